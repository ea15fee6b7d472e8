import PyProof.Rows.All
import Wide.All
import OpenK.AllK
import Wide.FinOn
import HandS.ForMost
import HandS.ForExc
import HandS.TupMul
import HandS.Wide
import HandS.TupAny
import HandS.Deep
import HandS.TupLe
import HandS.Style
import PyProof.Rows.IntBool
import HandS.DeepEq
import HandS.Walk
import HandS.Zip
import HandS.Rev
import HandS.RevRange
import HandS.ExcCtx
import HandS.CallSlots
import HandS.IsInst
import HandS.TryOnly
import HandS.SortInts
import HandS.Conv
import HandS.SortKw
import KE.KRevSl
import HandS.Dict
import KE.GoesMore
import HandS.Iter
import HandS.RaiseMore
import HandS.ExcInit
import HandS.ExcIs
import HandS.ExcField
import HandS.SetFor
import HandS.Strs
import KE.KExcIs
import HandS.Lambda
import KE.KSortKey
import HandS.Ends
import HandS.EndTab
import HandS.Star
import Wide.More
import HandS.Text
import HandS.StrMore
import HandS.FStr
import KE.DataMinMax
import PyProof.CollectIter
import HandS.More
import HandS.HotCalls
import KE.GoesEnum
import KE.GoesZip
import KE.DataCmp
import PyProof.MakeMany
import PyProof.AutoSeq1
import KE.KTryMore
import HandS.TupSets
import PySem.Challenge.RW_groupcaps_k35_whole_distances
set_option Elab.async false
set_option linter.all false
set_option maxRecDepth 100000
/-! F0: data, what stands for them in the heap, the world, the state of a frame. -/
namespace FD
open PySem PySem.Spec PyProof.Rows L2

/-- a datum: what a value means, without addresses -/
inductive D where
  | non | bl (b : Bool) | int (i : Int) | str (x : Str)
  | tup (ds : List D) | lst (ds : List D)
  | dct (kvs : List (Key × D))
  | obj (c : Str) (fs : List (Str × D))
  | ty (n : String) | hnd (n : Nat) | fn (n : Nat)

/-- the world: what is hidden from the data (the deck), with its state; the classes' addresses -/
structure Wd where
  T : Type
  On : T → (Addr → Prop) → Hp → Prop
  hid : Addr → Prop
  val : Nat → V
  fv : Nat → V := fun _ => .non
  ca : Str → Addr
  loc : ∀ t O O' H H', On t O H → (∀ a o, H a = some o → ¬ O a → H' a = some o ∧ ¬ O' a) → (∀ a o, (hid a ∨ ∃ φ, o = .ext φ) → H a = some o → H' a = some o) → On t O' H'
  trk : ∀ t O H a, On t O H → hid a → ∃ o, H a = some o ∧ ∀ xs, o ≠ .tup xs

theorem Wd.less {Z : Wd} {t : Z.T} {O O' : Addr → Prop} {H : Hp} (on : Z.On t O H) (h : ∀ a, O' a → O a) : Z.On t O' H := Z.loc t O O' H H on (fun a o e n => ⟨e, fun q => n (h a q)⟩) fun _ _ _ e => e
mutual
inductive Den (Z : Wd) (O : Addr → Prop) (H : Hp) : V → D → Prop
  | non : Den Z O H .non .non
  | bl (b : Bool) : Den Z O H (.bl b) (.bl b)
  | int (i : Int) : Den Z O H (.int i) (.int i)
  | str (x : Str) : Den Z O H (.str x) (.str x)
  | ty (n : String) : Den Z O H (.ty n) (.ty n)
  | hnd (n : Nat) : Den Z O H (Z.val n) (.hnd n)
  | fn (n : Nat) : Den Z O H (Z.fv n) (.fn n)
  | ref {a : Addr} {o : HO} {d : D} : H a = some o → ¬ O a → Cont Z O H o d → Den Z O H (.ref a) d
/-- what an object holds -/
inductive Cont (Z : Wd) (O : Addr → Prop) (H : Hp) : HO → D → Prop
  | tup {xs : List V} {ds : List D} : DenA Z O H xs ds → Cont Z O H (.tup xs) (.tup ds)
  | lst {xs : List V} {ds : List D} : DenA Z O H xs ds → Cont Z O H (.lst xs) (.lst ds)
  | dct {xs : List (Key × V)} {ds : List (Key × D)} : DenK Z O H xs ds → Cont Z O H (.dK xs) (.dct ds)
  | obj {c : Str} {dx : Addr} {fs : List (Str × V)} {ds : List (Str × D)} : DenF Z O H fs ds → Cont Z O H (.ins (Z.ca c) dx fs) (.obj c ds)
inductive DenA (Z : Wd) (O : Addr → Prop) (H : Hp) : List V → List D → Prop
  | nil : DenA Z O H [] []
  | cons {v : V} {vs : List V} {d : D} {ds : List D} : Den Z O H v d → DenA Z O H vs ds → DenA Z O H (v :: vs) (d :: ds)
inductive DenK (Z : Wd) (O : Addr → Prop) (H : Hp) : List (Key × V) → List (Key × D) → Prop
  | nil : DenK Z O H [] []
  | cons {k : Key} {v : V} {vs : List (Key × V)} {d : D} {ds : List (Key × D)} : Den Z O H v d → DenK Z O H vs ds → DenK Z O H ((k, v) :: vs) ((k, d) :: ds)
inductive DenF (Z : Wd) (O : Addr → Prop) (H : Hp) : List (Str × V) → List (Str × D) → Prop
  | nil : DenF Z O H [] []
  | cons {k : Str} {v : V} {vs : List (Str × V)} {d : D} {ds : List (Str × D)} : Den Z O H v d → DenF Z O H vs ds → DenF Z O H ((k, v) :: vs) ((k, d) :: ds)
end

section
variable {Z : Wd} {O O' : Addr → Prop} {H H' : Hp}
mutual
theorem Den.mono (k : ∀ a o, H a = some o → ¬ O a → H' a = some o ∧ ¬ O' a) : ∀ {v : V} {d : D}, Den Z O H v d → Den Z O' H' v d
  | _, _, .non => .non
  | _, _, .bl b => .bl b
  | _, _, .int i => .int i
  | _, _, .str x => .str x
  | _, _, .ty x => .ty x
  | _, _, .hnd n => .hnd n
  | _, _, .fn n => .fn n
  | _, _, .ref e n c => .ref (k _ _ e n).1 (k _ _ e n).2 (Cont.mono k c)
theorem Cont.mono (k : ∀ a o, H a = some o → ¬ O a → H' a = some o ∧ ¬ O' a) : ∀ {o : HO} {d : D}, Cont Z O H o d → Cont Z O' H' o d
  | _, _, .tup c => .tup (DenA.mono k c)
  | _, _, .lst c => .lst (DenA.mono k c)
  | _, _, .dct c => .dct (DenK.mono k c)
  | _, _, .obj c => .obj (DenF.mono k c)
theorem DenA.mono (k : ∀ a o, H a = some o → ¬ O a → H' a = some o ∧ ¬ O' a) : ∀ {v : List V} {d : List D}, DenA Z O H v d → DenA Z O' H' v d
  | _, _, .nil => .nil
  | _, _, .cons h r => .cons (Den.mono k h) (DenA.mono k r)
theorem DenK.mono (k : ∀ a o, H a = some o → ¬ O a → H' a = some o ∧ ¬ O' a) : ∀ {v : List (Key × V)} {d : List (Key × D)}, DenK Z O H v d → DenK Z O' H' v d
  | _, _, .nil => .nil
  | _, _, .cons h r => .cons (Den.mono k h) (DenK.mono k r)
theorem DenF.mono (k : ∀ a o, H a = some o → ¬ O a → H' a = some o ∧ ¬ O' a) : ∀ {v : List (Str × V)} {d : List (Str × D)}, DenF Z O H v d → DenF Z O' H' v d
  | _, _, .nil => .nil
  | _, _, .cons h r => .cons (Den.mono k h) (DenF.mono k r)
end
theorem DenA.len : ∀ {vs : List V} {ds : List D}, DenA Z O H vs ds → vs.length = ds.length
  | _, _, .nil => rfl
  | _, _, .cons _ r => by rw [List.length_cons, List.length_cons, DenA.len r]
theorem DenA.get : ∀ {vs : List V} {ds : List D} {i : Nat} {v : V}, DenA Z O H vs ds → vs[i]? = some v → ∃ d, ds[i]? = some d ∧ Den Z O H v d
  | _, _, _, _, .nil, e => by cases e
  | _, _, 0, _, .cons h _, e => by
    cases e
    exact ⟨_, rfl, h⟩
  | _, _, i + 1, _, .cons _ r, e => DenA.get (i := i) r e
theorem DenA.get2 : ∀ {vs : List V} {ds : List D} {i : Nat} {d : D}, DenA Z O H vs ds → ds[i]? = some d → ∃ v, vs[i]? = some v ∧ Den Z O H v d
  | _, _, _, _, .nil, e => by cases e
  | _, _, 0, _, .cons h _, e => by
    cases e
    exact ⟨_, rfl, h⟩
  | _, _, i + 1, _, .cons _ r, e => DenA.get2 (i := i) r e
theorem DenA.app : ∀ {vs ws : List V} {ds es : List D}, DenA Z O H vs ds → DenA Z O H ws es → DenA Z O H (vs ++ ws) (ds ++ es)
  | _, _, _, _, .nil, k => k
  | _, _, _, _, .cons h r, k => .cons h (DenA.app r k)
theorem DenA.one {v : V} {d : D} (h : Den Z O H v d) : DenA Z O H [v] [d] := .cons h .nil
theorem DenA.take : ∀ {vs : List V} {ds : List D} (n : Nat), DenA Z O H vs ds → DenA Z O H (vs.take n) (ds.take n)
  | _, _, 0, _ => .nil
  | _, _, _ + 1, .nil => .nil
  | _, _, n + 1, .cons r t => .cons r (DenA.take n t)
theorem DenA.drop : ∀ {vs : List V} {ds : List D} (n : Nat), DenA Z O H vs ds → DenA Z O H (vs.drop n) (ds.drop n)
  | _, _, 0, r => r
  | _, _, _ + 1, .nil => .nil
  | _, _, n + 1, .cons _ t => DenA.drop n t
theorem DenA.set : ∀ {vs : List V} {ds : List D} {v : V} {d : D} (n : Nat), DenA Z O H vs ds → Den Z O H v d → DenA Z O H (vs.set n v) (ds.set n d)
  | _, _, _, _, _, .nil, _ => .nil
  | _, _, _, _, 0, .cons _ t, h => .cons h t
  | _, _, _, _, n + 1, .cons r t, h => .cons r (DenA.set n t h)
theorem DenF.lookup {f : Str} : ∀ {vs : List (Str × V)} {ds : List (Str × D)} {d : D}, DenF Z O H vs ds → ds.lookup f = some d → ∃ v, vs.lookup f = some v ∧ Den Z O H v d
  | _, _, _, .nil, e => by cases e
  | (k, v) :: vs, (_, d) :: ds, d', .cons h r, e => by
    rw [List.lookup_cons] at e ⊢
    cases q : f == k with
    | true =>
      rw [q] at e
      cases e
      exact ⟨v, rfl, h⟩
    | false =>
      rw [q] at e
      exact DenF.lookup r e
theorem DenF.keys {f : Str} : ∀ {vs : List (Str × V)} {ds : List (Str × D)}, DenF Z O H vs ds → vs.map (·.1) = ds.map (·.1)
  | _, _, .nil => rfl
  | _, _, .cons _ r => by rw [List.map_cons, List.map_cons, DenF.keys (f := f) r]
end

/-- a slot: unset, a datum that others may hold too, a datum that no one else holds, the frame's own fixed value (an exception that is handled) -/
inductive Sl where
  | no | v (d : D) | o (d : D) | x

/-- the addresses that are not to be seen through data: the callers', the slots' own ones and the pending one (at 0) -/
def Hid (O₀ : Addr → Prop) (ow : Nat → Option Addr) : Addr → Prop := fun a => O₀ a ∨ ∃ i, ow i = some a

/-- an exception's fields, in its dict -/
def ExOk (Z : Wd) (O : Addr → Prop) (H : Hp) : Option Addr → List (Str × D) → Prop
  | none, fs => fs = []
  | some a, fs => ∃ vs, H a = some (.xd vs) ∧ ¬ O a ∧ DenF Z O H vs fs
theorem ExOk.mono {Z : Wd} {O O' : Addr → Prop} {H H' : Hp} (k : ∀ a o, H a = some o → ¬ O a → H' a = some o ∧ ¬ O' a) {d : Option Addr} {fs : List (Str × D)} (h : ExOk Z O H d fs) : ExOk Z O' H' d fs := by
  cases d with
  | none => exact h
  | some a =>
    obtain ⟨vs, e, n, q⟩ := h
    exact ⟨vs, (k a _ e n).1, (k a _ e n).2, q.mono k⟩
/-- an exception that is handled: its value, its dict, its fields by data -/
structure Exv where
  v : V
  d : Option Addr
  fs : List (Str × D)
def noEv : Exv := ⟨.non, none, []⟩
/-- what stands in slot i -/
def SlotOk (Z : Wd) (ev : Exv) (O : Addr → Prop) (H : Hp) (ow : Nat → Option Addr) (σ : L2.St) (i : Nat) : Sl → Prop
  | .no => True
  | .v d => ∃ v, σ[i]? = some (some v) ∧ Den Z O H v d
  | .o d => ∃ a o, ow (i + 1) = some a ∧ σ[i]? = some (some (V.ref a)) ∧ H a = some o ∧ Cont Z O H o d
  | .x => σ[i]? = some (some ev.v) ∧ ExOk Z O H ev.d ev.fs

/-- the frame's state, by data -/
structure Rel (Z : Wd) (ev : Exv) (O₀ : Addr → Prop) (H₀ : Hp) (ow : Nat → Option Addr) (τ : List Sl) (t : Z.T) (σ : L2.St) (H : Hp) : Prop where
  on : Z.On t (Hid O₀ ow) H
  hid : ∀ a, Z.hid a → O₀ a
  hidT : ∀ a, O₀ a → ∃ o, H₀ a = some o ∧ ∀ xs, o ≠ .tup xs
  grow : ∀ a o, H₀ a = some o → ¬ Z.hid a → H a = some o
  len : τ.length = σ.length
  slot : ∀ (i : Nat) (s : Sl), τ[i]? = some s → SlotOk Z ev (Hid O₀ ow) H ow σ i s
  inj : ∀ i j a, ow i = some a → ow j = some a → i = j
  new : ∀ i a, ow i = some a → H₀ a = none ∧ ∃ o, H a = some o ∧ ∀ xs, o ≠ .tup xs

/-- what was to be seen is to be seen, as it was -/
structure Ext (O : Addr → Prop) (H : Hp) (O' : Addr → Prop) (H' : Hp) : Prop where
  kept : ∀ a o, H a = some o → ¬ O a → H' a = some o
  hid : ∀ a, O' a → O a ∨ H a = none
theorem Ext.refl {O : Addr → Prop} {H : Hp} : Ext O H O H := ⟨fun _ _ e _ => e, fun _ h => .inl h⟩
theorem Ext.see {O O' : Addr → Prop} {H H' : Hp} (x : Ext O H O' H') : ∀ a o, H a = some o → ¬ O a → H' a = some o ∧ ¬ O' a := fun a o e n =>
  ⟨x.kept a o e n, fun h => (x.hid a h).elim n fun z => by rw [e] at z; cases z⟩
theorem Ext.trans {O O1 O2 : Addr → Prop} {H H1 H2 : Hp} (x : Ext O H O1 H1) (y : Ext O1 H1 O2 H2) : Ext O H O2 H2 := by
  refine ⟨fun a o e n => y.kept a o (x.kept a o e n) (x.see a o e n).2, fun a h => ?_⟩
  rcases y.hid a h with h | h
  · exact x.hid a h
  · cases e : H a with
    | none => exact .inr rfl
    | some o =>
      refine .inl (Classical.byContradiction fun n => ?_)
      rw [x.kept a o e n] at h
      cases h
theorem Den.ext {Z : Wd} {O O' : Addr → Prop} {H H' : Hp} (x : Ext O H O' H') {v : V} {d : D} (h : Den Z O H v d) : Den Z O' H' v d := h.mono x.see
theorem DenA.ext {Z : Wd} {O O' : Addr → Prop} {H H' : Hp} (x : Ext O H O' H') {v : List V} {d : List D} (h : DenA Z O H v d) : DenA Z O' H' v d := h.mono x.see
theorem Cont.ext {Z : Wd} {O O' : Addr → Prop} {H H' : Hp} (x : Ext O H O' H') {v : HO} {d : D} (h : Cont Z O H v d) : Cont Z O' H' v d := h.mono x.see

end FD

/-! F1: results, readings by functions, operators. -/
namespace FD
open PySem PySem.Spec PyProof.Rows L2

/-- what an expression gives: a datum others may hold, a new one that no one holds, the value of slot i -/
inductive Res where
  | d (d : D) | f (d : D) | s (i : Nat)
/-- an expression's end: a result, an exception -/
inductive Out where
  | ok (r : Res) | ex (c : Str) (fs : List (Str × D))
abbrev Sg (T : Type) := List Sl × T
abbrev EF (T : Type) := Sg T → Option (Out × Sg T)

/-- the frame: the world, the callers' hidden addresses, the heap at the entry, what is wanted of exceptions -/
structure Fx (Z : Wd) where
  O : Addr → Prop
  H : Hp
  W : WX
  ev : Exv

abbrev Fx.Rel {Z : Wd} (C : Fx Z) (ow : Nat → Option Addr) (τ : List Sl) (t : Z.T) (σ : L2.St) (H : Hp) : Prop := FD.Rel Z C.ev C.O C.H ow τ t σ H
abbrev Fx.Hid {Z : Wd} (C : Fx Z) (ow : Nat → Option Addr) : Addr → Prop := FD.Hid C.O ow

def ResOk {Z : Wd} (C : Fx Z) (ow : Nat → Option Addr) (τ : List Sl) (σ : L2.St) (H : Hp) (v : V) : Res → Prop
  | .d d => ow 0 = none ∧ Den Z (C.Hid ow) H v d
  | .f d => ∃ a o, ow 0 = some a ∧ v = .ref a ∧ H a = some o ∧ Cont Z (C.Hid ow) H o d
  | .s i => ow 0 = none ∧ σ[i]? = some (some v)

/-- what is wanted behind an expression -/
def Fin {Z : Wd} (C : Fx Z) (ow : Nat → Option Addr) (σ : L2.St) (H : Hp) (Q : VK) (s' : Sg Z.T) : Out → Prop
  | .ok r => ∀ ow' v H', C.Rel ow' s'.1 s'.2 σ H' → ResOk C ow' s'.1 σ H' v r → Ext (C.Hid ow) H (C.Hid ow') H' → Q v H'
  | .ex c fs => ∀ ow' d H', C.Rel ow' s'.1 s'.2 σ H' → ow' 0 = none → Ext (C.Hid ow) H (C.Hid ow') H' → ExOk Z (C.Hid ow') H' d fs → C.W (.ref (Z.ca c)) d σ H'
/-- the reading of an expression by a function of the data -/
def tF {Z : Wd} (C : Fx Z) (f : EF Z.T) : TE := fun σ H Q => ∃ ow τ t o s', C.Rel ow τ t σ H ∧ ow 0 = none ∧ f (τ, t) = some (o, s') ∧ Fin C ow σ H Q s' o

/-! ### states -/
section
variable {Z : Wd} {C : Fx Z} {ow ow' : Nat → Option Addr} {τ : List Sl} {t : Z.T} {σ : L2.St} {H H' : Hp} {v : V} {r : Res} {d : D}

/-- fewer addresses hidden -/
def drop (ow : Nat → Option Addr) (i : Nat) : Nat → Option Addr := fun j => if j = i then none else ow j
theorem drop_same {ow : Nat → Option Addr} {i : Nat} : drop ow i i = none := if_pos rfl
theorem drop_ne {ow : Nat → Option Addr} {i j : Nat} (h : j ≠ i) : drop ow i j = ow j := if_neg h
theorem drop_some {ow : Nat → Option Addr} {i j : Nat} {a : Addr} (h : drop ow i j = some a) : ow j = some a ∧ j ≠ i := by
  unfold drop at h
  split at h
  · cases h
  · exact ⟨h, by assumption⟩
theorem hid_drop {O₀ : Addr → Prop} {ow : Nat → Option Addr} {i : Nat} {a : Addr} (h : Hid O₀ (drop ow i) a) : Hid O₀ ow a :=
  h.imp id fun ⟨j, e⟩ => ⟨j, (drop_some e).1⟩
theorem ext_drop {O₀ : Addr → Prop} {ow : Nat → Option Addr} {i : Nat} {H : Hp} : Ext (Hid O₀ ow) H (Hid O₀ (drop ow i)) H :=
  ⟨fun _ _ e _ => e, fun _ h => .inl (hid_drop h)⟩

theorem Rel.open_ (R : C.Rel ow τ t σ H) {i : Nat} {a : Addr} (e : ow i = some a) : ¬ C.Hid (drop ow i) a := by
  rintro (h | ⟨j, h⟩)
  · obtain ⟨o, h1, _⟩ := R.hidT a h
    rw [(R.new i a e).1] at h1
    cases h1
  · obtain ⟨h1, h2⟩ := drop_some h
    exact h2 (R.inj j i a h1 e)

/-- slots behind a change of what is hidden -/
theorem SlotOk.ext {Z : Wd} {ev : Exv} {O O' : Addr → Prop} {H H' : Hp} {ow ow' : Nat → Option Addr} {σ : L2.St} {i : Nat} {s : Sl} (x : Ext O H O' H') (k : ∀ a, ow (i + 1) = some a → ow' (i + 1) = some a ∧ H' a = H a) (h : SlotOk Z ev O H ow σ i s) :
    SlotOk Z ev O' H' ow' σ i s := by
  cases s with
  | no => trivial
  | x => exact ⟨h.1, h.2.mono x.see⟩
  | v d =>
    obtain ⟨v, e, h⟩ := h
    exact ⟨v, e, h.ext x⟩
  | o d =>
    obtain ⟨a, o, e1, e2, e3, c⟩ := h
    obtain ⟨k1, k2⟩ := k a e1
    exact ⟨a, o, k1, e2, k2.trans e3, c.ext x⟩

/-- the pending object is let go of: it is a datum like others -/
theorem Rel.release (R : C.Rel ow τ t σ H) : C.Rel (drop ow 0) τ t σ H where
  on := Z.loc t _ _ H H R.on (fun a o e n => ⟨e, fun q => n (q.imp id fun ⟨j, h⟩ => ⟨j, (drop_some h).1⟩)⟩) fun _ _ _ e => e
  hid := R.hid
  hidT := R.hidT
  grow := R.grow
  len := R.len
  slot := fun i s e => (R.slot i s e).ext ext_drop fun a h => ⟨by rw [drop_ne (by omega)]; exact h, rfl⟩
  inj := fun i j a h1 h2 => R.inj i j a (drop_some h1).1 (drop_some h2).1
  new := fun i a h => R.new i a (drop_some h).1

/-- slot i is shared from now on -/
theorem Rel.share {i : Nat} (R : C.Rel ow τ t σ H) (e : τ[i]? = some (.o d)) : C.Rel (drop ow (i + 1)) (τ.set i (.v d)) t σ H where
  on := Z.loc t _ _ H H R.on (fun a o e n => ⟨e, fun q => n (q.imp id fun ⟨j, h⟩ => ⟨j, (drop_some h).1⟩)⟩) fun _ _ _ e => e
  hid := R.hid
  hidT := R.hidT
  grow := R.grow
  len := by rw [List.length_set]; exact R.len
  slot := fun j s h => by
    by_cases q : j = i
    · subst q
      have hl : j < τ.length := (List.getElem?_eq_some_iff.mp e).1
      rw [List.getElem?_set_self hl] at h
      cases h
      obtain ⟨a, o, e1, e2, e3, c⟩ := R.slot j _ e
      exact ⟨.ref a, e2, .ref e3 (R.open_ e1) (c.ext ext_drop)⟩
    · rw [List.getElem?_set_ne (Ne.symm q)] at h
      exact (R.slot j s h).ext ext_drop fun a h => ⟨by rw [drop_ne (by omega)]; exact h, rfl⟩
  inj := fun i j a h1 h2 => R.inj i j a (drop_some h1).1 (drop_some h2).1
  new := fun i a h => R.new i a (drop_some h).1

/-- the heap grows -/
def Grow (H H' : Hp) : Prop := ∀ a o, H a = some o → H' a = some o
theorem Grow.refl {H : Hp} : Grow H H := fun _ _ h => h
theorem Grow.new {H : Hp} {p : Addr} {o : HO} (h : H p = none) : Grow H (upd H p o) := fun a u e => by
  rw [upd_ne (ne_of_none e h)]
  exact e
theorem Grow.trans {H H1 H2 : Hp} (a : Grow H H1) (b : Grow H1 H2) : Grow H H2 := fun x o h => b x o (a x o h)
theorem Grow.ext {O : Addr → Prop} (g : Grow H H') : Ext O H O H' := ⟨fun a o e _ => g a o e, fun _ h => .inl h⟩

theorem Rel.grown (R : C.Rel ow τ t σ H) (g : Grow H H') : C.Rel ow τ t σ H' where
  on := Z.loc t _ _ H H' R.on (fun a o e n => ⟨g a o e, n⟩) fun a o _ e => g a o e
  hid := R.hid
  hidT := R.hidT
  grow := fun a o e n => g a o (R.grow a o e n)
  len := R.len
  slot := fun i s e => (R.slot i s e).ext g.ext fun a h => ⟨h, by
    obtain ⟨_, o, e, _⟩ := R.new _ a h
    rw [e]
    exact g a o e⟩
  inj := R.inj
  new := fun i a h => by
    obtain ⟨h1, o, e, n⟩ := R.new i a h
    exact ⟨h1, o, g a o e, n⟩

theorem Rel.track (R : C.Rel ow τ t σ H) {a : Addr} (h : C.Hid ow a) : ∃ o, H a = some o ∧ ∀ xs, o ≠ .tup xs := by
  rcases h with h | ⟨i, h⟩
  · by_cases q : Z.hid a
    · exact Z.trk t _ H a R.on q
    · obtain ⟨o, e, n⟩ := R.hidT a h
      exact ⟨o, R.grow a o e q, n⟩
  · exact (R.new i a h).2
theorem Rel.nohid (R : C.Rel ow τ t σ H) {p : Addr} (h : H p = none) : ¬ C.Hid ow p := fun q => by
  obtain ⟨o, e, _⟩ := R.track q
  rw [h] at e
  cases e

/-- what an operation on data hands back: (d, true) a new object -/
def Gets (Z : Wd) (O : Addr → Prop) (H : Hp) (v : V) (H' : Hp) (z : D × Bool) : Prop :=
  match z.2 with
  | false => Grow H H' ∧ Den Z O H' v z.1
  | true => ∃ p o, v = .ref p ∧ H p = none ∧ H' = upd H p o ∧ Cont Z O H o z.1 ∧ ∀ xs, o ≠ .tup xs
def resOf (z : D × Bool) : Res := if z.2 then .f z.1 else .d z.1
def put (ow : Nat → Option Addr) (i : Nat) (p : Addr) : Nat → Option Addr := fun j => if j = i then some p else ow j
theorem put_same {ow : Nat → Option Addr} {i : Nat} {p : Addr} : put ow i p i = some p := if_pos rfl
theorem put_ne {ow : Nat → Option Addr} {i j : Nat} {p : Addr} (h : j ≠ i) : put ow i p j = ow j := if_neg h
theorem put_some {ow : Nat → Option Addr} {i j : Nat} {p a : Addr} (h : put ow i p j = some a) : (j = i ∧ a = p) ∨ (j ≠ i ∧ ow j = some a) := by
  unfold put at h
  split at h
  · cases h
    exact .inl ⟨by assumption, rfl⟩
  · exact .inr ⟨by assumption, h⟩
theorem hid_put {O₀ : Addr → Prop} {ow : Nat → Option Addr} {i : Nat} {a p : Addr} (h : Hid O₀ (put ow i p) a) : Hid O₀ ow a ∨ a = p := by
  rcases h with h | ⟨j, e⟩
  · exact .inl (.inl h)
  · rcases put_some e with ⟨_, h⟩ | ⟨_, h⟩
    · exact .inr h
    · exact .inl (.inr ⟨j, h⟩)
theorem ext_put {O₀ : Addr → Prop} {ow : Nat → Option Addr} {i : Nat} {H : Hp} {p : Addr} {o : HO} (h : H p = none) : Ext (Hid O₀ ow) H (Hid O₀ (put ow i p)) (upd H p o) :=
  ⟨fun a u e _ => Grow.new h a u e, fun a q => (hid_put q).imp id fun z => by rw [z]; exact h⟩
/-- a new object is laid and pending -/
theorem Rel.pend {p : Addr} {o : HO} (R : C.Rel ow τ t σ H) (h0 : ow 0 = none) (h : H p = none) (hn : ∀ xs, o ≠ .tup xs) : C.Rel (put ow 0 p) τ t σ (upd H p o) where
  on := Z.loc t _ _ H _ R.on (fun a u e n => ⟨Grow.new h a u e, fun q => (hid_put q).elim n fun z => ne_of_none e h z⟩) fun a u _ e => Grow.new h a u e
  hid := R.hid
  hidT := R.hidT
  grow := fun a u e n => Grow.new h a u (R.grow a u e n)
  len := R.len
  slot := fun i s e => (R.slot i s e).ext (ext_put h) fun a q => ⟨by rw [put_ne (by omega)]; exact q, by
    obtain ⟨_, u, e, _⟩ := R.new _ a q
    rw [e]
    exact Grow.new h a u e⟩
  inj := fun i j a h1 h2 => by
    have old : ∀ i a, ow i = some a → a ≠ p := fun i a q z => by
      obtain ⟨_, u, e, _⟩ := R.new i a q
      rw [z, h] at e
      cases e
    rcases put_some h1 with ⟨e1, e2⟩ | ⟨_, e2⟩
    · rcases put_some h2 with ⟨e3, _⟩ | ⟨_, e4⟩
      · rw [e1, e3]
      · exact absurd e2 (old j a e4)
    · rcases put_some h2 with ⟨_, e3⟩ | ⟨_, e4⟩
      · exact absurd e3 (old i a e2)
      · exact R.inj i j a e2 e4
  new := fun i a q => by
    rcases put_some q with ⟨_, e⟩ | ⟨_, e⟩
    · subst e
      refine ⟨?_, o, upd_same, hn⟩
      cases z : C.H a with
      | none => rfl
      | some u =>
        by_cases g : Z.hid a
        · obtain ⟨u', e', _⟩ := Z.trk t _ H a R.on g
          rw [h] at e'
          cases e'
        · have := R.grow a u z g
          rw [h] at this
          cases this
    · obtain ⟨h1, u, e2, n⟩ := R.new i a e
      exact ⟨h1, u, Grow.new h a u e2, n⟩
theorem Rel.gets {H' : Hp} {v : V} {z : D × Bool} (R : C.Rel ow τ t σ H) (h0 : ow 0 = none) (g : Gets Z (C.Hid ow) H v H' z) :
    ∃ ow', C.Rel ow' τ t σ H' ∧ ResOk C ow' τ σ H' v (resOf z) ∧ Ext (C.Hid ow) H (C.Hid ow') H' := by
  obtain ⟨d, fr⟩ := z
  cases fr with
  | false => exact ⟨ow, R.grown g.1, ⟨h0, g.2⟩, g.1.ext⟩
  | true =>
    obtain ⟨p, o, rfl, h, rfl, c, n⟩ := g
    exact ⟨put ow 0 p, R.pend h0 h n, ⟨p, o, put_same, rfl, upd_same, c.ext (ext_put h)⟩, ext_put h⟩

/-! ### results used -/
/-- what a result holds, without sharing it -/
def peek (τ : List Sl) : Res → Option D
  | .d d => some d
  | .f d => some d
  | .s i => match τ[i]? with
    | some (.v d) => some d
    | some (.o d) => some d
    | _ => none
/-- a result as a datum for others -/
def give (τ : List Sl) : Res → Option (D × List Sl)
  | .d d => some (d, τ)
  | .f d => some (d, τ)
  | .s i => match τ[i]? with
    | some (.v d) => some (d, τ)
    | some (.o d) => some (d, τ.set i (.v d))
    | _ => none
/-- a result that waits while another expression runs -/
def hold : Res → Res
  | .f d => .d d
  | r => r
/-- a value shows a datum: it may be one's own -/
inductive Shows (Z : Wd) (O : Addr → Prop) (H : Hp) : V → D → Prop
  | den {v : V} {d : D} : Den Z O H v d → Shows Z O H v d
  | own {a : Addr} {o : HO} {d : D} : H a = some o → (∀ xs, o ≠ .tup xs) → Cont Z O H o d → Shows Z O H (.ref a) d
theorem ResOk.peek {d : D} (R : C.Rel ow τ t σ H) (h : ResOk C ow τ σ H v r) (e : FD.peek τ r = some d) : Shows Z (C.Hid ow) H v d := by
  cases r with
  | d _ =>
    cases e
    exact .den h.2
  | f _ =>
    cases e
    obtain ⟨a, o, h1, rfl, h3, c⟩ := h
    obtain ⟨_, u, e1, n⟩ := R.new _ a h1
    rw [h3] at e1
    cases e1
    exact .own h3 n c
  | s i =>
    obtain ⟨_, h2⟩ := h
    simp only [FD.peek] at e
    cases h3 : τ[i]? with
    | none => rw [h3] at e; cases e
    | some s =>
      have q := R.slot i s h3
      rw [h3] at e
      cases s with
      | no => cases e
      | x => cases e
      | v _ =>
        cases e
        obtain ⟨v', e1, q⟩ := q
        rw [h2] at e1
        cases e1
        exact .den q
      | o _ =>
        cases e
        obtain ⟨a, o, e1, e2, e3, c⟩ := q
        rw [h2] at e2
        cases e2
        obtain ⟨_, u, e4, n⟩ := R.new _ a e1
        rw [e3] at e4
        cases e4
        exact .own e3 n c
theorem ResOk.hold (R : C.Rel ow τ t σ H) (h : ResOk C ow τ σ H v r) : ∃ ow', C.Rel ow' τ t σ H ∧ ow' 0 = none ∧ ResOk C ow' τ σ H v (FD.hold r) ∧ Ext (C.Hid ow) H (C.Hid ow') H := by
  cases r with
  | d _ => exact ⟨ow, R, h.1, h, .refl⟩
  | s _ => exact ⟨ow, R, h.1, h, .refl⟩
  | f _ =>
    obtain ⟨a, o, h1, rfl, h3, c⟩ := h
    exact ⟨drop ow 0, R.release, drop_same, ⟨drop_same, .ref h3 (R.open_ h1) (c.ext ext_drop)⟩, ext_drop⟩
/-- what was held, later -/
theorem ResOk.later {ow' : Nat → Option Addr} {τ' : List Sl} {t' : Z.T} {H' : Hp} (R' : C.Rel ow' τ' t' σ H') (h : ResOk C ow τ σ H v (FD.hold r)) (x : Ext (C.Hid ow) H (C.Hid ow') H') {d : D} (e : FD.peek τ' (FD.hold r) = some d) :
    Shows Z (C.Hid ow') H' v d := by
  cases r with
  | d _ =>
    cases e
    exact .den (h.2.ext x)
  | f _ =>
    cases e
    exact .den (h.2.ext x)
  | s i =>
    obtain ⟨_, h2⟩ := h
    simp only [FD.hold, FD.peek] at e
    cases h3 : τ'[i]? with
    | none => rw [h3] at e; cases e
    | some s =>
      have q := R'.slot i s h3
      rw [h3] at e
      cases s with
      | no => cases e
      | x => cases e
      | v _ =>
        cases e
        obtain ⟨v', e1, q⟩ := q
        rw [h2] at e1
        cases e1
        exact .den q
      | o _ =>
        cases e
        obtain ⟨a, o, e1, e2, e3, c⟩ := q
        rw [h2] at e2
        cases e2
        obtain ⟨_, u, e4, n⟩ := R'.new _ a e1
        rw [e3] at e4
        cases e4
        exact .own e3 n c
theorem ResOk.give {d : D} {τ' : List Sl} (R : C.Rel ow τ t σ H) (h : ResOk C ow τ σ H v r) (e : FD.give τ r = some (d, τ')) :
    ∃ ow', C.Rel ow' τ' t σ H ∧ ow' 0 = none ∧ Den Z (C.Hid ow') H v d ∧ Ext (C.Hid ow) H (C.Hid ow') H := by
  cases r with
  | d _ =>
    cases e
    exact ⟨ow, R, h.1, h.2, .refl⟩
  | f _ =>
    cases e
    obtain ⟨a, o, h1, rfl, h3, c⟩ := h
    exact ⟨drop ow 0, R.release, drop_same, .ref h3 (R.open_ h1) (c.ext ext_drop), ext_drop⟩
  | s i =>
    obtain ⟨h1, h2⟩ := h
    simp only [FD.give] at e
    cases h3 : τ[i]? with
    | none => rw [h3] at e; cases e
    | some s =>
      have q := R.slot i s h3
      rw [h3] at e
      cases s with
      | no => cases e
      | x => cases e
      | v _ =>
        cases e
        obtain ⟨v', e1, q⟩ := q
        rw [h2] at e1
        cases e1
        exact ⟨ow, R, h1, q, .refl⟩
      | o _ =>
        cases e
        obtain ⟨a, o, e1, e2, e3, c⟩ := q
        rw [h2] at e2
        cases e2
        exact ⟨drop ow (i + 1), R.share h3, by rw [drop_ne (by omega)]; exact h1, .ref e3 (R.open_ e1) (c.ext ext_drop), ext_drop⟩
end
end FD

/-! F2: names, constants, operators, comparisons, tests. -/
namespace FD
open PySem PySem.Spec PyProof.Rows L2

/-- what is left to run, from where one stands -/
def Kn {Z : Wd} (C : Fx Z) (f : EF Z.T) (ow : Nat → Option Addr) (τ : List Sl) (t : Z.T) (σ : L2.St) (H : Hp) (Q : VK) : Prop := ∃ o s', f (τ, t) = some (o, s') ∧ Fin C ow σ H Q s' o

def bindF {T : Type} (f : EF T) (k : Res → EF T) : EF T := fun s => match f s with
  | none => none
  | some (.ex c fs, s1) => some (.ex c fs, s1)
  | some (.ok r, s1) => k r s1
/-- an operation on what the results hold -/
def doneF {T : Type} (g : List Sl → Option (D × Bool)) : EF T := fun s => match g s.1 with
  | none => none
  | some z => some (.ok (resOf z), s)

section
variable {Z : Wd} {C : Fx Z} {ow ow' : Nat → Option Addr} {τ : List Sl} {t : Z.T} {σ : L2.St} {H H' : Hp} {Q : VK} {f : EF Z.T} {k : Res → EF Z.T}
theorem Fin.from (x : Ext (C.Hid ow) H (C.Hid ow') H') {s' : Sg Z.T} {o : Out} (h : Fin C ow σ H Q s' o) : Fin C ow' σ H' Q s' o := by
  cases o with
  | ok r => exact fun ow2 v H2 R2 r2 x2 => h ow2 v H2 R2 r2 (x.trans x2)
  | ex c fs => exact fun ow2 d H2 R2 z x2 e => h ow2 d H2 R2 z (x.trans x2) e
theorem Kn.from (x : Ext (C.Hid ow) H (C.Hid ow') H') (h : Kn C f ow τ t σ H Q) : Kn C f ow' τ t σ H' Q := by
  obtain ⟨o, s', e, h⟩ := h
  exact ⟨o, s', e, h.from x⟩
theorem tF.at_ (h : tF C f σ H Q) : ∃ ow τ t, C.Rel ow τ t σ H ∧ ow 0 = none ∧ Kn C f ow τ t σ H Q := by
  obtain ⟨ow, τ, t, o, s', R, h0, e, h⟩ := h
  exact ⟨ow, τ, t, R, h0, o, s', e, h⟩
theorem tF_mono {Q' : VK} (h : tF C f σ H Q) (k : ∀ v H, Q v H → Q' v H) : tF C f σ H Q' := by
  obtain ⟨ow, τ, t, o, s', R, h0, e, h⟩ := h
  refine ⟨ow, τ, t, o, s', R, h0, e, ?_⟩
  cases o with
  | ok r => exact fun ow' v H' R' r' x => k v H' (h ow' v H' R' r' x)
  | ex c fs => exact h
theorem Kn.tF (h : Kn C f ow τ t σ H Q) (R : C.Rel ow τ t σ H) (h0 : ow 0 = none) : FD.tF C f σ H Q := by
  obtain ⟨o, s', e, h⟩ := h
  exact ⟨ow, τ, t, o, s', R, h0, e, h⟩
/-- behind the first of two -/
def Behind {Z : Wd} (C : Fx Z) (k : Res → EF Z.T) (ow : Nat → Option Addr) (σ : L2.St) (H : Hp) (Q : VK) (v : V) (H1 : Hp) : Prop :=
  ∃ ow1 τ1 t1 r, C.Rel ow1 τ1 t1 σ H1 ∧ ResOk C ow1 τ1 σ H1 v r ∧ Kn C (k r) ow1 τ1 t1 σ H1 Q ∧ Ext (C.Hid ow) H (C.Hid ow1) H1
theorem Kn.bind (h : Kn C (bindF f k) ow τ t σ H Q) (R : C.Rel ow τ t σ H) (h0 : ow 0 = none) : FD.tF C f σ H (Behind C k ow σ H Q) := by
  obtain ⟨o, s', e, h⟩ := h
  unfold bindF at e
  cases q : f (τ, t) with
  | none => rw [q] at e; cases e
  | some z =>
    obtain ⟨o1, s1⟩ := z
    rw [q] at e
    cases o1 with
    | ex c fs =>
      cases e
      exact ⟨ow, τ, t, _, _, R, h0, q, h⟩
    | ok r => exact ⟨ow, τ, t, _, _, R, h0, q, fun ow1 v H1 R1 r1 x1 => ⟨ow1, s1.1, s1.2, r, R1, r1, ⟨o, s', e, h.from x1⟩, x1⟩⟩
theorem Kn.done {g : List Sl → Option (D × Bool)} (h : Kn C (doneF g) ow τ t σ H Q) (R : C.Rel ow τ t σ H) (h0 : ow 0 = none) : ∃ z, g τ = some z ∧ ∀ v H', Gets Z (C.Hid ow) H v H' z → Q v H' := by
  obtain ⟨o, s', e, h⟩ := h
  unfold doneF at e
  cases q : g τ with
  | none => simp only [q] at e; cases e
  | some z =>
    simp only [q] at e
    cases e
    refine ⟨z, rfl, fun v H' g => ?_⟩
    obtain ⟨ow', R', r', x⟩ := R.gets h0 g
    exact h ow' v H' R' r' x
end

/-- an operation of two data -/
def rD2 (Z : Wd) (op : D → D → Option (D × Bool)) : R2 := fun x y H Q => ∃ O dx dy z, (∀ p, H p = none → ¬ O p) ∧ Shows Z O H x dx ∧ Shows Z O H y dy ∧ op dx dy = some z ∧ ∀ v H', Gets Z O H v H' z → Q v H'
def OpD (Z : Wd) (X : Cx) (f : Value → Value → Sem Value) (op : D → D → Option (D × Bool)) : Prop := OpR X f (rD2 Z op)
def binF {T : Type} (op : D → D → Option (D × Bool)) (fa fb : EF T) : EF T := bindF fa fun ra => bindF fb fun rb => doneF fun τ => match peek τ (hold ra), peek τ (hold rb) with
  | some x, some y => op x y
  | _, _ => none

section
variable {Z : Wd} {C : Fx Z} {X : Cx} {a b e : Expr} {fa fb fc : EF Z.T} {pos : Pos}
theorem tOp_of {op : D → D → Option (D × Bool)} {σ : L2.St} {H : Hp} {Q : VK} (h : tF C (binF op fa fb) σ H Q) : tOp (rD2 Z op) (tF C fa) (tF C fb) σ H Q := by
  obtain ⟨ow, τ, t, R, h0, h⟩ := h.at_
  refine tF_mono (h.bind R h0) fun x H1 ⟨ow1, τ1, t1, ra, R1, r1, h1, _⟩ => ?_
  obtain ⟨ow1', R1', z1, r1', x1⟩ := r1.hold R1
  refine tF_mono ((h1.from x1).bind R1' z1) fun y H2 ⟨ow2, τ2, t2, rb, R2, r2, h2, x2⟩ => ?_
  obtain ⟨ow3, R3, z3, r3, x3⟩ := r2.hold R2
  obtain ⟨z, e, q⟩ := (h2.from x3).done R3 z3
  cases pa : peek τ2 (hold ra) with
  | none => simp only [pa] at e; cases e
  | some dx =>
    cases pb : peek τ2 (hold rb) with
    | none => simp only [pa, pb] at e; cases e
    | some dy =>
      simp only [pa, pb] at e
      exact ⟨_, dx, dy, z, fun p hp => R3.nohid hp, r1'.later R3 (x2.trans x3) pa, r3.peek R3 pb, e, q⟩
theorem ev_bin {op : Operator} {g : D → D → Option (D × Bool)} (ho : OpD Z X (binaryOp op) g) (ha : PE X a (tF C fa)) (hb : PE X b (tF C fb)) : PE X (.BinOp a op b pos) (tF C (binF g fa fb)) :=
  ⟨fun pins s σ H Q I h => (pe_op ho ha hb).run pins s σ H Q I (tOp_of h)⟩
theorem ev_cmp {op : CmpOp} {g : D → D → Option (D × Bool)} (ho : OpD Z X (compareOp op) g) (ha : PE X a (tF C fa)) (hb : PE X b (tF C fb)) (hm : behindInMarks op b = false) : PE X (.Compare a [op] [b] pos) (tF C (binF g fa fb)) :=
  ⟨fun pins s σ H Q I h => (pe_cmpR ho ha hb hm).run pins s σ H Q I (tOp_of h)⟩

/-! ### names, constants -/
def varF {T : Type} (i : Nat) : EF T := fun s => match s.1[i]? with
  | some (.v _) => some (.ok (.s i), s)
  | some (.o _) => some (.ok (.s i), s)
  | _ => none
def conF {T : Type} (d : D) : EF T := fun s => some (.ok (.d d), s)
theorem ev_var {i : Nat} (he : PE X e (tVar i)) : PE X e (tF C (varF i)) := ⟨fun pins s σ H Q I h => he.run pins s σ H Q I (by
  obtain ⟨ow, τ, t, o, s', R, h0, e, h⟩ := h
  unfold varF at e
  cases q : τ[i]? with
  | none => simp only [q] at e; cases e
  | some sl =>
    have ok := R.slot i sl q
    cases sl with
    | no => simp only [q] at e; cases e
    | x => simp only [q] at e; cases e
    | v d =>
      simp only [q] at e
      cases e
      obtain ⟨v, e1, _⟩ := ok
      exact ⟨v, e1, h ow v H R ⟨h0, e1⟩ .refl⟩
    | o d =>
      simp only [q] at e
      cases e
      obtain ⟨a, u, _, e1, _⟩ := ok
      exact ⟨.ref a, e1, h ow _ H R ⟨h0, e1⟩ .refl⟩)⟩
/-- a constant: flat data alone -/
theorem ev_con {v : V} {d : D} (he : PE X e (tC v)) (hd : ∀ O H, Den Z O H v d) : PE X e (tF C (conF d)) := ⟨fun pins s σ H Q I h => he.run pins s σ H Q I (by
  obtain ⟨ow, τ, t, o, s', R, h0, e, h⟩ := h
  cases e
  exact h ow v H R ⟨h0, hd _ _⟩ .refl)⟩
theorem ev_int {i : Int} {j : Nat} : PE X (.Constant (.int i) j pos) (tF C (conF (.int i))) := ev_con pe_int fun _ _ => .int i
theorem ev_bl {i : Bool} {j : Nat} : PE X (.Constant (.bool i) j pos) (tF C (conF (.bl i))) := ev_con pe_bl fun _ _ => .bl i
theorem ev_non {j : Nat} : PE X (.Constant .none j pos) (tF C (conF .non)) := ev_con pe_non fun _ _ => .non
/-! ### one operand -/
def rD1 (Z : Wd) (op : D → Option (D × Bool)) : V → Hp → VK → Prop := fun x H Q => ∃ O dx z, (∀ p, H p = none → ¬ O p) ∧ Shows Z O H x dx ∧ op dx = some z ∧ ∀ v H', Gets Z O H v H' z → Q v H'
def unF {T : Type} (op : D → Option (D × Bool)) (fa : EF T) : EF T := bindF fa fun ra => doneF fun τ => match peek τ (hold ra) with
  | some x => op x
  | none => none
theorem tUn_of {op : D → Option (D × Bool)} {σ : L2.St} {H : Hp} {Q : VK} (h : tF C (unF op fa) σ H Q) : tUn (rD1 Z op) (tF C fa) σ H Q := by
  obtain ⟨ow, τ, t, R, h0, h⟩ := h.at_
  refine tF_mono (h.bind R h0) fun x H1 ⟨ow1, τ1, t1, ra, R1, r1, h1, _⟩ => ?_
  obtain ⟨ow1', R1', z1, r1', x1⟩ := r1.hold R1
  obtain ⟨z, e, q⟩ := (h1.from x1).done R1' z1
  cases pa : peek τ1 (hold ra) with
  | none => simp only [pa] at e; cases e
  | some dx =>
    simp only [pa] at e
    exact ⟨_, dx, z, fun p hp => R1'.nohid hp, r1'.peek R1' pa, e, q⟩
end
end FD

set_option maxHeartbeats 1000000
/-! F2b: a tuple, once or not at all. -/
namespace FD
open PySem PySem.Spec PyProof.Rows L2
theorem mulT1 (l : Addr) (items : Array Value) (n : Nat) (dd : Option Addr) (sl : Array (Option Value)) (x : Int) (u : Tok) (c0 : (decide (x < -(2 ^ 63)) || decide (x ≥ 2 ^ 63)) = false) (c1 : (items.isEmpty || x == 1) = true) :
    Meets (Builtin.«tuple.__mul__» ⟨[.ref l, .int x u], []⟩) (fun _ R s => s.heap.get? l = some { cls := .type "tuple", dict := dd, data := .seq items n, slots := sl } ∧ R (.ok (.ret (.ref l))) s) :=
  .of_wp fun prog w A R s h => by
    obtain ⟨hp, g, d, tk, os⟩ := s
    obtain ⟨hl, h⟩ := h
    have f1 := AutoSeq1.idx_int
    wp_walk using wpAny_loadPart' hl
    refine wpAny_ite_false (decide_eq_false (by rw [c0]; exact Bool.false_ne_true)) ?_
    wp_walk using wpAny_loadPart' hl
    exact ⟨_, rfl, h⟩
theorem mulT0 (l : Addr) (items : Array Value) (n : Nat) (dd : Option Addr) (sl : Array (Option Value)) (x : Int) (u : Tok) (c0 : (decide (x < -(2 ^ 63)) || decide (x ≥ 2 ^ 63)) = false) (c1 : (items.isEmpty || x == 1) = false) (c2 : (decide (x ≤ 0) || items.isEmpty) = true) :
    Meets (Builtin.«tuple.__mul__» ⟨[.ref l, .int x u], []⟩) (fun _ R s => s.heap.get? l = some { cls := .type "tuple", dict := dd, data := .seq items n, slots := sl } ∧
      R (.ok (.ret (Value.ref s.heap.objs.size))) { s with heap := s.heap.push { cls := Value.type "tuple", data := Data.seq #[] }, toks := s.toks }) :=
  .of_wp fun prog w A R s h => by
    obtain ⟨hp, g, d, tk, os⟩ := s
    obtain ⟨hl, h⟩ := h
    have f1 := AutoSeq1.idx_int
    wp_walk using wpAny_loadPart' hl
    refine wpAny_ite_false (decide_eq_false (by rw [c0]; exact Bool.false_ne_true)) ?_
    wp_walk using wpAny_loadPart' hl
    repeat (first
      | (refine wpAny_ite_false (decide_eq_false (by rw [c1]; exact Bool.false_ne_true)) ?_; wp_walk using wpAny_loadPart' hl)
      | (refine wpAny_ite_true (decide_eq_true (by rw [c2])) ?_; wp_walk using wpAny_loadPart' hl))
    exact ⟨_, rfl, h⟩
def rRep1 (K : PySem.W.Frag) : R2 := fun x y H Q => ∃ l xs, x = .ref l ∧ y = .int 1 ∧ SqT K H l xs ∧ Q (.ref l) H
def rRep0 (K : PySem.W.Frag) : R2 := fun x y H Q => ∃ l k xs, x = .ref l ∧ y = .int k ∧ SqT K H l xs ∧ xs ≠ [] ∧ -1000 ≤ k ∧ k ≤ 0 ∧ ∀ p, H p = none → Q (.ref p) (upd H p (.tup []))
section
variable {X : Cx}
theorem op_rep1 : OpR X (binaryOp .Mult) (rRep1 X.K) := by
  intro pins s σ H x y v u Q I rx ry h
  obtain ⟨l, xs, rfl, rfl, hT, q⟩ := h
  cases rx
  obtain ⟨t, rfl⟩ := ry
  obtain ⟨its, r, ⟨⟨cls, dd, data, sl⟩, ho, hc, n, hd⟩, _⟩ := I.tuple hT
  simp only at hc hd
  subst hc hd
  exact wpAny_binaryOp_repeat_ref (T := "tuple") (U := "int") (by decide) ⟨_, ho, rfl⟩ (fun s' => typeIs_int s' 1 t) noFill_tuple_mul F.fills_int_mul F.slot_int_rmul repeat_tuple F.slot_int_index.lookup
    (call_meets F.slot_int_rmul (typeIs_int s 1 t) F.entry_int_rmul (F.args_int_rmul_2 _ _) (int_rmul_tuple 1 t l its.toArray n dd sl)
      ⟨ho, rfl, ⟨_, ho, rfl⟩, call_meets F.slot_tuple_mul ⟨_, ho, rfl⟩ F.entry_tuple_mul (F.args_tuple_mul_2 _ _) (mulT1 l its.toArray n dd sl 1 t (by decide) (by simp)) ⟨ho, .ref l, H, I, rfl, q⟩⟩)
theorem op_rep0 : OpR X (binaryOp .Mult) (rRep0 X.K) := by
  intro pins s σ H x y v u Q I rx ry h
  obtain ⟨l, k, xs, rfl, rfl, hT, hne, h1, h2, q⟩ := h
  cases rx
  obtain ⟨t, rfl⟩ := ry
  obtain ⟨its, r, ⟨⟨cls, dd, data, sl⟩, ho, hc, n, hd⟩, _⟩ := I.tuple hT
  simp only at hc hd
  subst hc hd
  have hi : its.toArray.isEmpty = false := by
    cases its with
    | nil => exact absurd (List.eq_nil_of_length_eq_zero (r.length.trans rfl)) hne
    | cons a b => rfl
  have c0 : (decide (k < -(2 ^ 63)) || decide (k ≥ 2 ^ 63)) = false := by
    rw [decide_eq_false (by omega), decide_eq_false (by omega)] <;> rfl
  have c1 : (its.toArray.isEmpty || k == 1) = false := by
    rw [hi, Bool.false_or]
    exact beq_eq_false_iff_ne.mpr (by omega)
  have c2 : (decide (k ≤ 0) || its.toArray.isEmpty) = true := by
    rw [hi, Bool.or_false]
    exact decide_eq_true h2
  refine wpAny_binaryOp_repeat_ref (T := "tuple") (U := "int") (by decide) ⟨_, ho, rfl⟩ (fun s' => typeIs_int s' k t) noFill_tuple_mul F.fills_int_mul F.slot_int_rmul repeat_tuple F.slot_int_index.lookup
    (call_meets F.slot_int_rmul (typeIs_int s k t) F.entry_int_rmul (F.args_int_rmul_2 _ _) (int_rmul_tuple k t l its.toArray n dd sl)
      ⟨ho, rfl, ⟨_, ho, rfl⟩, call_meets F.slot_tuple_mul ⟨_, ho, rfl⟩ F.entry_tuple_mul (F.args_tuple_mul_2 _ _) (mulT0 l its.toArray n dd sl k t c0 c1 c2) ⟨ho, ?_⟩⟩)
  refine ⟨.ref s.heap.objs.size, _, I.laid (t' := s.toks) (o := .tup []) (fun b ob q => Heap.get?_push_of_some _ q) (Nat.le_refl _) ?_, rfl, q _ (I.hok.fresh (Nat.le_refl _))⟩
  exact ⟨Nat.zero_le _, [], .nil, IsTup.new _ _⟩
end
end FD

/-! F3: the operators on data. -/
namespace FD
open PySem PySem.Spec PyProof.Rows L2

section
variable {Z : Wd} {O : Addr → Prop} {H : Hp} {v : V}
theorem Shows.int {i : Int} (h : Shows Z O H v (.int i)) : v = .int i := by
  cases h with
  | den h => cases h with
    | int => rfl
    | ref e n c => cases c
  | own e n c => cases c
theorem Shows.bl {i : Bool} (h : Shows Z O H v (.bl i)) : v = .bl i := by
  cases h with
  | den h => cases h with
    | bl => rfl
    | ref e n c => cases c
  | own e n c => cases c
theorem Shows.str {i : Str} (h : Shows Z O H v (.str i)) : v = .str i := by
  cases h with
  | den h => cases h with
    | str => rfl
    | ref e n c => cases c
  | own e n c => cases c
theorem Shows.non (h : Shows Z O H v .non) : v = .non := by
  cases h with
  | den h => cases h with
    | non => rfl
    | ref e n c => cases c
  | own e n c => cases c
theorem Shows.ty {n : String} (h : Shows Z O H v (.ty n)) : v = .ty n := by
  cases h with
  | den h => cases h with
    | ty => rfl
    | ref e n c => cases c
  | own e n c => cases c
theorem Shows.lst {ds : List D} (h : Shows Z O H v (.lst ds)) : ∃ a xs, v = .ref a ∧ H a = some (.lst xs) ∧ DenA Z O H xs ds := by
  cases h with
  | den h => cases h with
    | ref e n c => cases c with
      | lst c => exact ⟨_, _, rfl, e, c⟩
  | own e n c => cases c with
    | lst c => exact ⟨_, _, rfl, e, c⟩
theorem Shows.tup {ds : List D} (h : Shows Z O H v (.tup ds)) : ∃ a xs, v = .ref a ∧ H a = some (.tup xs) ∧ DenA Z O H xs ds ∧ ¬ O a := by
  cases h with
  | den h => cases h with
    | ref e n c => cases c with
      | tup c => exact ⟨_, _, rfl, e, c, n⟩
  | own e n c => cases c with
    | tup c => exact absurd rfl (n _)
theorem Shows.obj {k : Str} {fs : List (Str × D)} (h : Shows Z O H v (.obj k fs)) : ∃ a dx xs, v = .ref a ∧ H a = some (.ins (Z.ca k) dx xs) ∧ DenF Z O H xs fs := by
  cases h with
  | den h => cases h with
    | ref e n c => cases c with
      | obj c => exact ⟨_, _, _, rfl, e, c⟩
  | own e n c => cases c with
    | obj c => exact ⟨_, _, _, rfl, e, c⟩
theorem Shows.dct {fs : List (Key × D)} (h : Shows Z O H v (.dct fs)) : ∃ a xs, v = .ref a ∧ H a = some (.dK xs) ∧ DenK Z O H xs fs := by
  cases h with
  | den h => cases h with
    | ref e n c => cases c with
      | dct c => exact ⟨_, _, rfl, e, c⟩
  | own e n c => cases c with
    | dct c => exact ⟨_, _, rfl, e, c⟩
theorem DenA.ints : ∀ {vs : List V} {ns : List Int}, DenA Z O H vs (ns.map D.int) → vs = ns.map V.int
  | _, [], .nil => rfl
  | _, n :: r, .cons h k => by
    rw [(Shows.den h).int, DenA.ints k]
    rfl
/-- new objects -/
theorem Gets.lst {p : Addr} {xs : List V} {ds : List D} (hp : H p = none) (h : DenA Z O H xs ds) : Gets Z O H (.ref p) (upd H p (.lst xs)) (.lst ds, true) :=
  ⟨p, _, rfl, hp, rfl, .lst h, fun _ z => by cases z⟩
theorem Gets.tup {p : Addr} {xs : List V} {ds : List D} (hO : ∀ p, H p = none → ¬ O p) (hp : H p = none) (h : DenA Z O H xs ds) : Gets Z O H (.ref p) (upd H p (.tup xs)) (.tup ds, false) :=
  ⟨Grow.new hp, .ref upd_same (hO p hp) (.tup (h.mono fun a o e n => ⟨Grow.new hp a o e, n⟩))⟩
theorem Gets.same {d : D} (h : Den Z O H v d) : Gets Z O H v H (d, false) := ⟨Grow.refl, h⟩
end

/-! ### equality -/
mutual
def okD : Nat → D → Bool
  | _, .non | _, .bl _ | _, .int _ => true
  | _, .str x => PyData.canLay0 (.str x)
  | n + 1, .tup ds => okAll n ds
  | n + 1, .lst ds => okAll n ds
  | _, _ => false
def okAll : Nat → List D → Bool
  | _, [] => true
  | n, d :: ds => okD n d && okAll n ds
end
mutual
def py : D → PyData
  | .non => .none
  | .bl b => .bool b
  | .int i => .int i
  | .str x => .str x
  | .tup ds => .tuple (pys ds)
  | .lst ds => .list (pys ds)
  | _ => .none
def pys : List D → List PyData
  | [] => []
  | d :: ds => py d :: pys ds
end
mutual
theorem okD_lay : ∀ (n : Nat) (d : D), okD n d = true → (py d).canLay0 = true
  | _, .non, _ => by simp [py, PyData.canLay0]
  | _, .bl _, _ => by simp [py, PyData.canLay0]
  | _, .int _, _ => by simp [py, PyData.canLay0]
  | n, .str x, h => by cases n <;> simpa [okD, py] using h
  | 0, .tup _, h => by simp [okD] at h
  | 0, .lst _, h => by simp [okD] at h
  | n + 1, .tup ds, h => by
    simp only [py, PyData.canLay0]
    exact okAll_lay n ds (by simpa [okD] using h)
  | n + 1, .lst ds, h => by
    simp only [py, PyData.canLay0]
    exact okAll_lay n ds (by simpa [okD] using h)
  | n, .dct _, h => by cases n <;> simp [okD] at h
  | n, .obj _ _, h => by cases n <;> simp [okD] at h
  | n, .ty _, h => by cases n <;> simp [okD] at h
  | n, .hnd _, h => by cases n <;> simp [okD] at h
  | n, .fn _, h => by cases n <;> simp [okD] at h
theorem okAll_lay : ∀ (n : Nat) (d : List D), okAll n d = true → PyData.canLayAll0 (pys d) = true
  | _, [], _ => by simp [pys, PyData.canLayAll0]
  | n, d :: ds, h => by
    simp only [okAll, Bool.and_eq_true] at h
    simp only [pys, PyData.canLayAll0, okD_lay n d h.1, okAll_lay n ds h.2, Bool.and_self]
end
mutual
theorem okD_depth : ∀ (n : Nat) (d : D), okD n d = true → (py d).depth ≤ n
  | _, .non, _ => by simp [py, PyData.depth]
  | _, .bl _, _ => by simp [py, PyData.depth]
  | _, .int _, _ => by simp [py, PyData.depth]
  | n, .str x, h => by simp [py, PyData.depth]
  | 0, .tup _, h => by simp [okD] at h
  | 0, .lst _, h => by simp [okD] at h
  | n + 1, .tup ds, h => by
    simp only [py, PyData.depth]
    have := okAll_depth n ds (by simpa [okD] using h)
    omega
  | n + 1, .lst ds, h => by
    simp only [py, PyData.depth]
    have := okAll_depth n ds (by simpa [okD] using h)
    omega
  | n, .dct _, h => by cases n <;> simp [okD] at h
  | n, .obj _ _, h => by cases n <;> simp [okD] at h
  | n, .ty _, h => by cases n <;> simp [okD] at h
  | n, .hnd _, h => by cases n <;> simp [okD] at h
  | n, .fn _, h => by cases n <;> simp [okD] at h
theorem okAll_depth : ∀ (n : Nat) (d : List D), okAll n d = true → PyData.depthAll (pys d) ≤ n
  | _, [], _ => by simp [pys, PyData.depthAll]
  | n, d :: ds, h => by
    simp only [okAll, Bool.and_eq_true] at h
    have h1 := okD_depth n d h.1
    have h2 := okAll_depth n ds h.2
    simp only [pys, PyData.depthAll]
    omega
end
theorem okD_shaped {d : D} (h : okD 64 d = true) : SeqAt.shaped (py d) = true := by
  unfold SeqAt.shaped
  rw [okD_lay 64 d h, Bool.true_and]
  exact decide_eq_true (okD_depth 64 d h)
section
variable {Z : Wd} {O : Addr → Prop} {H : Hp}
mutual
theorem Den.dp {K : PySem.W.Frag} : ∀ {n : Nat} {v : V} {d : D}, okD n d = true → Den Z O H v d → Dp K H v (py d)
  | _, _, _, _, .non => .non
  | _, _, _, _, .bl b => .bl b
  | _, _, _, _, .int i => .int i
  | _, _, _, _, .str x => .str x
  | n, .ty _, .ty _, h, .ty _ => by cases n <;> simp [okD] at h
  | n, _, .hnd _, h, .hnd _ => by cases n <;> simp [okD] at h
  | n, _, .fn _, h, .fn _ => by cases n <;> simp [okD] at h
  | n, _, _, h, .ref e m c => Cont.dp h e c
theorem Cont.dp {K : PySem.W.Frag} : ∀ {n : Nat} {a : Addr} {o : HO} {d : D}, okD n d = true → H a = some o → Cont Z O H o d → Dp K H (.ref a) (py d)
  | 0, _, _, _, h, e, .tup c => by simp [okD] at h
  | 0, _, _, _, h, e, .lst c => by simp [okD] at h
  | n + 1, _, _, .tup ds, h, e, .tup c => .tup (SqT.of e) (DenA.dp (n := n) (by simpa [okD] using h) c)
  | n + 1, _, _, .lst ds, h, e, .lst c => .lst (SqL.of e) (DenA.dp (n := n) (by simpa [okD] using h) c)
  | n, _, _, .dct _, h, e, .dct c => by cases n <;> simp [okD] at h
  | n, _, _, .obj _ _, h, e, .obj c => by cases n <;> simp [okD] at h
theorem DenA.dp {K : PySem.W.Frag} : ∀ {n : Nat} {vs : List V} {ds : List D}, okAll n ds = true → DenA Z O H vs ds → DpAll K H vs (pys ds)
  | _, _, _, _, .nil => .nil
  | n, _, d :: ds, h, .cons q r => by
    simp only [okAll, Bool.and_eq_true] at h
    exact .cons (Den.dp h.1 q) (DenA.dp h.2 r)
end
theorem Shows.dp {K : PySem.W.Frag} {v : V} {d : D} (h : okD 64 d = true) (s : Shows Z O H v d) : Dp K H v (py d) := by
  cases s with
  | den s => exact s.dp h
  | own e _ c => exact c.dp h e
end

abbrev LEN : Nat := 100000
theorem len_line {n : Nat} (h : n ≤ LEN) : n ≤ sizeLine := Nat.le_trans h (by decide)
/-- numbers that may be multiplied -/
def Fair (i : Int) : Prop := i.natAbs < 2 ^ 8000
instance (i : Int) : Decidable (Fair i) := inferInstanceAs (Decidable (_ < _))

def addD : D → D → Option (D × Bool)
  | .int i, .int j => some (.int (i + j), false)
  | .int i, .bl j => some (.int (i + b2i j), false)
  | .bl i, .int j => some (.int (b2i i + j), false)
  | .str x, .str y => if x.length + y.length ≤ LEN then some (.str (x ++ y), false) else none
  | .lst x, .lst y => if x.length + y.length ≤ LEN then some (.lst (x ++ y), true) else none
  | .tup x, .tup y => if x.length + y.length ≤ LEN then some (.tup (x ++ y), false) else none
  | _, _ => none
def subD : D → D → Option (D × Bool)
  | .int i, .int j => some (.int (i - j), false)
  | .bl i, .int j => some (.int (b2i i - j), false)
  | _, _ => none
def mulD : D → D → Option (D × Bool)
  | .int i, .int j => if Fair i ∧ Fair j then some (.int (i * j), false) else none
  | .lst x, .int k => if -1000 ≤ k ∧ k ≤ 1000 ∧ x.length ≤ 1000 ∧ x.length * k.toNat ≤ LEN then some (.lst (List.replicate k.toNat x).flatten, true) else none
  | .tup x, .int k => if x ≠ [] ∧ -1000 ≤ k ∧ k ≤ 1000 ∧ x.length ≤ 1000 then some (.tup (List.replicate k.toNat x).flatten, false) else none
  | _, _ => none
def powD : D → D → Option (D × Bool)
  | .int i, .int j => if 0 ≤ j ∧ j ≤ 1000 ∧ i.natAbs < 2 ^ 64 then some (.int (i ^ j.toNat), false) else none
  | _, _ => none

section
variable {Z : Wd} {X : Cx}
theorem DenA.reps {O : Addr → Prop} {H : Hp} {xs : List V} {ds : List D} (h : DenA Z O H xs ds) : ∀ k : Nat, DenA Z O H (List.replicate k xs).flatten (List.replicate k ds).flatten
  | 0 => .nil
  | k + 1 => by
    rw [List.replicate_succ, List.flatten_cons, List.replicate_succ, List.flatten_cons]
    exact h.app (DenA.reps h k)
theorem op_add_bi : OpR X (binaryOp .Add) (fun x y H Q => ∃ i k, x = .bl i ∧ y = .int k ∧ Q (.int (b2i i + k)) H) := by
  intro pins s σ H x y v u Q I rx ry h
  obtain ⟨i, k, rfl, rfl, q⟩ := h
  cases rx
  obtain ⟨t, rfl⟩ := ry
  exact IntBool.add_bool_int ⟨.int (b2i i + k), H, I.tok _, ⟨_, rfl⟩, q⟩
theorem op_sub_bi : OpR X (binaryOp .Sub) (fun x y H Q => ∃ i k, x = .bl i ∧ y = .int k ∧ Q (.int (b2i i - k)) H) := by
  intro pins s σ H x y v u Q I rx ry h
  obtain ⟨i, k, rfl, rfl, q⟩ := h
  cases rx
  obtain ⟨t, rfl⟩ := ry
  exact IntBool.sub_bool_int ⟨.int (b2i i - k), H, I.tok _, ⟨_, rfl⟩, q⟩
theorem opD_add : OpD Z X (binaryOp .Add) addD := by
  intro pins s σ H x y v u Q I rx ry h
  obtain ⟨O, dx, dy, z, hO, sx, sy, e, q⟩ := h
  unfold addD at e
  split at e
  · cases e
    cases sx.int; cases sy.int
    exact op_add pins s σ H _ _ v u Q I rx ry ⟨_, _, rfl, rfl, q _ _ (.same (.int _))⟩
  · cases e
    cases sx.int; cases sy.bl
    exact op_add_ib pins s σ H _ _ v u Q I rx ry ⟨_, _, rfl, rfl, q _ _ (.same (.int _))⟩
  · cases e
    cases sx.bl; cases sy.int
    exact op_add_bi pins s σ H _ _ v u Q I rx ry ⟨_, _, rfl, rfl, q _ _ (.same (.int _))⟩
  · split at e
    · rename_i hl
      cases e
      cases sx.str; cases sy.str
      exact op_add_str pins s σ H _ _ v u Q I rx ry ⟨_, _, rfl, rfl, len_line hl, q _ _ (.same (.str _))⟩
    · cases e
  · split at e
    · rename_i hl
      cases e
      obtain ⟨a, xs, rfl, h1, c1⟩ := sx.lst
      obtain ⟨b, ys, rfl, h2, c2⟩ := sy.lst
      exact op_cat pins s σ H _ _ v u Q I rx ry ⟨a, b, xs, ys, rfl, rfl, h1, h2, by rw [c1.len, c2.len]; exact len_line hl, fun p hp => q _ _ (.lst hp (c1.app c2))⟩
    · cases e
  · split at e
    · rename_i hl
      cases e
      obtain ⟨a, xs, rfl, h1, c1, n1⟩ := sx.tup
      obtain ⟨b, ys, rfl, h2, c2, n2⟩ := sy.tup
      refine op_catA pins s σ H _ _ v u Q I rx ry ⟨a, b, xs, ys, rfl, rfl, SqT.of h1, SqT.of h2, by rw [c1.len, c2.len]; exact len_line hl, ?_, ?_, ?_⟩
      · intro z
        subst z
        cases c1
        exact q _ _ (.same (.ref h2 n2 (.tup c2)))
      · intro _ z
        subst z
        cases c2
        rw [List.append_nil] at q
        exact q _ _ (.same (.ref h1 n1 (.tup c1)))
      · exact fun _ _ p hp => q _ _ (.tup hO hp (c1.app c2))
    · cases e
  · cases e
theorem opD_sub : OpD Z X (binaryOp .Sub) subD := by
  intro pins s σ H x y v u Q I rx ry h
  obtain ⟨O, dx, dy, z, hO, sx, sy, e, q⟩ := h
  unfold subD at e
  split at e
  · cases e
    cases sx.int; cases sy.int
    exact op_sub pins s σ H _ _ v u Q I rx ry ⟨_, _, rfl, rfl, q _ _ (.same (.int _))⟩
  · cases e
    cases sx.bl; cases sy.int
    exact op_sub_bi pins s σ H _ _ v u Q I rx ry ⟨_, _, rfl, rfl, q _ _ (.same (.int _))⟩
  · cases e
theorem opD_mul : OpD Z X (binaryOp .Mult) mulD := by
  intro pins s σ H x y v u Q I rx ry h
  obtain ⟨O, dx, dy, z, hO, sx, sy, e, q⟩ := h
  unfold mulD at e
  split at e
  · split at e
    · rename_i hc
      cases e
      cases sx.int; cases sy.int
      exact op_mulW pins s σ H _ _ v u Q I rx ry ⟨_, _, rfl, rfl, wide_mul hc.1 hc.2 (by decide) (by decide) (by decide), q _ _ (.same (.int _))⟩
    · cases e
  · split at e
    · rename_i hc
      cases e
      obtain ⟨a, xs, rfl, h1, c1⟩ := sx.lst
      cases sy.int
      exact op_rep pins s σ H _ _ v u Q I rx ry ⟨a, _, xs, rfl, rfl, h1, by omega, by omega, by rw [c1.len]; exact len_line hc.2.2.2, fun p hp => q _ _ (.lst hp (c1.reps _))⟩
    · cases e
  · split at e
    · rename_i hc
      cases e
      obtain ⟨a, xs, rfl, h1, c1, n1⟩ := sx.tup
      cases sy.int
      rename_i k
      have ne : xs ≠ [] := fun z => hc.1 (by subst z; cases c1; rfl)
      by_cases k1 : k = 1
      · subst k1
        refine op_rep1 pins s σ H _ _ v u Q I rx ry ⟨a, xs, rfl, rfl, SqT.of h1, q _ _ (.same ?_)⟩
        have e : (List.replicate (Int.toNat 1) ‹List D›).flatten = ‹List D› := by simp
        rw [e]
        exact .ref h1 n1 (.tup c1)
      by_cases k0 : k ≤ 0
      · refine op_rep0 pins s σ H _ _ v u Q I rx ry ⟨a, _, xs, rfl, rfl, SqT.of h1, ne, hc.2.1, k0, fun p hp => q _ _ (.tup hO hp ?_)⟩
        rw [Int.toNat_of_nonpos k0]
        exact .nil
      exact op_repT pins s σ H _ _ v u Q I rx ry ⟨a, _, xs, rfl, rfl, SqT.of h1, ne, by omega, hc.2.2.1, by rw [c1.len]; exact hc.2.2.2, fun p hp => q _ _ (.tup hO hp (c1.reps _))⟩
    · cases e
  · cases e
theorem opD_pow : OpD Z X (binaryOp .Pow) powD := by
  intro pins s σ H x y v u Q I rx ry h
  obtain ⟨O, dx, dy, z, hO, sx, sy, e, q⟩ := h
  unfold powD at e
  split at e
  · split at e
    · rename_i hc
      cases e
      cases sx.int; cases sy.int
      exact op_pow pins s σ H _ _ v u Q I rx ry ⟨_, _, rfl, rfl, ⟨hc.1, by omega, hc.2.2⟩, q _ _ (.same (.int _))⟩
    · cases e
  · cases e
/-! ### comparisons -/
def eqB (x y : D) : Bool := PyData.eqv (py x) (py y)
/-- what is told apart whatever the items are; two empty dicts -/
def eqX : D → D → Option (D × Bool)
  | .dct [], .dct [] => some (.bl true, false)
  | .tup (_ :: _), .tup [] => some (.bl false, false)
  | .lst (_ :: _), .lst [] => some (.bl false, false)
  | .tup _, .str _ => some (.bl false, false)
  | .lst _, .str _ => some (.bl false, false)
  | .dct _, .str _ => some (.bl false, false)
  | _, _ => none
def neX : D → D → Option (D × Bool)
  | .tup (_ :: _), .tup [] => some (.bl true, false)
  | .lst (_ :: _), .lst [] => some (.bl true, false)
  | _, _ => none
def eqD : D → D → Option (D × Bool)
  | .str a, .str b => some (.bl (decide (a = b)), false)
  | x, y => if okD 64 x = true ∧ okD 64 y = true then some (.bl (eqB x y), false) else eqX x y
def neD : D → D → Option (D × Bool)
  | .str a, .str b => some (.bl (!decide (a = b)), false)
  | x, y => if okD 64 x = true ∧ okD 64 y = true then some (.bl (!eqB x y), false) else neX x y
/-- a tuple of something, an empty one -/
theorem tup_nil {pins : List (Addr × Obj)} {s : Shared} {σ : L2.St} {H : Hp} {a b : Addr} {x : V} {xs : List V} (hu : X.A.units < cLine) (I : Inv X pins σ H s) (ha : SqT X.K H a (x :: xs)) (hb : SqT X.K H b []) :
    SeqAt.RcAt X.A s (.ref a) (.ref b) false ∧ SeqAt.RcNeAt X.A s (.ref a) (.ref b) true := by
  obtain ⟨its, r, pl, _⟩ := I.tuple ha
  obtain ⟨its2, r2, pl2, _⟩ := I.tuple hb
  cases r2
  have hl := r.length
  simp only [List.length_cons] at hl
  refine ⟨?_, ?_⟩
  · have := SeqAt.RcAt.tuples (e := fun _ => true) pl pl2 hu (fun j h1 h2 => by simp at h2)
    have e : ((List.range (min its.toArray.size ([] : List Value).toArray.size)).all (fun _ => true) && its.toArray.size == ([] : List Value).toArray.size) = false := by
      have : (its.toArray.size == ([] : List Value).toArray.size) = false := by simp; intro z; subst z; simp at hl
      rw [this, Bool.and_false]
    rw [e] at this
    exact this
  · have := SeqAt.RcNeAt.tuples (e := fun _ => true) pl pl2 hu (fun j h1 h2 => by simp at h2)
    have e : (!((List.range (min its.toArray.size ([] : List Value).toArray.size)).all (fun _ => true) && its.toArray.size == ([] : List Value).toArray.size)) = true := by
      have : (its.toArray.size == ([] : List Value).toArray.size) = false := by simp; intro z; subst z; simp at hl
      rw [this, Bool.and_false]
      rfl
    rw [e] at this
    exact this
theorem lst_nil {pins : List (Addr × Obj)} {s : Shared} {σ : L2.St} {H : Hp} {a b : Addr} {x : V} {xs : List V} (hu : X.A.units < cLine) (I : Inv X pins σ H s) (ha : SqL X.K H a (x :: xs)) (hb : SqL X.K H b []) :
    SeqAt.RcAt X.A s (.ref a) (.ref b) false ∧ SeqAt.RcNeAt X.A s (.ref a) (.ref b) true := by
  obtain ⟨its, r, pl, _⟩ := I.list ha
  obtain ⟨its2, r2, pl2, _⟩ := I.list hb
  cases r2
  have hl := r.length
  simp only [List.length_cons] at hl
  have hn : (its.toArray.size != ([] : List Value).toArray.size) = true := by
    simp
    intro z
    subst z
    simp at hl
  exact ⟨SeqAt.RcAt.lists_lengths pl.isList pl2.isList hn hu, SeqAt.RcNeAt.lists_lengths pl.isList pl2.isList hn hu⟩
theorem dec_strV (a b : Str) : decide (V.str a = V.str b) = decide (a = b) := by
  by_cases h : a = b
  · subst h; simp
  · rw [decide_eq_false h, decide_eq_false (fun z => h (V.str.inj z))]
section
open SeqAt
variable {A : Around} {s : Shared}
theorem str_eq_declines_dict (b : Str) (u : Tok) (l : Addr) (c : Value) (es : Array DictEntry) (ep : Nat) (dd : Option Addr) (sl : Array (Option Value)) :
    Meets (Builtin.«str.__eq__» ⟨[.str b u, .ref l], []⟩) (fun _ R s => s.heap.get? l = some { cls := c, dict := dd, data := .dict es ep, slots := sl } ∧ R (.ok (.ret .notImplemented)) s) :=
  .of_wp fun prog w A R s h => by obtain ⟨hp, g, d, tk, os⟩ := s; obtain ⟨hl, h⟩ := h; wp_walk using wpAny_loadPart' hl, wpAny_load hl; exact ⟨_, rfl, h⟩
theorem rc_dict_str {prog : Program} {w : World} {K : Type} [DecidableEq K] {knd : KeyKind prog w K} {a : Addr} {ka : List (K × Value)} (da : s.heap.DictOf knd a ka) (b : Str) (u : Tok) (hu : A.units < cLine) (E Q : Value → Shared → Prop) (h : Q (.bool false) s) :
    wpAny (model prog w) A (richCompare .Eq (.ref a) (.str b u)) Q E s := by
  refine rc_eq_decline_or (k := false) da.typeIs (typeIs_str s b u) (by decide) F.sub_str_dict F.slot_dict_eq F.slot_str_eq_refl ?_ ?_
    (fun _ hq => wpAny_of_eq (rfl : isSame (.ref a) (.str b u) = pure false) hq) (.inr hu) h
  · intro Q' hq
    refine wpAny_call_entry PySem.F.slot_dict_eq da.typeIs PySem.F.entry_dict_eq ?_ (PySem.F.args_dict_eq_2 _ _)
    show wpAny _ _ (Builtin.Dict.dictSlotArgs "__eq__" ⟨[.ref a, .str b u], []⟩ >>= _) _ _ s
    refine wpAny_bind ?_
    unfold Builtin.Dict.dictSlotArgs
    refine wpAny_bind (wpAny_notOrdered_dict da.typeIs ?_)
    show wpAny _ _ (pure (Value.ref a, Value.str b u)) _ _ s
    refine wpAny_pure ?_
    refine wpAny_bind (wpAny_isInstance (T := "str") (typeIs_str s b u) PySem.F.sub_str_dict ?_)
    simp only [Bool.not_false, if_true]
    refine wpAny_bind (wpAny_rule ?_)
    exact wpAny_pure ⟨_, rfl, hq⟩
  · intro Q' hq
    obtain ⟨⟨cls, dd, data, sl⟩, es, ep, ho, ex, hd, _⟩ := id da
    simp only at hd
    subst hd
    exact call_meets F.slot_str_eq_refl (typeIs_str s b u) F.entry_str_eq (F.args_str_eq_2 _ _) (str_eq_declines_dict b u a cls es ep dd sl) ⟨ho, hq⟩
end
theorem opD_eq (hu : X.A.units + 64 < cLine) : OpD Z X (compareOp .Eq) eqD := by
  intro pins s σ H x y v u Q I rx ry h
  obtain ⟨O, dx, dy, z, hO, sx, sy, e, q⟩ := h
  unfold eqD at e
  split at e
  · cases e
    cases sx.str; cases sy.str
    exact op_eq pins s σ H _ _ v u Q I rx ry ⟨rfl, by rw [dec_strV]; exact q _ _ (.same (.bl _))⟩
  · split at e
    · rename_i hc
      cases e
      exact op_eqD hu pins s σ H _ _ v u Q I rx ry ⟨_, _, sx.dp hc.1, sy.dp hc.2, okD_shaped hc.1, okD_shaped hc.2, q _ _ (.same (.bl _))⟩
    · unfold eqX at e
      split at e
      · cases e
        obtain ⟨a, xs, rfl, h1, c1⟩ := sx.dct
        obtain ⟨b, ys, rfl, h2, c2⟩ := sy.dct
        cases c1; cases c2
        exact op_eqV hu pins s σ H _ _ v u Q I rx ry ⟨0, by omega, .inr ⟨a, b, [], [], rfl, rfl, h1, h2, rfl, fun _ m => by cases m⟩, q _ _ (.same (.bl _))⟩
      · cases e
        obtain ⟨a, xs, rfl, h1, c1, n1⟩ := sx.tup
        obtain ⟨b, ys, rfl, h2, c2, n2⟩ := sy.tup
        cases c2
        cases c1
        cases (show v = Value.ref a from rx)
        cases (show u = Value.ref b from ry)
        exact (tup_nil (by omega) I (SqT.of h1) (SqT.of h2)).1 _ _ _ _ ⟨.bl false, H, I, rfl, q _ _ (.same (.bl _))⟩
      · cases e
        obtain ⟨a, xs, rfl, h1, c1⟩ := sx.lst
        obtain ⟨b, ys, rfl, h2, c2⟩ := sy.lst
        cases c2
        cases c1
        cases (show v = Value.ref a from rx)
        cases (show u = Value.ref b from ry)
        exact (lst_nil (by omega) I (SqL.of h1) (SqL.of h2)).1 _ _ _ _ ⟨.bl false, H, I, rfl, q _ _ (.same (.bl _))⟩
      · cases e
        obtain ⟨a, xs, rfl, h1, c1, n1⟩ := sx.tup
        cases sy.str
        obtain ⟨its, r, pl, _⟩ := I.tuple (SqT.of h1)
        cases (show v = Value.ref a from rx)
        obtain ⟨tk, rfl⟩ := (show ∃ tk, u = Value.str _ tk from ry)
        exact SeqAt.RcAt.tuple_str _ tk pl (by omega) _ _ _ _ ⟨.bl false, H, I, rfl, q _ _ (.same (.bl _))⟩
      · cases e
        obtain ⟨a, xs, rfl, h1, c1⟩ := sx.lst
        cases sy.str
        obtain ⟨its, r, pl, _⟩ := I.list (SqL.of h1)
        cases (show v = Value.ref a from rx)
        obtain ⟨tk, rfl⟩ := (show ∃ tk, u = Value.str _ tk from ry)
        exact SeqAt.RcAt.list_str _ tk pl.isList (by omega) _ _ _ _ ⟨.bl false, H, I, rfl, q _ _ (.same (.bl _))⟩
      · cases e
        obtain ⟨a, xs, rfl, h1, c1⟩ := sx.dct
        cases sy.str
        obtain ⟨_, ya, va, ra, da⟩ := (show ObjOk X.prog X.w H s.heap a (.dK xs) from I.hok a _ h1)
        cases (show v = Value.ref a from rx)
        obtain ⟨tk, rfl⟩ := (show ∃ tk, u = Value.str _ tk from ry)
        exact rc_dict_str da _ tk (by omega) _ _ ⟨.bl false, H, I, rfl, q _ _ (.same (.bl _))⟩
      · cases e
theorem opD_ne (hu : X.A.units + 64 < cLine) : OpD Z X (compareOp .NotEq) neD := by
  intro pins s σ H x y v u Q I rx ry h
  obtain ⟨O, dx, dy, z, hO, sx, sy, e, q⟩ := h
  unfold neD at e
  split at e
  · cases e
    cases sx.str; cases sy.str
    exact op_ne pins s σ H _ _ v u Q I rx ry ⟨rfl, by rw [dec_strV]; exact q _ _ (.same (.bl _))⟩
  · split at e
    · rename_i hc
      cases e
      exact op_neD hu pins s σ H _ _ v u Q I rx ry ⟨_, _, sx.dp hc.1, sy.dp hc.2, okD_shaped hc.1, okD_shaped hc.2, q _ _ (.same (.bl _))⟩
    · unfold neX at e
      split at e
      · cases e
        obtain ⟨a, xs, rfl, h1, c1, n1⟩ := sx.tup
        obtain ⟨b, ys, rfl, h2, c2, n2⟩ := sy.tup
        cases c2
        cases c1
        cases (show v = Value.ref a from rx)
        cases (show u = Value.ref b from ry)
        exact (tup_nil (by omega) I (SqT.of h1) (SqT.of h2)).2 _ _ _ _ ⟨.bl true, H, I, rfl, q _ _ (.same (.bl _))⟩
      · cases e
        obtain ⟨a, xs, rfl, h1, c1⟩ := sx.lst
        obtain ⟨b, ys, rfl, h2, c2⟩ := sy.lst
        cases c2
        cases c1
        cases (show v = Value.ref a from rx)
        cases (show u = Value.ref b from ry)
        exact (lst_nil (by omega) I (SqL.of h1) (SqL.of h2)).2 _ _ _ _ ⟨.bl true, H, I, rfl, q _ _ (.same (.bl _))⟩
      · cases e
def ltD : D → D → Option (D × Bool)
  | .int i, .int j => some (.bl (decide (i < j)), false)
  | _, _ => none
def leD : D → D → Option (D × Bool)
  | .int i, .int j => some (.bl (decide (i ≤ j)), false)
  | _, _ => none
def gtD : D → D → Option (D × Bool)
  | .int i, .int j => some (.bl (decide (j < i)), false)
  | _, _ => none
def geD : D → D → Option (D × Bool)
  | .int i, .int j => some (.bl (decide (j ≤ i)), false)
  | _, _ => none
theorem opD_lt : OpD Z X (compareOp .Lt) ltD := by
  intro pins s σ H x y v u Q I rx ry h
  obtain ⟨O, dx, dy, z, hO, sx, sy, e, q⟩ := h
  unfold ltD at e
  split at e
  · cases e
    cases sx.int; cases sy.int
    exact op_lt pins s σ H _ _ v u Q I rx ry ⟨_, _, rfl, rfl, q _ _ (.same (.bl _))⟩
  · cases e
theorem opD_gt : OpD Z X (compareOp .Gt) gtD := by
  intro pins s σ H x y v u Q I rx ry h
  obtain ⟨O, dx, dy, z, hO, sx, sy, e, q⟩ := h
  unfold gtD at e
  split at e
  · cases e
    cases sx.int; cases sy.int
    exact op_gt pins s σ H _ _ v u Q I rx ry ⟨_, _, rfl, rfl, q _ _ (.same (.bl _))⟩
  · cases e
theorem opD_ge : OpD Z X (compareOp .GtE) geD := by
  intro pins s σ H x y v u Q I rx ry h
  obtain ⟨O, dx, dy, z, hO, sx, sy, e, q⟩ := h
  unfold geD at e
  split at e
  · cases e
    cases sx.int; cases sy.int
    exact op_ge pins s σ H _ _ v u Q I rx ry ⟨_, _, rfl, rfl, q _ _ (.same (.bl _))⟩
  · cases e
def isNon : D → Bool
  | .non => true
  | _ => false
/-- is None: of data that are no handles -/
def isD : D → D → Option (D × Bool)
  | .hnd _, _ => none
  | .fn _, _ => none
  | x, .non => some (.bl (isNon x), false)
  | .bl a, .bl b => some (.bl (decide (a = b)), false)
  | _, _ => none
def isntD : D → D → Option (D × Bool)
  | .hnd _, _ => none
  | .fn _, _ => none
  | x, .non => some (.bl (!isNon x), false)
  | .bl a, .bl b => some (.bl (!decide (a = b)), false)
  | _, _ => none
theorem Shows.isNon {O : Addr → Prop} {H : Hp} {v : V} {d : D} (h : Shows Z O H v d) (n : ∀ k, d ≠ .hnd k) (n2 : ∀ k, d ≠ .fn k) : decide (v = .non) = FD.isNon d := by
  cases h with
  | own => 
    rename_i c
    cases c <;> rfl
  | den h => cases h with
    | ref e m c => cases c <;> rfl
    | hnd k => exact absurd rfl (n k)
    | fn k => exact absurd rfl (n2 k)
    | _ => rfl
theorem opD_is : OpD Z X (compareOp .Is) isD := by
  intro pins s σ H x y v u Q I rx ry h
  obtain ⟨O, dx, dy, z, hO, sx, sy, e, q⟩ := h
  unfold isD at e
  split at e
  · cases e
  · cases e
  · rename_i n n2
    cases e
    cases sy.non
    exact op_isN pins s σ H _ _ v u Q I rx ry ⟨rfl, q _ _ (.same (by rw [sx.isNon n n2]; exact .bl _))⟩
  · cases e
    cases sx.bl; cases sy.bl
    exact op_isBl pins s σ H _ _ v u Q I rx ry ⟨_, _, rfl, rfl, q _ _ (.same (.bl _))⟩
  · cases e
theorem opD_isnt : OpD Z X (compareOp .IsNot) isntD := by
  intro pins s σ H x y v u Q I rx ry h
  obtain ⟨O, dx, dy, z, hO, sx, sy, e, q⟩ := h
  unfold isntD at e
  split at e
  · cases e
  · cases e
  · rename_i n n2
    cases e
    cases sy.non
    exact op_notN pins s σ H _ _ v u Q I rx ry ⟨rfl, q _ _ (.same (by rw [sx.isNon n n2]; exact .bl _))⟩
  · cases e
    cases sx.bl; cases sy.bl
    exact op_notBl pins s σ H _ _ v u Q I rx ry ⟨_, _, rfl, rfl, q _ _ (.same (.bl _))⟩
  · cases e
end
end FD

/-! F4: argument lists, displays, calls of built-in functions, subscripts, slices, tests. -/
namespace FD
open PySem PySem.Spec PyProof.Rows L2

inductive OutA where
  | ok (rs : List Res) | ex (c : Str) (fs : List (Str × D))
abbrev AF (T : Type) := Sg T → Option (OutA × Sg T)
inductive ResOks {Z : Wd} (C : Fx Z) (σ : L2.St) (ow : Nat → Option Addr) (τ : List Sl) (H : Hp) : List V → List Res → Prop
  | nil : ResOks C σ ow τ H [] []
  | cons {v : V} {r : Res} {vs : List V} {rs : List Res} : ResOk C ow τ σ H v (hold r) → ResOks C σ ow τ H vs rs → ResOks C σ ow τ H (v :: vs) (hold r :: rs)
def FinA {Z : Wd} (C : Fx Z) (ow : Nat → Option Addr) (σ : L2.St) (H : Hp) (Q : List V → Hp → Prop) (s' : Sg Z.T) : OutA → Prop
  | .ok rs => ∀ ow' vs H', C.Rel ow' s'.1 s'.2 σ H' → ow' 0 = none → ResOks C σ ow' s'.1 H' vs rs → Ext (C.Hid ow) H (C.Hid ow') H' → Q vs H'
  | .ex c fs => ∀ ow' d H', C.Rel ow' s'.1 s'.2 σ H' → ow' 0 = none → Ext (C.Hid ow) H (C.Hid ow') H' → ExOk Z (C.Hid ow') H' d fs → C.W (.ref (Z.ca c)) d σ H'
def KnA {Z : Wd} (C : Fx Z) (f : AF Z.T) (ow : Nat → Option Addr) (τ : List Sl) (t : Z.T) (σ : L2.St) (H : Hp) (Q : List V → Hp → Prop) : Prop := ∃ o s', f (τ, t) = some (o, s') ∧ FinA C ow σ H Q s' o
def tA {Z : Wd} (C : Fx Z) (f : AF Z.T) : TA := fun σ H Q => ∃ ow τ t, C.Rel ow τ t σ H ∧ ow 0 = none ∧ KnA C f ow τ t σ H Q

def nilA {T : Type} : AF T := fun s => some (.ok [], s)
def consA {T : Type} (f : EF T) (g : AF T) : AF T := fun s => match f s with
  | none => none
  | some (.ex c fs, s1) => some (.ex c fs, s1)
  | some (.ok r, s1) => match g s1 with
    | none => none
    | some (.ex c fs, s2) => some (.ex c fs, s2)
    | some (.ok rs, s2) => some (.ok (hold r :: rs), s2)

section
variable {Z : Wd} {C : Fx Z} {X : Cx} {ow ow' : Nat → Option Addr} {τ : List Sl} {t : Z.T} {σ : L2.St} {H H' : Hp} {f : EF Z.T} {g : AF Z.T}
theorem FinA.from {Q : List V → Hp → Prop} (x : Ext (C.Hid ow) H (C.Hid ow') H') {s' : Sg Z.T} {o : OutA} (h : FinA C ow σ H Q s' o) : FinA C ow' σ H' Q s' o := by
  cases o with
  | ok r => exact fun ow2 v H2 R2 z r2 x2 => h ow2 v H2 R2 z r2 (x.trans x2)
  | ex c fs => exact fun ow2 d H2 R2 z x2 e => h ow2 d H2 R2 z (x.trans x2) e
theorem KnA.from {Q : List V → Hp → Prop} (x : Ext (C.Hid ow) H (C.Hid ow') H') (h : KnA C g ow τ t σ H Q) : KnA C g ow' τ t σ H' Q := by
  obtain ⟨o, s', e, h⟩ := h
  exact ⟨o, s', e, h.from x⟩
theorem tA_mono {Q Q' : List V → Hp → Prop} (h : tA C g σ H Q) (k : ∀ v H, Q v H → Q' v H) : tA C g σ H Q' := by
  obtain ⟨ow, τ, t, R, h0, o, s', e, h⟩ := h
  refine ⟨ow, τ, t, R, h0, o, s', e, ?_⟩
  cases o with
  | ok r => exact fun ow' v H' R' z r' x => k v H' (h ow' v H' R' z r' x)
  | ex c fs => exact h
/-- a held result, later -/
theorem ResOk.carry {ow' : Nat → Option Addr} {τ τ' : List Sl} {v : V} {r : Res} (h : ResOk C ow τ σ H v (FD.hold r)) (z : ow' 0 = none) (x : Ext (C.Hid ow) H (C.Hid ow') H') : ResOk C ow' τ' σ H' v (FD.hold r) := by
  cases r with
  | d _ => exact ⟨z, h.2.ext x⟩
  | f _ => exact ⟨z, h.2.ext x⟩
  | s _ => exact ⟨z, h.2⟩
theorem tA_nil {Q : List V → Hp → Prop} (h : tA C nilA σ H Q) : tNil σ H Q := by
  obtain ⟨ow, τ, t, R, h0, o, s', e, h⟩ := h
  cases e
  exact h ow [] H R h0 .nil .refl
theorem tA_cons {Q : List V → Hp → Prop} (h : tA C (consA f g) σ H Q) : tCons (tF C f) (tA C g) σ H Q := by
  obtain ⟨ow, τ, t, R, h0, o, s', e, h⟩ := h
  unfold consA at e
  cases q : f (τ, t) with
  | none => rw [q] at e; cases e
  | some z =>
    obtain ⟨o1, s1⟩ := z
    rw [q] at e
    cases o1 with
    | ex c fs =>
      cases e
      exact ⟨ow, τ, t, _, _, R, h0, q, h⟩
    | ok r =>
      refine ⟨ow, τ, t, _, _, R, h0, q, fun ow1 v H1 R1 r1 x1 => ?_⟩
      obtain ⟨ow2, R2, z2, r2, x2⟩ := r1.hold R1
      have x12 := x1.trans x2
      cases q2 : g s1 with
      | none => simp only [q2] at e; cases e
      | some w =>
        obtain ⟨o2, s2⟩ := w
        simp only [q2] at e
        cases o2 with
        | ex c fs =>
          cases e
          exact ⟨ow2, s1.1, s1.2, R2, z2, _, _, q2, fun ow3 d H3 R3 z3 x3 e3 => h ow3 d H3 R3 z3 (x12.trans x3) e3⟩
        | ok rs =>
          cases e
          exact ⟨ow2, s1.1, s1.2, R2, z2, _, _, q2, fun ow3 vs H3 R3 z3 rs3 x3 => h ow3 _ H3 R3 z3 (.cons (r2.carry z3 x3) rs3) (x12.trans x3)⟩
theorem ev_anil : PA X [] (tA C nilA) := ⟨fun pos pins s σ H Q I h => pa_nil.run pos pins s σ H Q I (tA_nil h)⟩
theorem ev_acons {e : Expr} {es : List Expr} (ha : PE X e (tF C f)) (hr : PA X es (tA C g)) (hs : starEach (e :: es) X.env = (false, eval e X.env) :: starEach es X.env := by rfl) : PA X (e :: es) (tA C (consA f g)) :=
  ⟨fun pos pins s σ H Q I h => (pa_cons ha hr hs).run pos pins s σ H Q I (tA_cons h)⟩
end

/-! ### arguments used -/
def peekAll (τ : List Sl) : List Res → Option (List D)
  | [] => some []
  | r :: rs => match peek τ r, peekAll τ rs with
    | some d, some ds => some (d :: ds)
    | _, _ => none
def giveAll (τ : List Sl) : List Res → Option (List D × List Sl)
  | [] => some ([], τ)
  | r :: rs => match give τ r with
    | none => none
    | some (d, τ1) => match giveAll τ1 rs with
      | none => none
      | some (ds, τ2) => some (d :: ds, τ2)
inductive ShowsA (Z : Wd) (O : Addr → Prop) (H : Hp) : List V → List D → Prop
  | nil : ShowsA Z O H [] []
  | cons {v : V} {d : D} {vs : List V} {ds : List D} : Shows Z O H v d → ShowsA Z O H vs ds → ShowsA Z O H (v :: vs) (d :: ds)
section
variable {Z : Wd} {C : Fx Z} {X : Cx} {ow ow' : Nat → Option Addr} {τ : List Sl} {t : Z.T} {σ : L2.St} {H H' : Hp} {f : EF Z.T} {g : AF Z.T}
theorem ResOks.peek : ∀ {vs : List V} {rs : List Res} {ds : List D}, C.Rel ow τ t σ H → ResOks C σ ow τ H vs rs → peekAll τ rs = some ds → ShowsA Z (C.Hid ow) H vs ds
  | _, _, _, _, .nil, e => by cases e; exact .nil
  | _, _, _, R, .cons h r, e => by
    unfold peekAll at e
    split at e
    · rename_i p1 p2
      cases e
      exact .cons (h.peek R p1) (ResOks.peek R r p2)
    · cases e
theorem ResOks.carry : ∀ {vs : List V} {rs : List Res} {τ' : List Sl}, ow' 0 = none → Ext (C.Hid ow) H (C.Hid ow') H' → ResOks C σ ow τ H vs rs → ResOks C σ ow' τ' H' vs rs
  | _, _, _, _, _, .nil => .nil
  | _, _, _, z, x, .cons h r => .cons (h.carry z x) (ResOks.carry z x r)
theorem ResOks.give : ∀ {vs : List V} {rs : List Res} {ds : List D} {ow : Nat → Option Addr} {τ τ' : List Sl}, C.Rel ow τ t σ H → ow 0 = none → ResOks C σ ow τ H vs rs → giveAll τ rs = some (ds, τ') →
    ∃ ow', C.Rel ow' τ' t σ H ∧ ow' 0 = none ∧ DenA Z (C.Hid ow') H vs ds ∧ Ext (C.Hid ow) H (C.Hid ow') H
  | _, _, _, ow, _, _, R, z, .nil, e => by cases e; exact ⟨ow, R, z, .nil, .refl⟩
  | _, _, _, _, _, _, R, z, .cons h r, e => by
    unfold giveAll at e
    split at e
    · cases e
    · rename_i d τ1 p1
      split at e
      · cases e
      · rename_i ds τ2 p2
        cases e
        obtain ⟨ow1, R1, z1, d1, x1⟩ := h.give R p1
        obtain ⟨ow2, R2, z2, d2, x2⟩ := ResOks.give R1 z1 (r.carry z1 x1) p2
        exact ⟨ow2, R2, z2, .cons (d1.ext x2) d2, x1.trans x2⟩
end

/-! ### displays -/
def dispF {T : Type} (mk : List D → D) (fr : Bool) (g : AF T) : EF T := fun s => match g s with
  | none => none
  | some (.ex c fs, s1) => some (.ex c fs, s1)
  | some (.ok rs, s1) => match giveAll s1.1 rs with
    | none => none
    | some (ds, τ) => if ds.length ≤ LEN then some (.ok (resOf (mk ds, fr)), (τ, s1.2)) else none
def tupF {T : Type} (g : AF T) : EF T := dispF .tup false g
def lstF {T : Type} (g : AF T) : EF T := dispF .lst true g
section
variable {Z : Wd} {C : Fx Z} {X : Cx} {es : List Expr} {e a b : Expr} {pos : Pos} {f fa fb : EF Z.T} {g : AF Z.T} {σ : L2.St} {H : Hp}
theorem disp_of {Q : VK} {mk : List D → D} {fr : Bool} (h : tF C (dispF mk fr g) σ H Q) : tA C g σ H fun xs H1 => xs.length ≤ sizeLine ∧
    ∃ ow ds, (∀ p, H1 p = none → ¬ C.Hid ow p) ∧ DenA Z (C.Hid ow) H1 xs ds ∧ ∀ v H', Gets Z (C.Hid ow) H1 v H' (mk ds, fr) → Q v H' := by
  obtain ⟨ow, τ, t, o, s', R, h0, e, h⟩ := h
  unfold dispF at e
  cases q : g (τ, t) with
  | none => rw [q] at e; cases e
  | some z =>
    obtain ⟨o1, s1⟩ := z
    rw [q] at e
    cases o1 with
    | ex c fs =>
      cases e
      exact ⟨ow, τ, t, R, h0, _, _, q, h⟩
    | ok rs =>
      refine ⟨ow, τ, t, R, h0, _, _, q, fun ow1 vs H1 R1 z1 r1 x1 => ?_⟩
      simp only at e
      split at e
      · cases e
      · rename_i ds τ2 p
        split at e
        · rename_i hl
          cases e
          obtain ⟨ow2, R2, z2, d2, x2⟩ := r1.give R1 z1 p
          refine ⟨by rw [d2.len]; exact len_line hl, ow2, ds, fun p hp => R2.nohid hp, d2, fun v H' gt => ?_⟩
          obtain ⟨ow3, R3, r3, x3⟩ := R2.gets z2 gt
          exact h ow3 v H' R3 r3 ((x1.trans x2).trans x3)
        · cases e
theorem ev_tup {k : Nat} (h : PA X es (tA C g)) : PE X (.Tuple es k pos) (tF C (tupF g)) := ⟨fun pins s σ H Q I q => (pe_tup h).run pins s σ H Q I (tA_mono (disp_of q) fun xs H1 ⟨z, ow, ds, hO, d, k⟩ => ⟨z, fun p hp => k _ _ (.tup hO hp d)⟩)⟩
theorem ev_lst (h : PA X es (tA C g)) : PE X (.List es pos) (tF C (lstF g)) := ⟨fun pins s σ H Q I q => (pe_lst h).run pins s σ H Q I (tA_mono (disp_of q) fun xs H1 ⟨z, ow, ds, hO, d, k⟩ => ⟨z, fun p hp => k _ _ (.lst hp d)⟩)⟩

/-! ### built-in functions -/
def rDA (Z : Wd) (op : List D → Option (D × Bool)) : List V → Hp → VK → Prop := fun vs H Q => ∃ O ds z, (∀ p, H p = none → ¬ O p) ∧ ShowsA Z O H vs ds ∧ op ds = some z ∧ ∀ v H', Gets Z O H v H' z → Q v H'
def CallD (Z : Wd) (X : Cx) (f : Value) (op : List D → Option (D × Bool)) : Prop := CallR X f (rDA Z op)
def callF {T : Type} (op : List D → Option (D × Bool)) (g : AF T) : EF T := fun s => match g s with
  | none => none
  | some (.ex c fs, s1) => some (.ex c fs, s1)
  | some (.ok rs, s1) => match peekAll s1.1 rs with
    | none => none
    | some ds => match op ds with
      | none => none
      | some z => some (.ok (resOf z), s1)
theorem call_of {Q : VK} {op : List D → Option (D × Bool)} (h : tF C (callF op g) σ H Q) : tA C g σ H fun xs H1 => rDA Z op xs H1 Q := by
  obtain ⟨ow, τ, t, o, s', R, h0, e, h⟩ := h
  unfold callF at e
  cases q : g (τ, t) with
  | none => rw [q] at e; cases e
  | some z =>
    obtain ⟨o1, s1⟩ := z
    rw [q] at e
    cases o1 with
    | ex c fs =>
      cases e
      exact ⟨ow, τ, t, R, h0, _, _, q, h⟩
    | ok rs =>
      refine ⟨ow, τ, t, R, h0, _, _, q, fun ow1 vs H1 R1 z1 r1 x1 => ?_⟩
      simp only at e
      split at e
      · cases e
      · rename_i ds p
        split at e
        · cases e
        · rename_i z p2
          cases e
          refine ⟨_, ds, z, fun p hp => R1.nohid hp, r1.peek R1 p, p2, fun v H' gt => ?_⟩
          obtain ⟨ow3, R3, r3, x3⟩ := R1.gets z1 gt
          exact h ow3 v H' R3 r3 (x1.trans x3)
theorem ev_callB {x : Str} {id : String} {p : Pos} {op : List D → Option (D × Bool)} (hc : CallD Z X (.builtin id) op) (hg : Gl X x) (hm : X.mg x = none) (hv : bootBuiltins x = some (.builtin id)) (ha : PA X (e :: es) (tA C g)) (hn : x ≠ "__name__" := by decide) (hdb : (x == ("__debug__" : Str)) = false := by decide)
    (he : starEach (e :: es) X.env = (false, eval e X.env) :: starEach es X.env := by rfl) (hpl : (backTo pos (starEach es X.env)).any (·.1) = false := by rfl) : PE X (.Call (.Name x p) (e :: es) [] pos) (tF C (callF op g)) :=
  ⟨fun pins s σ H Q I h => (pe_callB hc hg hm hv ha hn hdb he hpl).run pins s σ H Q I (call_of h)⟩
theorem ev_callTy {x : Str} {T : String} {p : Pos} {op : List D → Option (D × Bool)} (hc : CallD Z X (.type T) op) (hg : Gl X x) (hm : X.mg x = none) (hv : bootBuiltins x = some (.type T)) (ha : PA X (e :: es) (tA C g)) (hn : x ≠ "__name__" := by decide) (hdb : (x == ("__debug__" : Str)) = false := by decide)
    (he : starEach (e :: es) X.env = (false, eval e X.env) :: starEach es X.env := by rfl) (hpl : (backTo pos (starEach es X.env)).any (·.1) = false := by rfl) : PE X (.Call (.Name x p) (e :: es) [] pos) (tF C (callF op g)) :=
  ⟨fun pins s σ H Q I h => (pe_callTy hc hg hm hv ha hn hdb he hpl).run pins s σ H Q I (call_of h)⟩

/-! ### subscripts -/
theorem ev_ix {op : D → D → Option (D × Bool)} (hr : IxR X (rD2 Z op)) (ha : PE X a (tF C fa)) (hb : PE X b (tF C fb)) (hs : PlainIx b) : PE X (.Subscript a b pos) (tF C (binF op fa fb)) :=
  ⟨fun pins s σ H Q I h => (pe_ix hr ha hb hs).run pins s σ H Q I (tOp_of h)⟩
end
end FD

/-! F5: tests, and, or, not, conditional expressions, chains. -/
namespace FD
open PySem PySem.Spec PyProof.Rows L2

def FinT {Z : Wd} (C : Fx Z) (ow : Nat → Option Addr) (σ : L2.St) (H : Hp) (Q : Bool → Hp → Prop) (s' : Sg Z.T) : Out → Prop
  | .ok r => ∃ b, peek s'.1 (hold r) = some (.bl b) ∧ ∀ ow' H', C.Rel ow' s'.1 s'.2 σ H' → ow' 0 = none → Ext (C.Hid ow) H (C.Hid ow') H' → Q b H'
  | .ex c fs => ∀ ow' d H', C.Rel ow' s'.1 s'.2 σ H' → ow' 0 = none → Ext (C.Hid ow) H (C.Hid ow') H' → ExOk Z (C.Hid ow') H' d fs → C.W (.ref (Z.ca c)) d σ H'
def KnT {Z : Wd} (C : Fx Z) (f : EF Z.T) (ow : Nat → Option Addr) (τ : List Sl) (t : Z.T) (σ : L2.St) (H : Hp) (Q : Bool → Hp → Prop) : Prop := ∃ o s', f (τ, t) = some (o, s') ∧ FinT C ow σ H Q s' o
def tT {Z : Wd} (C : Fx Z) (f : EF Z.T) : TT := fun σ H Q => ∃ ow τ t, C.Rel ow τ t σ H ∧ ow 0 = none ∧ KnT C f ow τ t σ H Q

section
variable {Z : Wd} {C : Fx Z} {X : Cx} {ow ow' : Nat → Option Addr} {τ : List Sl} {t : Z.T} {σ : L2.St} {H H' : Hp} {f g h : EF Z.T} {a b c e : Expr} {pos : Pos} {rest : List Expr}
theorem FinT.from {Q : Bool → Hp → Prop} (x : Ext (C.Hid ow) H (C.Hid ow') H') {s' : Sg Z.T} {o : Out} (h : FinT C ow σ H Q s' o) : FinT C ow' σ H' Q s' o := by
  cases o with
  | ok r =>
    obtain ⟨b, e, h⟩ := h
    exact ⟨b, e, fun ow2 H2 R2 z x2 => h ow2 H2 R2 z (x.trans x2)⟩
  | ex c fs => exact fun ow2 d H2 R2 z x2 e => h ow2 d H2 R2 z (x.trans x2) e
theorem KnT.from {Q : Bool → Hp → Prop} (x : Ext (C.Hid ow) H (C.Hid ow') H') (h : KnT C f ow τ t σ H Q) : KnT C f ow' τ t σ H' Q := by
  obtain ⟨o, s', e, h⟩ := h
  exact ⟨o, s', e, h.from x⟩
theorem tT_mono {Q Q' : Bool → Hp → Prop} (h : tT C f σ H Q) (k : ∀ v H, Q v H → Q' v H) : tT C f σ H Q' := by
  obtain ⟨ow, τ, t, R, h0, o, s', e, h⟩ := h
  refine ⟨ow, τ, t, R, h0, o, s', e, ?_⟩
  cases o with
  | ok r =>
    obtain ⟨b, e, h⟩ := h
    exact ⟨b, e, fun ow' H' R' z x => k b H' (h ow' H' R' z x)⟩
  | ex c fs => exact h
/-- a test whose reading is known as that of its value -/
theorem tT_val {Q : Bool → Hp → Prop} (h : tT C f σ H Q) : tF C f σ H fun x H1 => ∃ b, x = .bl b ∧ Q b H1 := by
  obtain ⟨ow, τ, t, R, h0, o, s', e, h⟩ := h
  refine ⟨ow, τ, t, o, s', R, h0, e, ?_⟩
  cases o with
  | ok r =>
    obtain ⟨b, e, h⟩ := h
    intro ow' v H' R' r' x
    obtain ⟨ow1, R1, z1, r1, x1⟩ := r'.hold R'
    exact ⟨b, (r1.peek R1 e).bl, h ow1 H' R1 z1 (x.trans x1)⟩
  | ex c fs => exact h
theorem et_val (he : PE X e (tF C f)) (hw : ∀ whole, isTrue e X.env whole = (do let v ← whole; standAt e.pos; holding [v] (truthy v)) := by intro _; rfl) : PT X e (tT C f) :=
  ⟨fun pins s σ H Q I h => (pt_val he hw).run pins s σ H Q I (tT_val h)⟩
theorem et_cmp {op : CmpOp} {o : D → D → Option (D × Bool)} (ho : OpD Z X (compareOp op) o) (ha : PE X a (tF C f)) (hb : PE X b (tF C g)) (hm : behindInMarks op b = false) : PT X (.Compare a [op] [b] pos) (tT C (binF o f g)) :=
  ⟨fun pins s σ H Q I h => (pt_cmpR ho ha hb hm).run pins s σ H Q I (tOp_of (tT_val h))⟩

/-! ### and, or, not -/
/-- what goes on by a truth value -/
def branchF {T : Type} (f g h : EF T) : EF T := bindF f fun r => fun s => match peek s.1 (hold r) with
  | some (.bl true) => g s
  | some (.bl false) => h s
  | _ => none
def andF {T : Type} (f g : EF T) : EF T := branchF f g (conF (.bl false))
def orF {T : Type} (f g : EF T) : EF T := branchF f (conF (.bl true)) g
def notF {T : Type} (f : EF T) : EF T := branchF f (conF (.bl false)) (conF (.bl true))
theorem branch_tF {Q : VK} (h0 : tF C (branchF f g h) σ H Q) : tF C f σ H fun x H1 => ∃ b, x = .bl b ∧ if b = true then tF C g σ H1 Q else tF C h σ H1 Q := by
  obtain ⟨ow, τ, t, R, z, k⟩ := h0.at_
  refine tF_mono (k.bind R z) fun x H1 ⟨ow1, τ1, t1, r, R1, r1, k1, _⟩ => ?_
  obtain ⟨ow2, R2, z2, r2, x2⟩ := r1.hold R1
  obtain ⟨o, s', e, k2⟩ := k1.from x2
  simp only at e
  split at e
  · rename_i p
    exact ⟨true, (r2.peek R2 p).bl, by rw [if_pos rfl]; exact Kn.tF ⟨o, s', e, k2⟩ R2 z2⟩
  · rename_i p
    exact ⟨false, (r2.peek R2 p).bl, by rw [if_neg (by decide)]; exact Kn.tF ⟨o, s', e, k2⟩ R2 z2⟩
  · cases e
/-- behind a test: what goes on by it, as a test -/
theorem branch_tT {Q : Bool → Hp → Prop} (h0 : tT C (branchF f g h) σ H Q) : tT C f σ H fun b H1 => if b = true then tT C g σ H1 Q else tT C h σ H1 Q := by
  obtain ⟨ow, τ, t, R, z, o, s', e, k⟩ := h0
  unfold branchF bindF at e
  cases q : f (τ, t) with
  | none => rw [q] at e; cases e
  | some w =>
    obtain ⟨o1, s1⟩ := w
    rw [q] at e
    cases o1 with
    | ex c fs =>
      cases e
      exact ⟨ow, τ, t, R, z, _, _, q, k⟩
    | ok r =>
      simp only at e
      split at e
      · rename_i p
        exact ⟨ow, τ, t, R, z, _, _, q, true, p, fun ow1 H1 R1 z1 x1 => by dsimp only; rw [if_pos rfl]; exact ⟨ow1, s1.1, s1.2, R1, z1, o, s', e, k.from x1⟩⟩
      · rename_i p
        exact ⟨ow, τ, t, R, z, _, _, q, false, p, fun ow1 H1 R1 z1 x1 => by dsimp only; rw [if_neg (by decide)]; exact ⟨ow1, s1.1, s1.2, R1, z1, o, s', e, k.from x1⟩⟩
      · cases e
theorem con_tF {d : D} {v : V} {Q : VK} (h : tF C (conF d) σ H Q) (hd : ∀ O H, Den Z O H v d) : Q v H := by
  obtain ⟨ow, τ, t, o, s', R, h0, e, h⟩ := h
  cases e
  exact h ow v H R ⟨h0, hd _ _⟩ .refl
theorem con_tT {b : Bool} {Q : Bool → Hp → Prop} (h : tT C (conF (.bl b)) σ H Q) : Q b H := by
  obtain ⟨ow, τ, t, R, h0, o, s', e, h⟩ := h
  cases e
  obtain ⟨b', e, h⟩ := h
  cases e
  exact h ow H R h0 .refl
theorem ev_one {op : BoolOp} (h : PE X a (tF C f)) : PE X (.BoolOp op [a] pos) (tF C f) := pe_one h
theorem ev_and (ha : PE X a (tF C f)) (hb : PE X (.BoolOp .And (b :: rest) pos) (tF C g)) : PE X (.BoolOp .And (a :: b :: rest) pos) (tF C (andF f g)) :=
  ⟨fun pins s σ H Q I h => (pe_and ha hb).run pins s σ H Q I (tF_mono (branch_tF h) fun x H1 ⟨b, e, k⟩ => ⟨b, e, by
    cases b with
    | true => exact k
    | false => exact con_tF k fun _ _ => .bl false⟩)⟩
theorem ew_and1 (ha : PT X a (tT C f)) : PW X (.BoolOp .And [a] pos) (tT C f) := pw_and1 ha
theorem ew_or1 (ha : PT X a (tT C f)) : PW X (.BoolOp .Or [a] pos) (tT C f) := pw_or1 ha
theorem ew_and (ha : PT X a (tT C f)) (hb : PW X (.BoolOp .And (b :: rest) pos) (tT C g)) : PW X (.BoolOp .And (a :: b :: rest) pos) (tT C (andF f g)) :=
  ⟨fun wh pins s σ H Q I h => (pw_and ha hb).run wh pins s σ H Q I (tT_mono (branch_tT h) fun b H1 k => by
    cases b with
    | true => exact k
    | false => exact con_tT k)⟩
theorem ew_or (ha : PT X a (tT C f)) (hb : PW X (.BoolOp .Or (b :: rest) pos) (tT C g)) : PW X (.BoolOp .Or (a :: b :: rest) pos) (tT C (orF f g)) :=
  ⟨fun wh pins s σ H Q I h => (pw_or ha hb).run wh pins s σ H Q I (tT_mono (branch_tT h) fun b H1 k => by
    cases b with
    | true => exact con_tT k
    | false => exact k)⟩
theorem et_not (ha : PT X a (tT C f)) : PT X (.UnaryOp .Not a pos) (tT C (notF f)) :=
  ⟨fun pins s σ H Q I h => (pt_not ha).run pins s σ H Q I (tT_mono (branch_tT h) fun b H1 k => by
    cases b with
    | true => exact con_tT k
    | false => exact con_tT k)⟩
/-! ### chains -/
def chainF {T : Type} (op op' : D → D → Option (D × Bool)) (f g h : EF T) : EF T := bindF f fun ra => bindF g fun rb => fun s => match peek s.1 (hold ra), peek s.1 (hold rb) with
  | some x, some y => match op x y with
    | some (.bl true, false) => bindF h (fun rc => doneF fun τ => match peek τ (hold rb), peek τ (hold rc) with
      | some y, some z => op' y z
      | _, _ => none) s
    | some (.bl false, false) => some (.ok (.d (.bl false)), s)
    | _ => none
  | _, _ => none
end
end FD

/-! F6: statements: blocks, assignments to names and tuples of names, if, return, while. -/
namespace FD
open PySem PySem.Spec PyProof.Rows L2

/-- a statement's end -/
inductive SOut where
  | nx | rt (r : Res) | bk | ct | ex (c : Str) (fs : List (Str × D))
abbrev SF (T : Type) := Sg T → Option (SOut × Sg T)
def FinS {Z : Wd} (C : Fx Z) (ow : Nat → Option Addr) (H : Hp) (E : Ends) (s' : Sg Z.T) : SOut → Prop
  | .nx => ∀ ow' σ' H', C.Rel ow' s'.1 s'.2 σ' H' → ow' 0 = none → Ext (C.Hid ow) H (C.Hid ow') H' → E.nx σ' H'
  | .bk => ∀ ow' σ' H', C.Rel ow' s'.1 s'.2 σ' H' → ow' 0 = none → Ext (C.Hid ow) H (C.Hid ow') H' → E.bk σ' H'
  | .ct => ∀ ow' σ' H', C.Rel ow' s'.1 s'.2 σ' H' → ow' 0 = none → Ext (C.Hid ow) H (C.Hid ow') H' → E.ct σ' H'
  | .rt r => ∀ ow' σ' v H', C.Rel ow' s'.1 s'.2 σ' H' → ResOk C ow' s'.1 σ' H' v r → Ext (C.Hid ow) H (C.Hid ow') H' → E.rt v H'
  | .ex c fs => ∀ ow' σ' d H', C.Rel ow' s'.1 s'.2 σ' H' → ow' 0 = none → Ext (C.Hid ow) H (C.Hid ow') H' → ExOk Z (C.Hid ow') H' d fs → C.W (.ref (Z.ca c)) d σ' H'
def KnS {Z : Wd} (C : Fx Z) (f : SF Z.T) (ow : Nat → Option Addr) (τ : List Sl) (t : Z.T) (H : Hp) (E : Ends) : Prop := ∃ o s', f (τ, t) = some (o, s') ∧ FinS C ow H E s' o
def tS {Z : Wd} (C : Fx Z) (f : SF Z.T) : TS := fun E σ H => ∃ ow τ t, C.Rel ow τ t σ H ∧ ow 0 = none ∧ KnS C f ow τ t H E

def seqF {T : Type} (f g : SF T) : SF T := fun s => match f s with
  | some (.nx, s1) => g s1
  | r => r
def nxF {T : Type} : SF T := fun s => some (.nx, s)
def bkF {T : Type} : SF T := fun s => some (.bk, s)
def ctF {T : Type} : SF T := fun s => some (.ct, s)
/-- a statement over an expression -/
def sbind {T : Type} (f : EF T) (k : Res → SF T) : SF T := fun s => match f s with
  | none => none
  | some (.ex c fs, s1) => some (.ex c fs, s1)
  | some (.ok r, s1) => k r s1
def dropF {T : Type} (f : EF T) : SF T := sbind f fun _ s => some (.nx, s)
/-- what a return takes along: an own slot's object is no one's behind it -/
def retF {T : Type} (f : EF T) : SF T := sbind f fun r s => match r with
  | .s i => match s.1[i]? with
    | some (.v d) => some (.rt (.d d), s)
    | some (.o d) => some (.rt (.f d), (s.1.set i .no, s.2))
    | _ => none
  | r => some (.rt r, s)
def retNF {T : Type} : SF T := fun s => some (.rt (.d .non), s)
def ifF {T : Type} (f : EF T) (g h : SF T) : SF T := sbind f fun r => fun s => match peek s.1 (hold r) with
  | some (.bl true) => g s
  | some (.bl false) => h s
  | _ => none
/-- a result into slot i -/
def storeAt (i : Nat) (τ : List Sl) : Res → Option (List Sl)
  | .f d => some (τ.set i (.o d))
  | r => match give τ r with
    | none => none
    | some (d, τ1) => some (τ1.set i (.v d))
def setF {T : Type} (i : Nat) (f : EF T) : SF T := sbind f fun r s => match storeAt i s.1 r with
  | none => none
  | some τ => some (.nx, (τ, s.2))

section
variable {Z : Wd} {C : Fx Z} {X : Cx} {ow ow' : Nat → Option Addr} {τ : List Sl} {t : Z.T} {σ : L2.St} {H H' : Hp} {E : Ends}
theorem FinS.from (x : Ext (C.Hid ow) H (C.Hid ow') H') {s' : Sg Z.T} {o : SOut} (h : FinS C ow H E s' o) : FinS C ow' H' E s' o := by
  cases o with
  | nx => exact fun ow2 σ2 H2 R2 z x2 => h ow2 σ2 H2 R2 z (x.trans x2)
  | bk => exact fun ow2 σ2 H2 R2 z x2 => h ow2 σ2 H2 R2 z (x.trans x2)
  | ct => exact fun ow2 σ2 H2 R2 z x2 => h ow2 σ2 H2 R2 z (x.trans x2)
  | rt r => exact fun ow2 σ2 v H2 R2 z x2 => h ow2 σ2 v H2 R2 z (x.trans x2)
  | ex c fs => exact fun ow2 σ2 d H2 R2 z x2 e => h ow2 σ2 d H2 R2 z (x.trans x2) e
theorem KnS.from {f : SF Z.T} (x : Ext (C.Hid ow) H (C.Hid ow') H') (h : KnS C f ow τ t H E) : KnS C f ow' τ t H' E := by
  obtain ⟨o, s', e, h⟩ := h
  exact ⟨o, s', e, h.from x⟩
theorem tS_seq {f g : SF Z.T} (h : tS C (seqF f g) E σ H) : tSeq (tS C f) (tS C g) E σ H := by
  obtain ⟨ow, τ, t, R, z, o, s', e, k⟩ := h
  unfold seqF at e
  cases q : f (τ, t) with
  | none => rw [q] at e; cases e
  | some w =>
    obtain ⟨o1, s1⟩ := w
    rw [q] at e
    refine ⟨ow, τ, t, R, z, o1, s1, q, ?_⟩
    cases o1 with
    | nx => exact fun ow1 σ1 H1 R1 z1 x1 => ⟨ow1, s1.1, s1.2, R1, z1, o, s', e, k.from x1⟩
    | rt r => cases e; exact k
    | bk => cases e; exact k
    | ct => cases e; exact k
    | ex c fs => cases e; exact k
theorem sv_nil : PSs X [] (tS C nxF) := ⟨fun pins s σ H E I h => pss_nil.run pins s σ H E I (by
  obtain ⟨ow, τ, t, R, z, o, s', e, k⟩ := h
  cases e
  exact k ow σ H R z .refl)⟩
theorem sv_one {st : Stmt} {f : SF Z.T} (h : PS X st (tS C f)) : PSs X [st] (tS C f) := pss_one h
theorem sv_cons {st : Stmt} {rest : List Stmt} {f g : SF Z.T} (h1 : PS X st (tS C f)) (h2 : PSs X rest (tS C g)) : PSs X (st :: rest) (tS C (seqF f g)) :=
  ⟨fun pins s σ H E I h => (pss_cons h1 h2).run pins s σ H E I (tS_seq h)⟩
/-- a statement that begins with an expression -/
theorem tS_bind {f : EF Z.T} {k : Res → SF Z.T} (h : tS C (sbind f k) E σ H) : tF C f σ H fun v H1 => ∃ ow1 τ1 t1 r, C.Rel ow1 τ1 t1 σ H1 ∧ ResOk C ow1 τ1 σ H1 v r ∧ KnS C (k r) ow1 τ1 t1 H1 E := by
  obtain ⟨ow, τ, t, R, h0, o, s', e, h⟩ := h
  unfold sbind at e
  cases q : f (τ, t) with
  | none => rw [q] at e; cases e
  | some z =>
    obtain ⟨o1, s1⟩ := z
    rw [q] at e
    cases o1 with
    | ex c fs =>
      cases e
      exact ⟨ow, τ, t, _, _, R, h0, q, fun ow' d H' R' z x e => h ow' σ d H' R' z x e⟩
    | ok r => exact ⟨ow, τ, t, _, _, R, h0, q, fun ow1 v H1 R1 r1 x1 => ⟨ow1, s1.1, s1.2, r, R1, r1, ⟨o, s', e, h.from x1⟩⟩⟩
theorem sv_expr {e : Expr} {f : EF Z.T} {pos : Pos} (he : PE X e (tF C f)) (hs : swapsWith e none pos.line X.env = pure false := by rfl) : PS X (.Expr e pos) (tS C (dropF f)) :=
  ⟨fun pins s σ H E I h => (ps_expr he hs).run pins s σ H E I (tF_mono (tS_bind h) fun v H1 ⟨ow1, τ1, t1, r, R1, r1, k⟩ => by
    obtain ⟨ow2, R2, z2, _, x2⟩ := r1.hold R1
    obtain ⟨o, s', e, k⟩ := k
    cases e
    exact k ow2 σ H1 R2 z2 x2)⟩
/-- own slot i is moved: it is pending -/
def move (ow : Nat → Option Addr) (i j : Nat) : Nat → Option Addr := fun k => if k = j then ow i else if k = i then none else ow k
theorem move_some {ow : Nat → Option Addr} {i j k : Nat} {a : Addr} (h : move ow i j k = some a) : (k = j ∧ ow i = some a) ∨ (k ≠ j ∧ k ≠ i ∧ ow k = some a) := by
  unfold move at h
  split at h
  · exact .inl ⟨by assumption, h⟩
  · split at h
    · cases h
    · exact .inr ⟨by assumption, by assumption, h⟩
theorem hid_move {O₀ : Addr → Prop} {ow : Nat → Option Addr} {i j : Nat} {a : Addr} (h : Hid O₀ (move ow i j) a) : Hid O₀ ow a := by
  rcases h with h | ⟨k, e⟩
  · exact .inl h
  · rcases move_some e with ⟨_, e⟩ | ⟨_, _, e⟩
    · exact .inr ⟨i, e⟩
    · exact .inr ⟨k, e⟩
theorem ext_move {O₀ : Addr → Prop} {ow : Nat → Option Addr} {i j : Nat} {H : Hp} : Ext (Hid O₀ ow) H (Hid O₀ (move ow i j)) H := ⟨fun _ _ e _ => e, fun _ h => .inl (hid_move h)⟩
theorem move_inj {ow : Nat → Option Addr} {i j : Nat} (hij : i ≠ j) (inj : ∀ i j a, ow i = some a → ow j = some a → i = j) : ∀ k l a, move ow i j k = some a → move ow i j l = some a → k = l := by
  intro k l a h1 h2
  rcases move_some h1 with ⟨e1, e2⟩ | ⟨n1, n2, e2⟩
  · rcases move_some h2 with ⟨e3, _⟩ | ⟨_, n4, e4⟩
    · rw [e1, e3]
    · exact absurd (inj _ _ _ e4 e2) n4
  · rcases move_some h2 with ⟨_, e4⟩ | ⟨_, _, e4⟩
    · exact absurd (inj _ _ _ e2 e4) n2
    · exact inj _ _ _ e2 e4
theorem Rel.take {i : Nat} {d : D} (R : C.Rel ow τ t σ H) (e : τ[i]? = some (.o d)) : C.Rel (move ow (i + 1) 0) (τ.set i .no) t σ H where
  on := Z.loc t _ _ H H R.on (fun a o e n => ⟨e, fun q => n (hid_move q)⟩) fun _ _ _ e => e
  hid := R.hid
  hidT := R.hidT
  grow := R.grow
  len := by rw [List.length_set]; exact R.len
  slot := fun j s h => by
    by_cases q : j = i
    · subst q
      have hl : j < τ.length := (List.getElem?_eq_some_iff.mp e).1
      rw [List.getElem?_set_self hl] at h
      cases h
      trivial
    · rw [List.getElem?_set_ne (Ne.symm q)] at h
      exact (R.slot j s h).ext ext_move fun a h => ⟨by
        unfold move
        rw [if_neg (by omega), if_neg (by omega)]
        exact h, rfl⟩
  inj := move_inj (by omega) R.inj
  new := fun k a h => by
    rcases move_some h with ⟨_, e⟩ | ⟨_, _, e⟩
    · exact R.new _ a e
    · exact R.new _ a e
theorem sv_ret {e : Expr} {f : EF Z.T} {pos : Pos} (he : PE X e (tF C f)) : PS X (.Return (some e) pos) (tS C (retF f)) :=
  ⟨fun pins s σ H E I h => (ps_ret he).run pins s σ H E I (tF_mono (tS_bind h) fun v H1 ⟨ow1, τ1, t1, r, R1, r1, k⟩ => by
    obtain ⟨o, s', e, k⟩ := k
    cases r with
    | d d =>
      cases e
      exact k ow1 σ v H1 R1 r1 .refl
    | f d =>
      cases e
      exact k ow1 σ v H1 R1 r1 .refl
    | s i =>
      obtain ⟨z, r1⟩ := r1
      simp only at e
      split at e
      · rename_i d p
        cases e
        obtain ⟨v', e1, q⟩ := R1.slot i _ p
        rw [r1] at e1
        cases e1
        exact k ow1 σ v H1 R1 ⟨z, q⟩ .refl
      · rename_i d p
        cases e
        obtain ⟨a, o, e1, e2, e3, c⟩ := R1.slot i _ p
        rw [r1] at e2
        cases e2
        refine k (move ow1 (i + 1) 0) σ _ H1 (R1.take p) ⟨a, o, ?_, rfl, e3, c.ext ext_move⟩ ext_move
        unfold move
        rw [if_pos rfl]
        exact e1
      · cases e)⟩
theorem tS_if {f : EF Z.T} {g h : SF Z.T} (q : tS C (ifF f g h) E σ H) : tT C f σ H fun b H1 => if b = true then tS C g E σ H1 else tS C h E σ H1 := by
  obtain ⟨ow, τ, t, R, z, o, s', e, k⟩ := q
  unfold ifF sbind at e
  cases q : f (τ, t) with
  | none => rw [q] at e; cases e
  | some w =>
    obtain ⟨o1, s1⟩ := w
    rw [q] at e
    cases o1 with
    | ex c fs =>
      cases e
      exact ⟨ow, τ, t, R, z, _, _, q, fun ow' d H' R' z x e => k ow' σ d H' R' z x e⟩
    | ok r =>
      simp only at e
      split at e
      · rename_i p
        exact ⟨ow, τ, t, R, z, _, _, q, true, p, fun ow1 H1 R1 z1 x1 => by dsimp only; rw [if_pos rfl]; exact ⟨ow1, s1.1, s1.2, R1, z1, o, s', e, k.from x1⟩⟩
      · rename_i p
        exact ⟨ow, τ, t, R, z, _, _, q, false, p, fun ow1 H1 R1 z1 x1 => by dsimp only; rw [if_neg (by decide)]; exact ⟨ow1, s1.1, s1.2, R1, z1, o, s', e, k.from x1⟩⟩
      · cases e
theorem sv_if {c : Expr} {a b : List Stmt} {f : EF Z.T} {g h : SF Z.T} {pos : Pos} (hc : PT X c (tT C f)) (ha : PSs X a (tS C g)) (hb : PSs X b (tS C h)) : PS X (.If c a b pos) (tS C (ifF f g h)) :=
  ⟨fun pins s σ H E I q => (ps_if hc ha hb).run pins s σ H E I (tS_if q)⟩

/-! ### stores to names -/
theorem Rel.set {i : Nat} {v : V} {d : D} (R : C.Rel ow τ t σ H) (h : Den Z (C.Hid ow) H v d) : C.Rel (drop ow (i + 1)) (τ.set i (.v d)) t (σ.set i (some v)) H where
  on := Z.loc t _ _ H H R.on (fun a o e n => ⟨e, fun q => n (q.imp id fun ⟨j, h⟩ => ⟨j, (drop_some h).1⟩)⟩) fun _ _ _ e => e
  hid := R.hid
  hidT := R.hidT
  grow := R.grow
  len := by rw [List.length_set, List.length_set]; exact R.len
  slot := fun j s q => by
    by_cases e : j = i
    · subst e
      have hl : j < τ.length := by
        have := (List.getElem?_eq_some_iff.mp q).1
        rwa [List.length_set] at this
      rw [List.getElem?_set_self hl] at q
      cases q
      exact ⟨v, List.getElem?_set_self (by rw [← R.len]; exact hl), h.ext ext_drop⟩
    · rw [List.getElem?_set_ne (Ne.symm e)] at q
      have := (R.slot j s q).ext (ow' := drop ow (i + 1)) (ext_drop (i := i + 1)) fun a h => ⟨by rw [drop_ne (by omega)]; exact h, rfl⟩
      cases s with
      | no => trivial
      | x => exact ⟨(List.getElem?_set_ne (Ne.symm (by assumption))).trans this.1, this.2⟩
      | v d => 
        obtain ⟨v', e1, e2⟩ := this
        exact ⟨v', by rw [List.getElem?_set_ne (Ne.symm e)]; exact e1, e2⟩
      | o d =>
        obtain ⟨a, o, e1, e2, e3, c⟩ := this
        exact ⟨a, o, e1, by rw [List.getElem?_set_ne (Ne.symm e)]; exact e2, e3, c⟩
  inj := fun i j a h1 h2 => R.inj i j a (drop_some h1).1 (drop_some h2).1
  new := fun i a h => R.new i a (drop_some h).1
theorem Rel.setOwn {i : Nat} {a : Addr} {o : HO} {d : D} (R : C.Rel ow τ t σ H) (h0 : ow 0 = some a) (e : H a = some o) (c : Cont Z (C.Hid ow) H o d) : C.Rel (move ow 0 (i + 1)) (τ.set i (.o d)) t (σ.set i (some (.ref a))) H where
  on := Z.loc t _ _ H H R.on (fun a o e n => ⟨e, fun q => n (hid_move q)⟩) fun _ _ _ e => e
  hid := R.hid
  hidT := R.hidT
  grow := R.grow
  len := by rw [List.length_set, List.length_set]; exact R.len
  slot := fun j s q => by
    by_cases e2 : j = i
    · subst e2
      have hl : j < τ.length := by
        have := (List.getElem?_eq_some_iff.mp q).1
        rwa [List.length_set] at this
      rw [List.getElem?_set_self hl] at q
      cases q
      refine ⟨a, o, ?_, List.getElem?_set_self (by rw [← R.len]; exact hl), e, c.ext ext_move⟩
      unfold move
      rw [if_pos rfl]
      exact h0
    · rw [List.getElem?_set_ne (Ne.symm e2)] at q
      have := (R.slot j s q).ext (ow' := move ow 0 (i + 1)) (ext_move (i := 0) (j := i + 1)) fun a h => ⟨by
        unfold move
        rw [if_neg (by omega), if_neg (by omega)]
        exact h, rfl⟩
      cases s with
      | no => trivial
      | x => exact ⟨(List.getElem?_set_ne (Ne.symm (by assumption))).trans this.1, this.2⟩
      | v d => 
        obtain ⟨v', e1, e3⟩ := this
        exact ⟨v', by rw [List.getElem?_set_ne (Ne.symm e2)]; exact e1, e3⟩
      | o d =>
        obtain ⟨a, o, e1, e3, e4, c⟩ := this
        exact ⟨a, o, e1, by rw [List.getElem?_set_ne (Ne.symm e2)]; exact e3, e4, c⟩
  inj := move_inj (by omega) R.inj
  new := fun k b h => by
    rcases move_some h with ⟨_, e⟩ | ⟨_, _, e⟩
    · exact R.new _ b e
    · exact R.new _ b e
theorem drop_zero {i : Nat} (h : ow 0 = none) : drop ow (i + 1) 0 = none := by rw [drop_ne (by omega)]; exact h
theorem Rel.store {i : Nat} {v : V} {r : Res} {τ' : List Sl} (R : C.Rel ow τ t σ H) (h : ResOk C ow τ σ H v r) (e : storeAt i τ r = some τ') :
    ∃ ow', C.Rel ow' τ' t (σ.set i (some v)) H ∧ ow' 0 = none ∧ Ext (C.Hid ow) H (C.Hid ow') H := by
  have go : ∀ r : Res, ResOk C ow τ σ H v r → (match give τ r with | none => none | some (d, τ1) => some (τ1.set i (.v d))) = some τ' → ∃ ow', C.Rel ow' τ' t (σ.set i (some v)) H ∧ ow' 0 = none ∧ Ext (C.Hid ow) H (C.Hid ow') H := fun r h e => by
    split at e
    · cases e
    · rename_i d τ1 p
      cases e
      obtain ⟨ow1, R1, z1, d1, x1⟩ := h.give R p
      exact ⟨_, R1.set d1, drop_zero z1, x1.trans ext_drop⟩
  cases r with
  | d d => exact go _ h e
  | s j => exact go _ h e
  | f d =>
    cases e
    obtain ⟨a, o, h1, rfl, h3, c⟩ := h
    refine ⟨_, R.setOwn h1 h3 c, ?_, ext_move⟩
    unfold move
    rw [if_neg (by omega), if_pos rfl]
theorem tS_set {i : Nat} {f : EF Z.T} (h : tS C (setF i f) E σ H) : tAsg (tF C f) (gName i) E σ H :=
  tF_mono (tS_bind h) fun v H1 ⟨ow1, τ1, t1, r, R1, r1, k⟩ => by
    obtain ⟨o, s', e, k⟩ := k
    simp only at e
    split at e
    · cases e
    · rename_i τ2 p
      cases e
      obtain ⟨ow2, R2, z2, x2⟩ := R1.store r1 p
      exact k ow2 _ H1 R2 z2 x2
theorem sv_set {i : Nat} {x : Str} {e : Expr} {f : EF Z.T} {pos pos' : Pos} (hN : X.N.Nodup) (hi : X.N[i]? = some x) (hx : Loc X.env.scope x) (he : PE X e (tF C f)) (hs : swapsWith e (some (.Name x pos')) pos.line X.env = pure false := by rfl)
    (hf : X.fn x = true ∨ X.env.scope.names.lookup x = some .local := by first | exact .inl rfl | exact .inr rfl) : PS X (.Assign [.Name x pos'] e pos) (tS C (setF i f)) :=
  ⟨fun pins s σ H E I h => (ps_set hN hi hx he hs hf).run pins s σ H E I (tS_set h)⟩
end
end FD

/-! F7: targets, loops, comprehensions. -/
namespace FD
open PySem PySem.Spec PyProof.Rows L2

/-! ### targets -/
abbrev GF := D → List Sl → Option (List Sl)
abbrev GFs := List D → List Sl → Option (List Sl)
/-- slots outside S are as they were -/
def Off (S : List Nat) (σ σ' : L2.St) : Prop := σ'.length = σ.length ∧ ∀ j, j ∉ S → σ'[j]? = σ[j]?
theorem Off.refl {S : List Nat} {σ : L2.St} : Off S σ σ := ⟨rfl, fun _ _ => rfl⟩
theorem Off.trans {S : List Nat} {σ σ' σ'' : L2.St} (a : Off S σ σ') (b : Off S σ' σ'') : Off S σ σ'' := ⟨b.1.trans a.1, fun j h => (b.2 j h).trans (a.2 j h)⟩
def tG {Z : Wd} (C : Fx Z) (S : List Nat) (g : GF) : TG := fun v σ H Q => ∃ ow τ t d τ', C.Rel ow τ t σ H ∧ ow 0 = none ∧ Den Z (C.Hid ow) H v d ∧ g d τ = some τ' ∧
  ∀ ow' σ', C.Rel ow' τ' t σ' H → ow' 0 = none → Ext (C.Hid ow) H (C.Hid ow') H → Off S σ σ' → Q σ' H
def tGs {Z : Wd} (C : Fx Z) (S : List Nat) (g : GFs) : TGs := fun vs σ H Q => ∃ ow τ t ds τ', C.Rel ow τ t σ H ∧ ow 0 = none ∧ DenA Z (C.Hid ow) H vs ds ∧ g ds τ = some τ' ∧
  ∀ ow' σ', C.Rel ow' τ' t σ' H → ow' 0 = none → Ext (C.Hid ow) H (C.Hid ow') H → Off S σ σ' → Q σ' H
def nameG (i : Nat) : GF := fun d τ => some (τ.set i (.v d))
def nilG : GFs := fun ds τ => match ds with
  | [] => some τ
  | _ => none
def consG (g : GF) (h : GFs) : GFs := fun ds τ => match ds with
  | [] => none
  | d :: ds => match g d τ with
    | none => none
    | some τ1 => h ds τ1
def tupG (n : Nat) (h : GFs) : GF := fun d τ => match d with
  | .tup ds => if ds.length = n then h ds τ else none
  | _ => none
section
variable {Z : Wd} {C : Fx Z} {X : Cx} {ow : Nat → Option Addr} {τ : List Sl} {t : Z.T} {σ : L2.St} {H H' : Hp} {S : List Nat}
theorem off_set {i : Nat} {v : Option V} (h : i ∈ S) : Off S σ (σ.set i v) := ⟨List.length_set, fun j hj => List.getElem?_set_ne (fun e => hj (by rw [← e]; exact h))⟩
theorem gv_name {i : Nat} {x : Str} {pos : Pos} (hN : X.N.Nodup) (hi : X.N[i]? = some x) (hx : Loc X.env.scope x) (hf : X.fn x = true ∨ X.env.scope.names.lookup x = some .local := by first | exact .inl rfl | exact .inr rfl) (hS : i ∈ S := by decide) :
    PG X (.Name x pos) (tG C S (nameG i)) := ⟨fun pins s σ H v u Q I r h => (pg_name hN hi hx hf).run pins s σ H v u Q I r (by
  obtain ⟨ow, τ, t, d, τ', R, z, dn, e, k⟩ := h
  cases e
  exact k _ _ (R.set dn) (drop_zero z) ext_drop (off_set hS))⟩
theorem gv_nil : PGs X [] (tGs C S nilG) := ⟨fun pins s σ H v u Q I r h => pgs_nil.run pins s σ H v u Q I r (by
  obtain ⟨ow, τ, t, d, τ', R, z, dn, e, k⟩ := h
  cases dn with
  | nil =>
    cases e
    exact ⟨rfl, k _ _ R z .refl .refl⟩
  | cons _ _ => cases e)⟩
theorem gv_cons {e : Expr} {es : List Expr} {g : GF} {h : GFs} (h1 : PG X e (tG C S g)) (h2 : PGs X es (tGs C S h)) (hs : (assignEach (e :: es) X.env).map (·.2) = assign e X.env :: (assignEach es X.env).map (·.2) := by rfl) : PGs X (e :: es) (tGs C S (consG g h)) := ⟨fun pins s σ H v u Q I r q => (pgs_cons h1 h2 hs).run pins s σ H v u Q I r (by
  obtain ⟨ow, τ, t, d, τ', R, z, dn, e, k⟩ := q
  cases dn with
  | nil => cases e
  | cons d1 d2 =>
    unfold consG at e
    simp only at e
    split at e
    · cases e
    · rename_i τ1 p
      exact ⟨_, _, rfl, ow, τ, t, _, τ1, R, z, d1, p, fun ow1 σ1 R1 z1 x1 f1 => ⟨ow1, τ1, t, _, τ', R1, z1, d2.ext x1, e, fun ow2 σ2 R2 z2 x2 f2 => k ow2 σ2 R2 z2 (x1.trans x2) (f1.trans f2)⟩⟩)⟩
theorem gv_tup {es : List Expr} {k n : Nat} {h : GFs} {pos : Pos} (hc : X.calm = true) (q : PGs X es (tGs C S h)) (hn : (assignEach es X.env).length = n := by rfl) (hst : (assignEach es X.env).findIdx? (·.1) = none := by rfl) : PG X (.Tuple es k pos) (tG C S (tupG n h)) := ⟨fun pins s σ H v u Q I r w => (pg_tup (n := n) hc q hn hst).run pins s σ H v u Q I r (by
  obtain ⟨ow, τ, t, d, τ', R, z, dn, e, k⟩ := w
  unfold tupG at e
  split at e
  · split at e
    · rename_i hl
      obtain ⟨a, xs, rfl, h1, c, _⟩ := (Shows.den dn).tup
      exact ⟨a, xs, rfl, SqT.of h1, c.len.trans hl, ow, τ, t, _, τ', R, z, c, e, k⟩
    · cases e
  · cases e)⟩
end

/-! ### what is walked -/
inductive OutI where
  | ok (ds : List D) | ex (c : Str) (fs : List (Str × D))
abbrev IF (T : Type) := Sg T → Option (OutI × Sg T)
/-- a walk that gives the data ds -/
def Walks (Z : Wd) (O : Addr → Prop) (H : Hp) (J : It) (ds : List D) : Prop := ∃ (G : Hp → Prop) (Y : Nat → Hp → V → Hp → Prop), Walk J ds.length G Y ∧ (∀ O' H', Ext O H O' H' → G H') ∧
  ∀ i H1 x H2 O1, i < ds.length → Ext O H O1 H1 → (∀ p, H1 p = none → ¬ O1 p) → Y i H1 x H2 → ∃ d, ds[i]? = some d ∧ Grow H1 H2 ∧ Den Z O1 H2 x d
def FinI {Z : Wd} (C : Fx Z) (ow : Nat → Option Addr) (σ : L2.St) (H : Hp) (R : It → Hp → Prop) (s' : Sg Z.T) : OutI → Prop
  | .ok ds => ∀ ow' J H', C.Rel ow' s'.1 s'.2 σ H' → ow' 0 = none → Ext (C.Hid ow) H (C.Hid ow') H' → Walks Z (C.Hid ow') H' J ds → R J H'
  | .ex c fs => ∀ ow' d H', C.Rel ow' s'.1 s'.2 σ H' → ow' 0 = none → Ext (C.Hid ow) H (C.Hid ow') H' → ExOk Z (C.Hid ow') H' d fs → C.W (.ref (Z.ca c)) d σ H'
def tI {Z : Wd} (C : Fx Z) (f : IF Z.T) : TI := fun σ H R => ∃ ow τ t o s', C.Rel ow τ t σ H ∧ ow 0 = none ∧ f (τ, t) = some (o, s') ∧ FinI C ow σ H R s' o

/-- for .. in ..: the items one after the other -/
def forL {T : Type} (g : GF) (b : SF T) : List D → SF T
  | [] => nxF
  | d :: ds => fun s => match g d s.1 with
    | none => none
    | some τ => match b (τ, s.2) with
      | none => none
      | some (.nx, s1) => forL g b ds s1
      | some (.ct, s1) => forL g b ds s1
      | some (.bk, s1) => some (.nx, s1)
      | some (.rt r, s1) => some (.rt r, s1)
      | some (.ex c fs, s1) => some (.ex c fs, s1)
def forF {T : Type} (it : IF T) (g : GF) (b : SF T) : SF T := fun s => match it s with
  | none => none
  | some (.ex c fs, s1) => some (.ex c fs, s1)
  | some (.ok ds, s1) => forL g b ds s1
section
variable {Z : Wd} {C : Fx Z} {X : Cx} {ow ow1 : Nat → Option Addr} {τ : List Sl} {t : Z.T} {σ : L2.St} {H H1 H' : Hp} {S : List Nat} {E : Ends}
theorem Walks.ext {O O' : Addr → Prop} {J : It} {ds : List D} (w : Walks Z O H J ds) (x : Ext O H O' H') : Walks Z O' H' J ds := by
  obtain ⟨G, Y, w, g, y⟩ := w
  exact ⟨G, Y, w, fun O2 H2 x2 => g O2 H2 (x.trans x2), fun i H1 v H2 O1 hi x1 => y i H1 v H2 O1 hi (x.trans x1)⟩
theorem tS_for {it : IF Z.T} {g : GF} {b : SF Z.T} (h : tS C (forF it g b) E σ H) : tFor (tI C it) (tG C S g) (tS C b) E σ H := by
  obtain ⟨ow, τ, t, R, z, o, s', e, k⟩ := h
  unfold forF at e
  cases q : it (τ, t) with
  | none => rw [q] at e; cases e
  | some w =>
    obtain ⟨o1, s1⟩ := w
    rw [q] at e
    refine ⟨ow, τ, t, o1, s1, R, z, q, ?_⟩
    cases o1 with
    | ex c fs =>
      cases e
      exact fun ow' d H' R' z x e => k ow' σ d H' R' z x e
    | ok ds =>
      intro ow1 J H1 R1 z1 x1 w1
      simp only at e
      obtain ⟨G, Y, wk, hG, hY⟩ := w1
      refine for_it wk (fun i σ2 H2 => ∃ ow2 τ2 t2, C.Rel ow2 τ2 t2 σ2 H2 ∧ ow2 0 = none ∧ Ext (C.Hid ow1) H1 (C.Hid ow2) H2 ∧ KnS C (forL g b (ds.drop i)) ow2 τ2 t2 H2 { nx := E.nx, rt := E.rt, bk := fun _ _ => False, ct := fun _ _ => False }) ?_ ?_ ?_ ?_
      · refine ⟨ow1, s1.1, s1.2, R1, z1, .refl, o, s', e, ?_⟩
        have k1 := k.from x1
        -- a for of its own breaks nothing
        have noB : ∀ (ds : List D) (s : Sg Z.T) (o : SOut) (s' : Sg Z.T), forL g b ds s = some (o, s') → o ≠ .bk ∧ o ≠ .ct := by
          intro ds
          induction ds with
          | nil =>
            intro s o s' e
            cases e
            exact ⟨nofun, nofun⟩
          | cons d ds ih =>
            intro s o s' e
            unfold forL at e
            split at e
            · cases e
            · split at e
              · cases e
              · exact ih _ _ _ e
              · exact ih _ _ _ e
              · cases e
                exact ⟨nofun, nofun⟩
              · cases e
                exact ⟨nofun, nofun⟩
              · cases e
                exact ⟨nofun, nofun⟩
        have nb := noB _ _ _ _ e
        cases o with
        | nx => exact k1
        | rt r => exact k1
        | bk => exact absurd rfl nb.1
        | ct => exact absurd rfl nb.2
        | ex c fs => exact k1
      · rintro i σ2 H2 hi ⟨ow2, τ2, t2, R2, z2, x2, _⟩
        exact hG _ _ x2
      · rintro i x σ2 H2 H3 hi ⟨ow2, τ2, t2, R2, z2, x2, o2, s2, e2, k2⟩ y
        obtain ⟨d, hd, gr, dn⟩ := hY i H2 x H3 _ hi x2 (fun p hp => R2.nohid hp) y
        have hdr : ds.drop i = d :: ds.drop (i + 1) := by
          rw [List.drop_eq_getElem_cons hi]
          have : ds[i] = d := by
            have := List.getElem?_eq_getElem hi
            rw [hd] at this
            exact (Option.some.inj this).symm
          rw [this]
        rw [hdr] at e2
        unfold forL at e2
        simp only at e2
        split at e2
        · cases e2
        · rename_i τ3 p3
          refine ⟨ow2, τ2, t2, d, τ3, R2.grown gr, z2, dn, p3, fun ow3 σ3 R3 z3 x3 _ => ?_⟩
          have x23 := (gr.ext (O := C.Hid ow2)).trans x3
          split at e2
          · cases e2
          · rename_i s4 p4
            refine ⟨ow3, τ3, t2, R3, z3, .nx, s4, p4, fun ow4 σ4 H4 R4 z4 x4 => ?_⟩
            exact ⟨ow4, s4.1, s4.2, R4, z4, (x2.trans x23).trans x4, o2, s2, e2, k2.from (x23.trans x4)⟩
          · rename_i s4 p4
            refine ⟨ow3, τ3, t2, R3, z3, .ct, s4, p4, fun ow4 σ4 H4 R4 z4 x4 => ?_⟩
            exact ⟨ow4, s4.1, s4.2, R4, z4, (x2.trans x23).trans x4, o2, s2, e2, k2.from (x23.trans x4)⟩
          · rename_i s4 p4
            cases e2
            refine ⟨ow3, τ3, t2, R3, z3, .bk, _, p4, fun ow4 σ4 H4 R4 z4 x4 => ?_⟩
            exact k2 ow4 σ4 H4 R4 z4 (x23.trans x4)
          · rename_i r s4 p4
            cases e2
            exact ⟨ow3, τ3, t2, R3, z3, .rt r, _, p4, fun ow4 σ4 v H4 R4 r4 x4 => k2 ow4 σ4 v H4 R4 r4 (x23.trans x4)⟩
          · rename_i c fs s4 p4
            cases e2
            exact ⟨ow3, τ3, t2, R3, z3, .ex c fs, _, p4, fun ow4 σ4 d4 H4 R4 z4 x4 e4 => k2 ow4 σ4 d4 H4 R4 z4 (x23.trans x4) e4⟩
      · rintro σ2 H2 ⟨ow2, τ2, t2, R2, z2, x2, o2, s2, e2, k2⟩
        rw [List.drop_length] at e2
        cases e2
        exact k2 ow2 σ2 H2 R2 z2 .refl
theorem sv_for {tg iter : Expr} {body : List Stmt} {pos : Pos} {it : IF Z.T} {g : GF} {b : SF Z.T} (hp : PassesOwn (model X.prog X.w) X.A X.env X.xe) (hc : X.calm = true) (hi : PI X tg iter (tI C it)) (hg : PG X tg (tG C S g)) (hb : PSs X body (tS C b))
    (hs : ∀ x, foldedSetIterable iter X.env x = pure x := by intro _; rfl) : PS X (.For tg iter body [] pos) (tS C (forF it g b)) :=
  ⟨fun pins s σ H E I h => (ps_for hp hc hi hg hb hs).run pins s σ H E I (tS_for h)⟩
end
end FD

/-! F8: changes of own objects, comprehensions. -/
namespace FD
open PySem PySem.Spec PyProof.Rows L2

section
variable {Z : Wd} {C : Fx Z} {X : Cx} {ow ow1 : Nat → Option Addr} {τ : List Sl} {t : Z.T} {σ : L2.St} {H H1 H' : Hp}
theorem Rel.own_ne (R : C.Rel ow τ t σ H) {j : Nat} {a : Addr} (e : ow j = some a) : ¬ C.O a := fun h => by
  obtain ⟨o, h1, _⟩ := R.hidT a h
  rw [(R.new j a e).1] at h1
  cases h1
theorem ext_upd {O : Addr → Prop} {a : Addr} {o : HO} (h : O a) : Ext O H O (upd H a o) := ⟨fun b u e n => by
  rw [upd_ne (fun z => n (by rw [z]; exact h))]
  exact e, fun _ q => .inl q⟩
/-- an own object that is in no slot changes -/
theorem Rel.mutK (R : C.Rel ow τ t σ H) {j : Nat} {a : Addr} {o o0 : HO} (e : ow j = some a) (hj : τ.length < j) (n : ∀ xs, o ≠ .tup xs) (e0 : H a = some o0) (n0 : ∀ φ, o0 ≠ .ext φ) : C.Rel ow τ t σ (upd H a o) where
  on := Z.loc t _ _ H _ R.on (fun b u q nb => ⟨(upd_ne fun z => nb (.inr ⟨_, z ▸ e⟩)).trans q, nb⟩) fun b u hb q => by
    rw [upd_ne (fun z => ?_)]
    · exact q
    · rcases hb with hb | ⟨φ, rfl⟩
      · exact R.own_ne e (by rw [← z]; exact R.hid b hb)
      · rw [z, e0] at q
        exact n0 φ (Option.some.inj q)
  hid := R.hid
  hidT := R.hidT
  grow := fun b u q nb => by
    rw [upd_ne (fun z => by rw [z, (R.new j a e).1] at q; cases q)]
    exact R.grow b u q nb
  len := R.len
  slot := fun i s q => (R.slot i s q).ext (ext_upd (.inr ⟨j, e⟩)) fun b h => ⟨h, upd_ne fun z => by
    have := R.inj (i + 1) j a (by rw [← z]; exact h) e
    have := (List.getElem?_eq_some_iff.mp q).1
    omega⟩
  inj := R.inj
  new := fun i b h => by
    obtain ⟨h1, u, h2, m⟩ := R.new i b h
    refine ⟨h1, ?_⟩
    by_cases z : b = a
    · rw [z]; exact ⟨o, upd_same, n⟩
    · exact ⟨u, by rw [upd_ne z]; exact h2, m⟩
/-- slot i's own object changes -/
theorem Rel.mutS (R : C.Rel ow τ t σ H) {i : Nat} {a : Addr} {o : HO} {d d' : D} (e : ow (i + 1) = some a) (hs : τ[i]? = some (.o d)) (n : ∀ xs, o ≠ .tup xs) (c : Cont Z (C.Hid ow) H o d') : C.Rel ow (τ.set i (.o d')) t σ (upd H a o) where
  on := Z.loc t _ _ H _ R.on (fun b u q nb => ⟨(upd_ne fun z => nb (.inr ⟨_, z ▸ e⟩)).trans q, nb⟩) fun b u hb q => by
    rw [upd_ne (fun z => ?_)]
    · exact q
    · rcases hb with hb | ⟨φ, rfl⟩
      · exact R.own_ne e (by rw [← z]; exact R.hid b hb)
      · obtain ⟨a1, o1, f1, _, f3, c1⟩ := R.slot i _ hs
        rw [e] at f1
        cases f1
        rw [z, f3] at q
        cases q
        cases c1
  hid := R.hid
  hidT := R.hidT
  grow := fun b u q nb => by
    rw [upd_ne (fun z => by rw [z, (R.new _ a e).1] at q; cases q)]
    exact R.grow b u q nb
  len := by rw [List.length_set]; exact R.len
  slot := fun k s q => by
    by_cases z : k = i
    · subst z
      rw [List.getElem?_set_self (List.getElem?_eq_some_iff.mp hs).1] at q
      cases q
      obtain ⟨b, u, e1, e2, e3, _⟩ := R.slot k _ hs
      rw [e] at e1
      cases e1
      exact ⟨a, o, e, e2, upd_same, c.ext (ext_upd (.inr ⟨_, e⟩))⟩
    · rw [List.getElem?_set_ne (Ne.symm z)] at q
      exact (R.slot k s q).ext (ext_upd (.inr ⟨_, e⟩)) fun b h => ⟨h, upd_ne fun y => z (by
        have := R.inj (k + 1) (i + 1) a (by rw [← y]; exact h) e
        omega)⟩
  inj := R.inj
  new := fun i b h => by
    obtain ⟨h1, u, h2, m⟩ := R.new i b h
    refine ⟨h1, ?_⟩
    by_cases z : b = a
    · rw [z]; exact ⟨o, upd_same, n⟩
    · exact ⟨u, by rw [upd_ne z]; exact h2, m⟩
/-- a new object is laid and parked at an index that no slot has -/
theorem Rel.park {p : Addr} {o : HO} {K : Nat} (R : C.Rel ow τ t σ H) (hK : τ.length < K) (h : H p = none) (hn : ∀ xs, o ≠ .tup xs) : C.Rel (put ow K p) τ t σ (upd H p o) where
  on := Z.loc t _ _ H _ R.on (fun a u e n => ⟨Grow.new h a u e, fun q => (hid_put q).elim n fun z => ne_of_none e h z⟩) fun a u _ e => Grow.new h a u e
  hid := R.hid
  hidT := R.hidT
  grow := fun a u e n => Grow.new h a u (R.grow a u e n)
  len := R.len
  slot := fun i s e => (R.slot i s e).ext (ext_put h) fun a q => ⟨by
    have := (List.getElem?_eq_some_iff.mp e).1
    rw [put_ne (by omega)]; exact q, by
    obtain ⟨_, u, e, _⟩ := R.new _ a q
    rw [e]
    exact Grow.new h a u e⟩
  inj := fun i j a h1 h2 => by
    have old : ∀ i a, ow i = some a → a ≠ p := fun i a q z => by
      obtain ⟨_, u, e, _⟩ := R.new i a q
      rw [z, h] at e
      cases e
    rcases put_some h1 with ⟨e1, e2⟩ | ⟨_, e2⟩
    · rcases put_some h2 with ⟨e3, _⟩ | ⟨_, e4⟩
      · rw [e1, e3]
      · exact absurd e2 (old j a e4)
    · rcases put_some h2 with ⟨_, e3⟩ | ⟨_, e4⟩
      · exact absurd e3 (old i a e2)
      · exact R.inj i j a e2 e4
  new := fun i a q => by
    rcases put_some q with ⟨_, e⟩ | ⟨_, e⟩
    · subst e
      refine ⟨?_, o, upd_same, hn⟩
      cases z : C.H a with
      | none => rfl
      | some u =>
        by_cases g : Z.hid a
        · obtain ⟨u', e', _⟩ := Z.trk t _ H a R.on g
          rw [h] at e'
          cases e'
        · have := R.grow a u z g
          rw [h] at this
          cases this
    · obtain ⟨h1, u, e2, n⟩ := R.new i a e
      exact ⟨h1, u, Grow.new h a u e2, n⟩
/-- what was parked is pending -/
theorem Rel.unpark {K : Nat} (R : C.Rel ow τ t σ H) (hK : τ.length < K) : C.Rel (move ow K 0) τ t σ H where
  on := Z.loc t _ _ H H R.on (fun a o e n => ⟨e, fun q => n (hid_move q)⟩) fun _ _ _ e => e
  hid := R.hid
  hidT := R.hidT
  grow := R.grow
  len := R.len
  slot := fun i s e => (R.slot i s e).ext ext_move fun a q => ⟨by
    have := (List.getElem?_eq_some_iff.mp e).1
    unfold move
    rw [if_neg (by omega), if_neg (by omega)]
    exact q, rfl⟩
  inj := move_inj (by omega) R.inj
  new := fun k b h => by
    rcases move_some h with ⟨_, e⟩ | ⟨_, _, e⟩
    · exact R.new _ b e
    · exact R.new _ b e
end

/-! ### readings whose frame is open -/
def dead : WX := fun _ _ _ _ => False
def tFx (Z : Wd) (f : EF Z.T) : TE := fun σ H Q => ∃ C : Fx Z, C.W = dead ∧ tF C f σ H Q
def tTx (Z : Wd) (f : EF Z.T) : TT := fun σ H Q => ∃ C : Fx Z, C.W = dead ∧ tT C f σ H Q
def tGx (Z : Wd) (S : List Nat) (g : GF) : TG := fun v σ H Q => ∃ C : Fx Z, C.W = dead ∧ tG C S g v σ H Q
section
variable {Z : Wd} {X : Cx} {e : Expr}
theorem ex_F {f : EF Z.T} (h : ∀ C : Fx Z, C.W = dead → PE X e (tF C f)) : PE X e (tFx Z f) := ⟨fun pins s σ H Q I ⟨C, w, q⟩ => (h C w).run pins s σ H Q I q⟩
theorem ex_T {f : EF Z.T} (h : ∀ C : Fx Z, C.W = dead → PT X e (tT C f)) : PT X e (tTx Z f) := ⟨fun pins s σ H Q I ⟨C, w, q⟩ => (h C w).run pins s σ H Q I q⟩
theorem ex_G {S : List Nat} {g : GF} (h : ∀ C : Fx Z, C.W = dead → PG X e (tG C S g)) : PG X e (tGx Z S g) := ⟨fun pins s σ H v u Q I r ⟨C, w, q⟩ => (h C w).run pins s σ H v u Q I r q⟩
def yesF {T : Type} : EF T := conF (.bl true)
theorem ex_yes : PTs X [] (tTx Z yesF) := ⟨fun pins s σ H Q I ⟨C, w, q⟩ => pts_nil.run pins s σ H Q I (con_tT q)⟩
theorem ex_one {f : EF Z.T} (h : ∀ C : Fx Z, C.W = dead → PT X e (tT C f)) : PTs X [e] (tTx Z f) := pts_one (ex_T h)
end

/-! ### comprehensions -/
def unown : Sl → Sl
  | .o _ => .no
  | .x => .no
  | s => s
/-- what a block sees: neither its own names nor own objects -/
def hideFrom (vs : List Nat) : Nat → List Sl → List Sl
  | _, [] => []
  | i, s :: r => (if i ∈ vs then .no else unown s) :: hideFrom vs (i + 1) r
theorem hideFrom_get {vs : List Nat} : ∀ {τ : List Sl} {k i : Nat}, (hideFrom vs k τ)[i]? = (τ[i]?).map fun s => if k + i ∈ vs then .no else unown s
  | [], _, _ => by simp [hideFrom]
  | s :: r, k, 0 => by simp [hideFrom]
  | s :: r, k, i + 1 => by
    simp only [hideFrom, List.getElem?_cons_succ]
    rw [hideFrom_get (τ := r)]
    have : k + 1 + i = k + (i + 1) := by omega
    rw [this]
theorem hideFrom_len {vs : List Nat} : ∀ {τ : List Sl} {k : Nat}, (hideFrom vs k τ).length = τ.length
  | [], _ => rfl
  | s :: r, k => by simp only [hideFrom, List.length_cons, hideFrom_len (τ := r)]
def shareAll : List Nat → List Sl → List Sl
  | [], τ => τ
  | i :: is, τ => shareAll is (match τ[i]? with
    | some (.o d) => τ.set i (.v d)
    | _ => τ)
def lcL {T : Type} (g : GF) (c e : EF T) (τ0 : List Sl) : List D → T → Option (List D × T)
  | [], t => some ([], t)
  | d :: ds, t => match g d τ0 with
    | none => none
    | some τ1 => match c (τ1, t) with
      | some (.ok r, s2) => match peek s2.1 (hold r) with
        | some (.bl true) => match e s2 with
          | some (.ok r3, s3) => match give s3.1 r3 with
            | some (dv, _) => match lcL g c e τ0 ds s3.2 with
              | some (rest, t') => some (dv :: rest, t')
              | none => none
            | none => none
          | _ => none
        | some (.bl false) => lcL g c e τ0 ds s2.2
        | _ => none
      | _ => none
def lcF {T : Type} (sh vs : List Nat) (it : IF T) (g : GF) (c e : EF T) : EF T := fun s => match it s with
  | none => none
  | some (.ex k fs, s1) => some (.ex k fs, s1)
  | some (.ok ds, s1) => if ds.length ≤ LEN then match lcL g c e (hideFrom vs 0 (shareAll sh s1.1)) ds s1.2 with
      | none => none
      | some (out, t) => some (.ok (.f (.lst out)), (shareAll sh s1.1, t))
    else none
section
variable {Z : Wd} {C : Fx Z} {X : Cx} {ow ow1 : Nat → Option Addr} {τ : List Sl} {t : Z.T} {σ : L2.St} {H H1 H' : Hp}
theorem Rel.shareAll : ∀ {sh : List Nat} {ow : Nat → Option Addr} {τ : List Sl}, C.Rel ow τ t σ H → ow 0 = none → ∃ ow', C.Rel ow' (FD.shareAll sh τ) t σ H ∧ ow' 0 = none ∧ Ext (C.Hid ow) H (C.Hid ow') H
  | [], ow, _, R, z => ⟨ow, R, z, .refl⟩
  | i :: is, ow, τ, R, z => by
    unfold FD.shareAll
    split
    · rename_i d p
      obtain ⟨ow', R', z', x⟩ := Rel.shareAll (sh := is) (R.share p) (drop_zero z)
      exact ⟨ow', R', z', ext_drop.trans x⟩
    · exact Rel.shareAll R z
theorem shareAll_len : ∀ {sh : List Nat} {τ : List Sl}, (FD.shareAll sh τ).length = τ.length
  | [], _ => rfl
  | i :: is, τ => by
    unfold FD.shareAll
    rw [shareAll_len (sh := is)]
    split
    · rw [List.length_set]
    · rfl
theorem wipe_off {S vs : List Nat} {σ σ' : L2.St} (h : Off S (wipe σ vs) σ') (k : ∀ i ∈ S, i ∈ vs) : wipe σ' vs = wipe σ vs := by
  have get : ∀ (vs : List Nat) (σ : L2.St) (i : Nat), (wipe σ vs)[i]? = if i ∈ vs then (σ[i]?).map (fun _ => none) else σ[i]? := by
    intro vs
    induction vs with
    | nil => intro σ i; simp [wipe]
    | cons v vs ih =>
      intro σ i
      unfold wipe
      by_cases e : i = v
      · subst e
        rw [if_pos (by simp)]
        by_cases hl : i < (wipe σ vs).length
        · rw [List.getElem?_set_self hl]
          rw [wipe_length] at hl
          rw [List.getElem?_eq_getElem hl]
          rfl
        · rw [List.getElem?_eq_none (by simpa using hl)]
          rw [wipe_length] at hl
          rw [List.getElem?_eq_none (by omega)]
          rfl
      · rw [List.getElem?_set_ne (Ne.symm e), ih]
        by_cases m : i ∈ vs
        · rw [if_pos m, if_pos (by simp [m])]
        · rw [if_neg m, if_neg (by simp [m, e])]
  apply List.ext_getElem?
  intro i
  rw [get, get]
  have hl : σ'.length = σ.length := by
    have := h.1
    rw [wipe_length] at this
    exact this
  by_cases m : i ∈ vs
  · rw [if_pos m, if_pos m]
    by_cases q : i < σ.length
    · rw [List.getElem?_eq_getElem q, List.getElem?_eq_getElem (by omega)]
      rfl
    · rw [List.getElem?_eq_none (by omega), List.getElem?_eq_none (by omega)]
  · rw [if_neg m, if_neg m, h.2 i (fun z => m (k i z)), get, if_neg m]
/-- the frame of a block: all that is hidden or own is the callers' -/
def blkFx {Z : Wd} (O : Addr → Prop) (H : Hp) : Fx Z := ⟨O, H, dead, noEv⟩
theorem Rel.block {vs : List Nat} (R : C.Rel ow τ t σ H) : (blkFx (Z := Z) (C.Hid ow) H).Rel (fun _ => none) (hideFrom vs 0 τ) t (wipe σ vs) H where
  on := Z.loc t _ _ H H R.on (fun a o e n => ⟨e, fun q => n (q.elim id fun ⟨_, h⟩ => nomatch h)⟩) fun _ _ _ e => e
  hid := fun a h => .inl (R.hid a h)
  hidT := fun a h => R.track h
  grow := fun a o e _ => e
  len := by rw [hideFrom_len, wipe_length]; exact R.len
  slot := fun i s e => by
    rw [hideFrom_get, Option.map_eq_some_iff] at e
    obtain ⟨s0, e0, e⟩ := e
    rw [Nat.zero_add] at e
    split at e
    · subst e
      trivial
    · rename_i m
      have q := R.slot i s0 e0
      cases s0 with
      | no => subst e; trivial
      | x => subst e; trivial
      | o d => subst e; trivial
      | v d =>
        subst e
        obtain ⟨v, e1, q⟩ := q
        refine ⟨v, ?_, q.mono fun a o h n => ⟨h, fun z => n (z.elim id fun ⟨_, z⟩ => by cases z)⟩⟩
        have get : ∀ (vs : List Nat), i ∉ vs → (wipe σ vs)[i]? = σ[i]? := by
          intro vs
          induction vs with
          | nil => intro _; rfl
          | cons v vs ih =>
            intro h
            simp only [List.mem_cons, not_or] at h
            unfold wipe
            rw [List.getElem?_set_ne (Ne.symm h.1)]
            exact ih h.2
        rw [get vs m]
        exact e1
  inj := fun _ _ _ e => by cases e
  new := fun _ _ e => by cases e
theorem hid_blk {O : Addr → Prop} {H : Hp} {a : Addr} : (blkFx (Z := Z) O H).Hid (fun _ => none) a ↔ O a := Iff.intro (fun h => h.elim id (fun ⟨_, z⟩ => nomatch z)) (fun h => .inl h)
/-- behind a block's turn: the outer frame -/
theorem Rel.behind {ow2 : Nat → Option Addr} {τ2 : List Sl} {t2 : Z.T} {σ2 : L2.St} {H2 : Hp} (R : C.Rel ow τ t σ H) (R2 : (blkFx (Z := Z) (C.Hid ow) H).Rel ow2 τ2 t2 σ2 H2) : C.Rel ow τ t2 σ H2 where
  on := Z.loc t2 _ _ H2 H2 R2.on (fun a o e n => ⟨e, fun q => n (.inl q)⟩) fun _ _ _ e => e
  hid := R.hid
  hidT := R.hidT
  grow := fun a o e n => R2.grow a o (R.grow a o e n) n
  len := R.len
  slot := fun i s e => (R.slot i s e).ext ⟨fun a o e n => R2.grow a o e fun z => n (.inl (R.hid a z)), fun _ h => .inl h⟩ fun a h => ⟨h, by
    obtain ⟨_, o, e1, _⟩ := R.new _ a h
    exact (R2.grow a o e1 fun z => R.own_ne h (R.hid a z)).trans e1.symm⟩
  inj := R.inj
  new := fun i a h => by
    obtain ⟨h1, o, e1, n⟩ := R.new i a h
    exact ⟨h1, o, R2.grow a o e1 fun z => R.own_ne h (R.hid a z), n⟩
theorem ext_behind {ow2 : Nat → Option Addr} {τ2 : List Sl} {t2 : Z.T} {σ2 : L2.St} {H2 : Hp} (R : C.Rel ow τ t σ H) (R2 : (blkFx (Z := Z) (C.Hid ow) H).Rel ow2 τ2 t2 σ2 H2) : Ext (C.Hid ow) H (C.Hid ow) H2 :=
  ⟨fun a o e n => R2.grow a o e fun z => n (.inl (R.hid a z)), fun _ h => .inl h⟩
theorem line_len {n : Nat} (h : n < LEN) : n < sizeLine := Nat.lt_of_lt_of_le h (by decide)
theorem tF_lc {S sh vs : List Nat} {it : IF Z.T} {g : GF} {c e : EF Z.T} {Q : VK} (hS : ∀ i ∈ S, i ∈ vs) (h : tF C (lcF sh vs it g c e) σ H Q) : tLc (tI C it) (tGx Z S g) (tTx Z c) (tFx Z e) vs σ H Q := by
  obtain ⟨ow, τ, t, o, s', R, z, e, k⟩ := h
  unfold lcF at e
  cases q : it (τ, t) with
  | none => rw [q] at e; cases e
  | some w =>
    obtain ⟨o1, s1⟩ := w
    rw [q] at e
    refine ⟨ow, τ, t, o1, s1, R, z, q, ?_⟩
    cases o1 with
    | ex c fs =>
      cases e
      exact k
    | ok ds =>
      intro ow0 J H0 R0 z0 x0 w0
      simp only at e
      split at e
      · rename_i hlen
        split at e
        · cases e
        · rename_i out tout p
          cases e
          obtain ⟨ow1, R1, z1, x1⟩ := R0.shareAll (sh := sh) z0
          have w1 := w0.ext x1
          have x01 := x0.trans x1
          intro Dl hD
          have hK : (FD.shareAll sh s1.1).length < s1.1.length + 1 := by rw [shareAll_len]; omega
          obtain ⟨G, Y, wk, hG, hY⟩ := w1
          refine lc_it wk (fun i H2 => ∃ t2 ds2 acc dacc, C.Rel (put ow1 (s1.1.length + 1) Dl) (FD.shareAll sh s1.1) t2 σ H2 ∧ Ext (C.Hid ow1) H0 (C.Hid (put ow1 (s1.1.length + 1) Dl)) H2 ∧ H2 Dl = some (.lst acc) ∧
            DenA Z (C.Hid (put ow1 (s1.1.length + 1) Dl)) H2 acc dacc ∧ dacc.length ≤ i ∧ lcL g c e (hideFrom vs 0 (FD.shareAll sh s1.1)) (ds.drop i) t2 = some (ds2, tout) ∧ dacc ++ ds2 = out) ?_ ?_ ?_ ?_
          · exact ⟨s1.2, out, [], [], R1.park hK hD (fun _ q => nomatch q), ext_put hD, upd_same, .nil, Nat.le_refl _, p, rfl⟩
          · rintro i H2 hi ⟨t2, ds2, acc, dacc, R2, x2, _⟩
            exact hG _ _ x2
          · rintro i x H2 H3 hi ⟨t2, ds2, acc, dacc, R2, x2, hacc, dn, hl, e2, eo⟩ y
            obtain ⟨d, hd, gr, dnx⟩ := hY i H2 x H3 _ hi x2 (fun p hp => R2.nohid hp) y
            have hdr : ds.drop i = d :: ds.drop (i + 1) := by
              rw [List.drop_eq_getElem_cons hi]
              have : ds[i] = d := by
                have := List.getElem?_eq_getElem hi
                rw [hd] at this
                exact (Option.some.inj this).symm
              rw [this]
            rw [hdr] at e2
            unfold lcL at e2
            split at e2
            · cases e2
            · rename_i τ1 p1
              have R3 := R2.grown gr
              have x23 : Ext (C.Hid (put ow1 (s1.1.length + 1) Dl)) H2 (C.Hid (put ow1 (s1.1.length + 1) Dl)) H3 := gr.ext
              have B := R3.block (vs := vs)
              refine ⟨blkFx (C.Hid (put ow1 (s1.1.length + 1) Dl)) H3, rfl, fun _ => none, _, t2, d, τ1, B, rfl, dnx.mono fun a o h n => ⟨h, fun z => n (hid_blk.mp z)⟩, p1, fun ow4 σ4 R4 z4 x4 f4 => ⟨wipe_off f4 hS, ?_⟩⟩
              split at e2
              · rename_i r s2 p2
                -- the heap behind the test or the element: the outer frame
                have own : put ow1 (s1.1.length + 1) Dl (s1.1.length + 1) = some Dl := put_same
                have keepD : ∀ {ow5 : Nat → Option Addr} {τ5 : List Sl} {t5 : Z.T} {σ5 : L2.St} {H5 : Hp}, (blkFx (Z := Z) (C.Hid (put ow1 (s1.1.length + 1) Dl)) H3).Rel ow5 τ5 t5 σ5 H5 → H5 Dl = some (.lst acc) := fun R5 => R5.grow Dl _ (gr _ _ hacc) fun z => R3.own_ne own (R3.hid _ z)
                split at e2
                · rename_i p3
                  refine ⟨blkFx (C.Hid (put ow1 (s1.1.length + 1) Dl)) H3, rfl, ow4, τ1, t2, R4, z4, _, _, p2, true, p3, fun ow5 H5 R5 z5 x5 => ?_⟩
                  dsimp only
                  rw [if_pos rfl]
                  split at e2
                  · rename_i r3 s3 p4
                    split at e2
                    · rename_i dv τv p5
                      split at e2
                      · rename_i rest tr p6
                        cases e2
                        refine ⟨blkFx (C.Hid (put ow1 (s1.1.length + 1) Dl)) H3, rfl, ow5, s2.1, s2.2, _, s3, R5, z5, p4, fun ow6 v H6 R6 r6 x6 => ?_⟩
                        obtain ⟨ow7, R7, z7, d7, x7⟩ := r6.give R6 p5
                        refine ⟨acc, keepD R7, ?_, ?_⟩
                        · have h1 := dn.len
                          refine line_len ?_
                          omega
                        · have RB := R3.behind R7
                          have xB := ext_behind R3 R7
                          have dv' : Den Z (C.Hid (put ow1 (s1.1.length + 1) Dl)) H6 v dv := d7.mono fun a o h n => ⟨h, fun z => n (.inl z)⟩
                          have u : Ext (C.Hid (put ow1 (s1.1.length + 1) Dl)) H6 (C.Hid (put ow1 (s1.1.length + 1) Dl)) (upd H6 Dl (.lst (acc ++ [v]))) := ext_upd (.inr ⟨_, own⟩)
                          refine ⟨s3.2, rest, acc ++ [v], dacc ++ [dv], RB.mutK own hK (fun _ q => nomatch q) (keepD R7) (fun _ q => nomatch q), ((x2.trans x23).trans xB).trans u, upd_same, (((dn.ext x23).ext xB).app (.one dv')).ext u, ?_, p6, ?_⟩
                          · rw [List.length_append]
                            simp only [List.length_cons, List.length_nil]
                            omega
                          · rw [← eo, List.append_assoc]
                            rfl
                      · cases e2
                    · cases e2
                  · cases e2
                · rename_i p3
                  refine ⟨blkFx (C.Hid (put ow1 (s1.1.length + 1) Dl)) H3, rfl, ow4, τ1, t2, R4, z4, _, _, p2, false, p3, fun ow5 H5 R5 z5 x5 => ?_⟩
                  dsimp only
                  rw [if_neg (by decide)]
                  have RB := R3.behind R5
                  have xB := ext_behind R3 R5
                  exact ⟨s2.2, ds2, acc, dacc, RB, (x2.trans x23).trans xB, keepD R5, (dn.ext x23).ext xB, by omega, e2, eo⟩
                · cases e2
              · cases e2
          · rintro H2 ⟨t2, ds2, acc, dacc, R2, x2, hacc, dn, hl, e2, eo⟩
            rw [List.drop_length] at e2
            cases e2
            rw [List.append_nil] at eo
            subst eo
            have own : put ow1 (s1.1.length + 1) Dl (s1.1.length + 1) = some Dl := put_same
            refine k (move (put ow1 (s1.1.length + 1) Dl) (s1.1.length + 1) 0) (.ref Dl) H2 (R2.unpark hK) ⟨Dl, .lst acc, ?_, rfl, hacc, (Cont.lst dn).ext ext_move⟩ ((x01.trans x2).trans ext_move)
            unfold move
            rw [if_pos rfl]
            exact own
      · cases e
theorem ev_lc {elt tg iter : Expr} {ifs : List Expr} {scope : Scope} {own : List (Str × Nat)} {pos : Pos} {S sh : List Nat} {it : IF Z.T} {g : GF} {c e : EF Z.T} (hc : X.calm = true) (hN : X.N.Nodup) (hi : PI X tg iter (tI C it)) (ok : BlkOk X.N X.env.scope scope own)
    (hg : ∀ (C : Fx Z), C.W = dead → ∀ (s : Shared) (H : Hp) (A : Addr) (cl : List (Str × Addr)) (fp : List Addr), PG (X.blk s H scope (compEnvC scope cl A X.env) fp) tg (tG C S g))
    (ht : ∀ (s : Shared) (H : Hp) (A : Addr) (cl : List (Str × Addr)) (fp : List Addr), PTs (X.blk s H scope (compEnvC scope cl A X.env) fp) ifs (tTx Z c))
    (he : ∀ (C : Fx Z), C.W = dead → ∀ (s : Shared) (H : Hp) (A : Addr) (cl : List (Str × Addr)) (fp : List Addr), PE (X.blk s H scope (compEnvC scope cl A X.env) fp) elt (tF C e))
    (hS : ∀ i ∈ S, i ∈ own.map (·.2) := by decide) (hs : ∀ x, foldedSetIterable iter X.env x = pure x := by intro _; rfl) : PE X (.ListComp elt [⟨tg, iter, ifs, 0⟩] scope pos) (tF C (lcF sh (own.map (·.2)) it g c e)) :=
  ⟨fun pins s σ H Q I h => (pe_lc hc hN hi ok (fun s H A cl fp => ex_G fun C w => hg C w s H A cl fp) ht (fun s H A cl fp => ex_F fun C w => he C w s H A cl fp) hs).run pins s σ H Q I (tF_lc hS h)⟩
end
end FD

/-! F9: what a for and a comprehension walk: lists, tuples, ranges, zip. -/
namespace FD
open PySem PySem.Spec PyProof.Rows L2

def itemsD : D → Option (List D)
  | .lst ds => some ds
  | .tup ds => some ds
  | _ => none
/-- the items of what f gives -/
def seqI {T : Type} (f : EF T) : IF T := fun s => match f s with
  | none => none
  | some (.ex c fs, s1) => some (.ex c fs, s1)
  | some (.ok r, s1) => match give s1.1 r with
    | none => none
    | some (d, τ) => match itemsD d with
      | none => none
      | some ds => some (.ok ds, (τ, s1.2))
/-- what is walked, by the arguments -/
def callI {T : Type} (op : List D → Option (List D)) (g : AF T) : IF T := fun s => match g s with
  | none => none
  | some (.ex c fs, s1) => some (.ex c fs, s1)
  | some (.ok rs, s1) => match giveAll s1.1 rs with
    | none => none
    | some (ds, τ) => match op ds with
      | none => none
      | some out => some (.ok out, (τ, s1.2))
section
variable {Z : Wd} {C : Fx Z} {X : Cx} {tg e e2 : Expr} {σ : L2.St} {H : Hp} {R : It → Hp → Prop} {pos p : Pos}
/-- where one comes to with the items -/
theorem seqI_of {f : EF Z.T} (h : tI C (seqI f) σ H R) : tF C f σ H fun v H1 => ∃ O ds d, itemsD d = some ds ∧ Den Z O H1 v d ∧ ∀ J, Walks Z O H1 J ds → R J H1 := by
  obtain ⟨ow, τ, t, o, s', R0, z, e, k⟩ := h
  unfold seqI at e
  cases q : f (τ, t) with
  | none => rw [q] at e; cases e
  | some w =>
    obtain ⟨o1, s1⟩ := w
    rw [q] at e
    refine ⟨ow, τ, t, o1, s1, R0, z, q, ?_⟩
    cases o1 with
    | ex c fs => cases e; exact k
    | ok r =>
      intro ow1 v H1 R1 r1 x1
      simp only at e
      split at e
      · cases e
      · rename_i d τ2 p1
        split at e
        · cases e
        · rename_i ds p2
          cases e
          obtain ⟨ow2, R2, z2, d2, x2⟩ := r1.give R1 p1
          exact ⟨_, ds, d, p2, d2, fun J w => k ow2 J H1 R2 z2 (x1.trans x2) w⟩
theorem callI_of {op : List D → Option (List D)} {g : AF Z.T} (h : tI C (callI op g) σ H R) : tA C g σ H fun vs H1 => ∃ O ds out, op ds = some out ∧ DenA Z O H1 vs ds ∧ ∀ J, Walks Z O H1 J out → R J H1 := by
  obtain ⟨ow, τ, t, o, s', R0, z, e, k⟩ := h
  unfold callI at e
  cases q : g (τ, t) with
  | none => rw [q] at e; cases e
  | some w =>
    obtain ⟨o1, s1⟩ := w
    rw [q] at e
    refine ⟨ow, τ, t, R0, z, o1, s1, q, ?_⟩
    cases o1 with
    | ex c fs => cases e; exact k
    | ok r =>
      intro ow1 v H1 R1 z1 r1 x1
      simp only at e
      split at e
      · cases e
      · rename_i ds τ2 p1
        split at e
        · cases e
        · rename_i out p2
          cases e
          obtain ⟨ow2, R2, z2, d2, x2⟩ := r1.give R1 z1 p1
          exact ⟨_, ds, out, p2, d2, fun J w => k ow2 J H1 R2 z2 (x1.trans x2) w⟩
theorem walks_list {K : PySem.W.Frag} {O : Addr → Prop} {a : Addr} {xs : List V} {ds : List D} (h : H a = some (.lst xs)) (n : ¬ O a) (c : DenA Z O H xs ds) : Walks Z O H (Itl K a) ds := by
  refine ⟨_, _, by rw [← c.len]; exact walk_list (xs := xs), fun O' H' x => SqL.of (x.kept a _ h n), fun i H1 v H2 O1 hi x _ y => ?_⟩
  obtain ⟨rfl, y⟩ := y
  obtain ⟨d, e, dn⟩ := c.get y
  exact ⟨d, e, Grow.refl, dn.ext x⟩
theorem walks_tup {K : PySem.W.Frag} {O : Addr → Prop} {a : Addr} {xs : List V} {ds : List D} (h : H a = some (.tup xs)) (n : ¬ O a) (c : DenA Z O H xs ds) : Walks Z O H (Itt K a) ds := by
  refine ⟨_, _, by rw [← c.len]; exact walk_tup (xs := xs), fun O' H' x => SqT.of (x.kept a _ h n), fun i H1 v H2 O1 hi x _ y => ?_⟩
  obtain ⟨rfl, y⟩ := y
  obtain ⟨d, e, dn⟩ := c.get y
  exact ⟨d, e, Grow.refl, dn.ext x⟩
/-- a list or a tuple walked -/
def iSeq (K : PySem.W.Frag) (tl : TE) : TI := fun σ H R => tl σ H fun x H1 => ∃ a, x = .ref a ∧ (((∃ xs, SqL K H1 a xs) ∧ R (Itl K a) H1) ∨ ((∃ xs, SqT K H1 a xs) ∧ R (Itt K a) H1))
theorem pi_seq {l : Expr} {tl : TE} (hl : PE X l tl) : PI X tg l (iSeq X.K tl) := by
  refine ⟨fun pins s σ H R I h => ?_⟩
  refine thn (hl.run pins s σ H _ I h) fun v s1 ⟨x, H1, I1, r1, q1⟩ => ?_
  obtain ⟨a, e, q⟩ := q1
  subst e
  cases r1
  have fresh : ∀ b ∈ [s1.heap.objs.size], FpOk X pins H1 b := fun b hb => by
    have e : b = s1.heap.objs.size := by simpa using hb
    subst e
    exact I1.fpOk (Nat.le_refl _) (I1.hok.fresh (Nat.le_refl _))
  rcases q with ⟨⟨xs, hq⟩, q⟩ | ⟨⟨xs, hq⟩, q⟩
  · obtain ⟨its, rv, p, hz⟩ := I1.list hq
    refine wpAny_pyIter_list p.isList ?_
    exact ⟨s1.heap.objs.size, [s1.heap.objs.size], _, _, H1, rfl, I1.kept (t' := s1.toks) fun b o e => Heap.get?_push_of_some _ e, turn_list a _, ⟨_, Heap.get?_push_size _ rfl, rfl, rfl⟩, fresh, q⟩
  · obtain ⟨its, rv, p, hz⟩ := I1.tuple hq
    refine wpAny_pyIter_tuple (show s1.heap.IsTuple a its.toArray from p) ?_
    exact ⟨s1.heap.objs.size, [s1.heap.objs.size], _, _, H1, rfl, I1.kept (t' := s1.toks) fun b o e => Heap.get?_push_of_some _ e, turn_tuple a _, ⟨_, Heap.get?_push_size _ rfl, rfl, rfl⟩, fresh, q⟩
theorem den_items {O : Addr → Prop} {v : V} {d : D} {ds : List D} (h : Den Z O H v d) (e : itemsD d = some ds) : ∃ a xs, v = .ref a ∧ ¬ O a ∧ DenA Z O H xs ds ∧ (H a = some (.lst xs) ∨ H a = some (.tup xs)) := by
  unfold itemsD at e
  split at e
  · cases e
    cases h with
    | ref e n c => cases c with
      | lst c => exact ⟨_, _, rfl, n, c, .inl e⟩
  · cases e
    cases h with
    | ref e n c => cases c with
      | tup c => exact ⟨_, _, rfl, n, c, .inr e⟩
  · cases e
theorem iv_seq {f : EF Z.T} (he : PE X e (tF C f)) : PI X tg e (tI C (seqI f)) := ⟨fun pins s σ H R I h => (pi_seq he).run pins s σ H R I (tF_mono (seqI_of h) fun v H1 ⟨O, ds, d, e, dn, k⟩ => by
  obtain ⟨a, xs, rfl, n, c, q⟩ := den_items dn e
  rcases q with q | q
  · exact ⟨a, rfl, .inl ⟨⟨xs, SqL.of q⟩, k _ (walks_list q n c)⟩⟩
  · exact ⟨a, rfl, .inr ⟨⟨xs, SqT.of q⟩, k _ (walks_tup q n c)⟩⟩)⟩

/-! ### ranges -/
def small (i : Int) : Bool := decide (-(2 ^ 60) ≤ i ∧ i ≤ 2 ^ 60)
def rngL (lo hi : Int) : List D := (List.range (hi - lo).toNat).map fun (k : Nat) => D.int (lo + (k : Int))
def rng1D : List D → Option (List D)
  | [.int j] => if small j = true then some (rngL 0 j) else none
  | _ => none
theorem walks_range {O : Addr → Prop} {lo hi : Int} : Walks Z O H (Itr lo (hi - lo).toNat) (rngL lo hi) := by
  refine ⟨_, _, by rw [show (rngL lo hi).length = (hi - lo).toNat by simp [rngL]]; exact walk_range, fun _ _ _ => trivial, fun i H1 v H2 O1 hi x _ y => ?_⟩
  obtain ⟨rfl, rfl⟩ := y
  refine ⟨.int (lo + (i : Int)), ?_, Grow.refl, .int _⟩
  have : i < (rngL lo _).length := hi
  simp only [rngL, List.length_map, List.length_range] at this
  simp only [rngL, List.getElem?_map, List.getElem?_range this, Option.map_some]
theorem den_int {O : Addr → Prop} {v : V} {i : Int} (h : Den Z O H v (.int i)) : v = .int i := (Shows.den h).int
theorem iv_range1 {g : AF Z.T} (hg : Gl X "range") (hm : X.mg "range" = none) (ha : PA X [e] (tA C g)) (hs : starEach [e] X.env = [(false, eval e X.env)] := by rfl) : PI X tg (.Call (.Name "range" p) [e] [] pos) (tI C (callI rng1D g)) :=
  ⟨fun pins s σ H R I h => (pi_range1 hg hm ha hs).run pins s σ H R I (tA_mono (callI_of h) fun vs H1 ⟨O, ds, out, e, dn, k⟩ => by
    unfold rng1D at e
    split at e
    · split at e
      · rename_i j hj
        cases e
        cases dn with
        | cons d r =>
          cases r
          cases den_int d
          unfold small at hj
          have hj := of_decide_eq_true hj
          refine ⟨j, rfl, by omega, by omega, ?_⟩
          have w := k (Itr 0 (j - 0).toNat) walks_range
          rw [Int.sub_zero] at w
          exact w
      · cases e
    · cases e)⟩
/-! ### zip -/
def pairD : List D → List D → List D
  | x :: xs, y :: ys => .tup [x, y] :: pairD xs ys
  | _, _ => []
theorem pairD_len : ∀ {xs ys : List D}, (pairD xs ys).length = min xs.length ys.length
  | [], ys => by simp [pairD]
  | _ :: _, [] => by simp [pairD]
  | _ :: xs, _ :: ys => by
    simp only [pairD, List.length_cons, pairD_len (xs := xs) (ys := ys)]
    omega
theorem pairD_get : ∀ {xs ys : List D} {i : Nat} {x y : D}, xs[i]? = some x → ys[i]? = some y → (pairD xs ys)[i]? = some (.tup [x, y])
  | [], _, _, _, _, h, _ => by cases h
  | _ :: _, [], _, _, _, _, h => by cases h
  | _ :: xs, _ :: ys, 0, _, _, h, k => by
    cases h
    cases k
    rfl
  | _ :: xs, _ :: ys, i + 1, x, y, h, k => pairD_get (xs := xs) (ys := ys) (i := i) h k
/-- zip of two lists, or of two tuples -/
def zipD : List D → Option (List D)
  | [.lst xs, .lst ys] => some (pairD xs ys)
  | [.tup xs, .tup ys] => some (pairD xs ys)
  | _ => none
theorem pair_new {O : Addr → Prop} {T : Addr} {x y : V} {dx dy : D} (hO : ∀ p, H p = none → ¬ O p) (hT : H T = none) (h1 : Den Z O H x dx) (h2 : Den Z O H y dy) : Grow H (upd H T (.tup [x, y])) ∧ Den Z O (upd H T (.tup [x, y])) (.ref T) (.tup [dx, dy]) :=
  Gets.tup (Z := Z) hO hT (.cons h1 (.cons h2 .nil))
theorem walk_zipT {K : PySem.W.Frag} {a b : Addr} {xs ys : List V} {n : Nat} (hn : n = min xs.length ys.length) : Walk (RZ.ItzT K a b) n (fun H => SqT K H a xs ∧ SqT K H b ys) (YPair (fun i => xs[i]?) (fun i => ys[i]?)) := by
  subst hn
  refine ⟨fun i _ hi q => ?_, fun _ q => ⟨xs, ys, q.1, q.2, by omega⟩, fun i H v H' _ q y => ?_⟩
  · have h1 : i < xs.length := by omega
    have h2 : i < ys.length := by omega
    exact ⟨xs, ys, xs[i], ys[i], q.1, q.2, by simp [h1], by simp [h2]⟩
  · obtain ⟨T, x, z, h1, h2, h3, h4, h5⟩ := y
    exact ⟨T, x, z, h1, h2, h3, h4 xs q.1, h5 ys q.2⟩
theorem walks_pair {O : Addr → Prop} {J : It} {xs ys : List V} {ds es : List D} {G : Hp → Prop} (w : Walk J (pairD ds es).length G (YPair (fun i => xs[i]?) (fun i => ys[i]?))) (hG : ∀ O' H', Ext O H O' H' → G H') (c1 : DenA Z O H xs ds) (c2 : DenA Z O H ys es) :
    Walks Z O H J (pairD ds es) := by
  refine ⟨G, _, w, hG, fun i H1 v H2 O1 hi x hO y => ?_⟩
  obtain ⟨T, x1, y1, rfl, hT, rfl, e1, e2⟩ := y
  obtain ⟨d1, f1, n1⟩ := c1.get e1
  obtain ⟨d2, f2, n2⟩ := c2.get e2
  obtain ⟨g, dn⟩ := pair_new hO hT (n1.ext x) (n2.ext x)
  exact ⟨_, pairD_get f1 f2, g, dn⟩
theorem iv_zip {tpos : Pos} {elts : List Expr} {kk : Nat} {g : AF Z.T} (hg : Gl X "zip") (hm : X.mg "zip" = none) (ha : PA X [e, e2] (tA C g))
    (hs : starEach [e, e2] X.env = (false, eval e X.env) :: starEach [e2] X.env := by rfl) (hpl : (backTo pos (starEach [e2] X.env)).any (·.1) = false := by rfl) :
    PI X (.Tuple elts kk tpos) (.Call (.Name "zip" p) [e, e2] [] pos) (tI C (callI zipD g)) :=
  ⟨fun pins s σ H R I h => (RZ.pi_zipA hg hm ha hs hpl).run pins s σ H R I (tA_mono (callI_of h) fun vs H1 ⟨O, ds, out, e, dn, k⟩ => by
    unfold zipD at e
    split at e
    · cases e
      cases dn with
      | cons d r =>
        cases r with
        | cons d' r =>
          cases r
          cases d with
          | ref e1 n1 c1 => cases c1 with
            | lst c1 => cases d' with
              | ref e2 n2 c2 => cases c2 with
                | lst c2 => exact ⟨_, _, _, _, rfl, .inl ⟨SqL.of e1, SqL.of e2, k _ (walks_pair (walk_zip (by rw [pairD_len, c1.len, c2.len])) (fun O' H' x => ⟨SqL.of (x.kept _ _ e1 n1), SqL.of (x.kept _ _ e2 n2)⟩) c1 c2)⟩⟩
    · cases e
      cases dn with
      | cons d r =>
        cases r with
        | cons d' r =>
          cases r
          cases d with
          | ref e1 n1 c1 => cases c1 with
            | tup c1 => cases d' with
              | ref e2 n2 c2 => cases c2 with
                | tup c2 => exact ⟨_, _, _, _, rfl, .inr ⟨SqT.of e1, SqT.of e2, k _ (walks_pair (walk_zipT (by rw [pairD_len, c1.len, c2.len])) (fun O' H' x => ⟨SqT.of (x.kept _ _ e1 n1), SqT.of (x.kept _ _ e2 n2)⟩) c1 c2)⟩⟩
    · cases e)⟩
end
end FD

/-! F10: defs by functions of data: what they promise, their calls, their bodies. -/
namespace FD
open PySem PySem.Spec PyProof.Rows L2

inductive FOut where
  | ok (d : D) (fr : Bool) | ex (c : Str) (fs : List (Str × D))
abbrev FF (T : Type) := List D → T → Option (FOut × T)
def GrowZ (Z : Wd) (H H' : Hp) : Prop := ∀ a o, H a = some o → ¬ Z.hid a → H' a = some o
def FinF (Z : Wd) (O : Addr → Prop) (H : Hp) (Q : VK) (E : XK) (t' : Z.T) : FOut → Prop
  | .ok d false => ∀ v H', Z.On t' O H' → GrowZ Z H H' → Den Z O H' v d → Q v H'
  | .ok d true => ∀ a o H', Z.On t' (fun b => O b ∨ b = a) H' → GrowZ Z H H' → H a = none → H' a = some o → (∀ xs, o ≠ .tup xs) → Cont Z (fun b => O b ∨ b = a) H' o d → Q (.ref a) H'
  | .ex c fs => ∀ d H', Z.On t' O H' → GrowZ Z H H' → ExOk Z O H' d fs → E (.ref (Z.ca c)) d H'
/-- what a def promises that does on data what F does -/
def spF (Z : Wd) (n : Nat) (F : FF Z.T) : Sp := fun vs H Q E => vs.length = n ∧ ∃ O t ds o t', (∀ a, Z.hid a → O a) ∧ (∀ a, O a → ∃ o, H a = some o ∧ ∀ xs, o ≠ .tup xs) ∧ Z.On t O H ∧ DenA Z O H vs ds ∧ F ds t = some (o, t') ∧ FinF Z O H Q E t' o

section
variable {Z : Wd} {C : Fx Z} {X : Cx} {ow : Nat → Option Addr} {τ : List Sl} {t t' : Z.T} {σ : L2.St} {H H' : Hp}
theorem ext_grow (R : C.Rel ow τ t σ H) (g : GrowZ Z H H') : Ext (C.Hid ow) H (C.Hid ow) H' := ⟨fun a o e n => g a o e fun z => n (.inl (R.hid a z)), fun _ h => .inl h⟩
theorem Rel.called (R : C.Rel ow τ t σ H) (on : Z.On t' (C.Hid ow) H') (g : GrowZ Z H H') : C.Rel ow τ t' σ H' where
  on := on
  hid := R.hid
  hidT := R.hidT
  grow := fun a o e n => g a o (R.grow a o e n) n
  len := R.len
  slot := fun i s e => (R.slot i s e).ext (ext_grow R g) fun a h => ⟨h, by
    obtain ⟨_, o, e1, _⟩ := R.new _ a h
    exact (g a o e1 fun z => R.own_ne h (R.hid a z)).trans e1.symm⟩
  inj := R.inj
  new := fun i a h => by
    obtain ⟨h1, o, e1, n⟩ := R.new i a h
    exact ⟨h1, o, g a o e1 fun z => R.own_ne h (R.hid a z), n⟩
theorem Rel.fresh0 (R : C.Rel ow τ t σ H) {p : Addr} (h : H p = none) : C.H p = none := by
  cases z : C.H p with
  | none => rfl
  | some u =>
    by_cases g : Z.hid p
    · obtain ⟨u', e', _⟩ := Z.trk t _ H p R.on g
      rw [h] at e'
      cases e'
    · have := R.grow p u z g
      rw [h] at this
      cases this
theorem ext_adopt (R : C.Rel ow τ t σ H) (g : GrowZ Z H H') {a : Addr} (h : H a = none) {K : Nat} : Ext (C.Hid ow) H (C.Hid (put ow K a)) H' :=
  ⟨fun b o e n => g b o e fun z => n (.inl (R.hid b z)), fun b q => (hid_put q).imp id fun z => by rw [z]; exact h⟩
/-- a call hands back an object of its own -/
theorem Rel.adopt {a : Addr} {o : HO} (R : C.Rel ow τ t σ H) (on : Z.On t' (fun b => C.Hid ow b ∨ b = a) H') (g : GrowZ Z H H') (h : H a = none) (e : H' a = some o) (n : ∀ xs, o ≠ .tup xs) : C.Rel (put ow 0 a) τ t' σ H' where
  on := Z.loc t' _ _ H' H' on (fun b u q nb => ⟨q, fun z => nb (hid_put z)⟩) fun _ _ _ e => e
  hid := R.hid
  hidT := R.hidT
  grow := fun b u q nb => g b u (R.grow b u q nb) nb
  len := R.len
  slot := fun i s q => (R.slot i s q).ext (ext_adopt R g h) fun b y => ⟨by rw [put_ne (by omega)]; exact y, by
    obtain ⟨_, u, e1, _⟩ := R.new _ b y
    exact (g b u e1 fun z => R.own_ne y (R.hid b z)).trans e1.symm⟩
  inj := fun i j b h1 h2 => by
    have old : ∀ i b, ow i = some b → b ≠ a := fun i b q z => by
      obtain ⟨_, u, e, _⟩ := R.new i b q
      rw [z, h] at e
      cases e
    rcases put_some h1 with ⟨e1, e2⟩ | ⟨_, e2⟩
    · rcases put_some h2 with ⟨e3, _⟩ | ⟨_, e4⟩
      · rw [e1, e3]
      · exact absurd e2 (old j b e4)
    · rcases put_some h2 with ⟨_, e3⟩ | ⟨_, e4⟩
      · exact absurd e3 (old i b e2)
      · exact R.inj i j b e2 e4
  new := fun i b q => by
    rcases put_some q with ⟨_, e1⟩ | ⟨_, e1⟩
    · subst e1
      exact ⟨R.fresh0 h, o, e, n⟩
    · obtain ⟨h1, u, e2, m⟩ := R.new i b e1
      exact ⟨h1, u, g b u e2 fun z => R.own_ne e1 (R.hid b z), m⟩

/-! ### calls -/
def ucallF {T : Type} (F : FF T) (g : AF T) : EF T := fun s => match g s with
  | none => none
  | some (.ex c fs, s1) => some (.ex c fs, s1)
  | some (.ok rs, s1) => match giveAll s1.1 rs with
    | none => none
    | some (ds, τ) => match F ds s1.2 with
      | none => none
      | some (.ok d fr, t) => some (.ok (resOf (d, fr)), (τ, t))
      | some (.ex c fs, t) => some (.ex c fs, (τ, t))
theorem ResOks.len : ∀ {vs : List V} {rs : List Res}, ResOks C σ ow τ H vs rs → vs.length = rs.length
  | _, _, .nil => rfl
  | _, _, .cons _ r => by rw [List.length_cons, List.length_cons, ResOks.len r]
/-- behind the arguments of a call -/
theorem ucall_of {F : FF Z.T} {g : AF Z.T} {Q : VK} {n : Nat} (hn : ∀ ds t o, F ds t = some o → ds.length = n) (h : tF C (ucallF F g) σ H Q) : tA C g σ H fun vs H1 => spF Z n F vs H1 Q fun c d H2 => C.W c d σ H2 := by
  obtain ⟨ow, τ, t, o, s', R, z, e, k⟩ := h
  unfold ucallF at e
  cases q : g (τ, t) with
  | none => rw [q] at e; cases e
  | some w =>
    obtain ⟨o1, s1⟩ := w
    rw [q] at e
    refine ⟨ow, τ, t, R, z, o1, s1, q, ?_⟩
    cases o1 with
    | ex c fs => cases e; exact k
    | ok rs =>
      intro ow1 vs H1 R1 z1 r1 x1
      simp only at e
      split at e
      · cases e
      · rename_i ds τ2 p1
        obtain ⟨ow2, R2, z2, d2, x2⟩ := r1.give R1 z1 p1
        have x12 := x1.trans x2
        split at e
        · cases e
        · rename_i d fr t2 p2
          cases e
          refine ⟨d2.len.trans (hn _ _ _ p2), _, s1.2, ds, _, t2, fun a h => .inl (R2.hid a h), fun a h => R2.track h, R2.on, d2, p2, ?_⟩
          cases fr with
          | false => exact fun v H2 on gr dn => k ow2 v H2 (R2.called on gr) ⟨z2, dn⟩ (x12.trans (ext_grow R2 gr))
          | true =>
            intro a o H2 on gr hn e2 nt c
            refine k (put ow2 0 a) (.ref a) H2 (R2.adopt on gr hn e2 nt) ⟨a, o, put_same, rfl, e2, c.mono fun b u hb m => ⟨hb, fun y => m (hid_put y)⟩⟩ (x12.trans (ext_adopt R2 gr hn))
        · rename_i c fs t2 p2
          cases e
          exact ⟨d2.len.trans (hn _ _ _ p2), _, s1.2, ds, _, t2, fun a h => .inl (R2.hid a h), fun a h => R2.track h, R2.on, d2, p2, fun d H2 on gr eo => k ow2 d H2 (R2.called on gr) z2 (x12.trans (ext_grow R2 gr)) eo⟩
theorem ev_call {F : FF Z.T} {k n : Nat} {f : Addr} {fd : FuncData} {ps : List Str} {x : Str} {p pos : Pos} {e : Expr} {es : List Expr} {g : AF Z.T} (G : FnOk X.prog X.w X.K X.mg X.base (L2N.CX X.prog X.w) k f fd ps (spF Z n F)) (hn : ∀ ds t o, F ds t = some o → ds.length = n)
    (tk : L2N.Takes X C.W) (hr : Room k X.A) (hg : Gl X x) (hm : X.mg x = some (.ref f)) (hk : PySem.W.keepIn X.K (.ref f) = true) (hb : Binds X.K fd ps []) (ha : PA X (e :: es) (tA C g))
    (hdb : (x == ("__debug__" : Str)) = false := by decide) (he : starEach (e :: es) X.env = (false, eval e X.env) :: starEach es X.env := by rfl) (hpl : (backTo pos (starEach es X.env)).any (·.1) = false := by rfl) :
    PE X (.Call (.Name x p) (e :: es) [] pos) (tF C (ucallF F g)) :=
  ⟨fun pins s σ H Q I h => (pe_callSD G hr hg hm hk hb .nil (fun σ => L2N.passAt tk σ) ha hdb he hpl).run pins s σ H Q I (tA_mono (ucall_of hn h) fun vs H1 q => by rw [List.append_nil]; exact q)⟩
end

/-! ### bodies -/
def initS (N : Nat) (ds : List D) : List Sl := ds.map Sl.v ++ List.replicate (N - ds.length) .no
def runF {T : Type} (N n : Nat) (f : SF T) : FF T := fun ds t => if ds.length = n then match f (initS N ds, t) with
    | some (.nx, s) => some (.ok .non false, s.2)
    | some (.rt (.d d), s) => some (.ok d false, s.2)
    | some (.rt (.f d), s) => some (.ok d true, s.2)
    | some (.ex c fs, s) => some (.ex c fs, s.2)
    | _ => none
  else none
section
variable {P : Program} {w : World} {K : PySem.W.Frag} {mg : Str → Option Value} {base : Heap} {Z : Wd}
theorem DenA.slots {ev : Exv} {O : Addr → Prop} {H : Hp} {n : Nat} : ∀ {vs : List V} {ds : List D} {i : Nat} {s : Sl}, DenA Z O H vs ds → (ds.map Sl.v ++ List.replicate n .no)[i]? = some s → SlotOk Z ev O H (fun _ => none) (vs.map some ++ List.replicate n none) i s
  | _, _, i, s, .nil, e => by
    simp only [List.map_nil, List.nil_append] at e
    by_cases h : i < n
    · rw [List.getElem?_replicate, if_pos h] at e
      cases e
      trivial
    · rw [List.getElem?_replicate, if_neg h] at e
      cases e
  | _, _, 0, s, .cons d _, e => by
    cases e
    exact ⟨_, rfl, d⟩
  | v :: vs, d' :: ds, i + 1, s, .cons _ r, e => by
    have q := DenA.slots (ev := ev) (n := n) (i := i) (s := s) r (by simpa using e)
    cases s with
    | no => trivial
    | x => exact ⟨by simpa using q.1, q.2⟩
    | v d =>
      obtain ⟨v, e1, e2⟩ := q
      exact ⟨v, by simpa using e1, e2⟩
    | o d =>
      obtain ⟨a, o, e1, _⟩ := q
      cases e1
theorem okN {x qual : Str} {st : Stmt} {f : Addr} {fd : FuncData} {N ps : List Str} {k : Nat} {sp : Sp} (F : Fun K x qual st f fd) (S : FnScope N ps (defScope st)) (len : ∀ vs H Q E, sp vs H Q E → vs.length = ps.length)
    (body : ∀ (cdv : Value) (A : Around) (outer : List Env) (s : Shared) (H : Hp) (vs : List V) (Q : VK) (E : XK), Room k (A.deeper (envOfC qual (defScope st) s.heap.objs.size f cdv)) → sp vs H Q E →
      ∃ t, PSs (cxOf (L2N.CX P w) P w K mg base N qual (defScope st) f cdv A outer s H E) (defBody st) t ∧ t { nx := fun _ H' => Q .non H', rt := Q } (start N vs) H) : FnOk P w K mg base (L2N.CX P w) (k + 1) f fd ps sp := by
  obtain ⟨_, _, _, _, _, _, c, _, _, rfl, look, isC⟩ := F.ex
  exact fn_of look isC S len fun A outer s H vs Q E => body c A outer s H vs Q E
theorem fn_body {x qual : Str} {st : Stmt} {f : Addr} {fd : FuncData} {N ps : List Str} {k : Nat} {b : SF Z.T} {G : FF Z.T} (F : Fun K x qual st f fd) (S : FnScope N ps (defScope st)) (hps : ps.length ≤ N.length) (hG : ∀ ds t r, G ds t = some r → runF N.length ps.length b ds t = some r)
    (hbody : ∀ (cdv : Value) (A : Around) (outer : List Env) (s : Shared) (H : Hp) (E : XK) (C : Fx Z), Room k (A.deeper (envOfC qual (defScope st) s.heap.objs.size f cdv)) → L2N.Takes (cxOf (L2N.CX P w) P w K mg base N qual (defScope st) f cdv A outer s H E) C.W →
      PSs (cxOf (L2N.CX P w) P w K mg base N qual (defScope st) f cdv A outer s H E) (defBody st) (tS C b)) : FnOk P w K mg base (L2N.CX P w) (k + 1) f fd ps (spF Z ps.length G) := by
  refine okN F S (fun vs H Q E h => h.1) fun cdv A outer s H vs Q E hr hsp => ?_
  obtain ⟨hl, O, t, ds, o, t', h1, h2, on, dn, e, fin⟩ := hsp
  refine ⟨_, hbody cdv A outer s H E ⟨O, H, fun c d _ H' => E c d H', noEv⟩ hr (L2N.takes_of rfl rfl rfl rfl), ?_⟩
  have hdl : ds.length = ps.length := by rw [← dn.len]; exact hl
  have e2 := hG _ _ _ e
  unfold runF at e2
  rw [if_pos hdl] at e2
  have hnone : ∀ a, Hid O (fun _ => none) a ↔ O a := fun a => Iff.intro (fun h => h.elim id (fun ⟨_, z⟩ => nomatch z)) (fun h => .inl h)
  have R : FD.Rel Z noEv O H (fun _ => none) (initS N.length ds) t (start N vs) H := {
    on := Wd.less on fun a z => (hnone a).mp z, hid := h1, hidT := h2, grow := fun _ _ e _ => e
    len := by
      unfold initS L2.start
      rw [List.length_append, List.length_append, List.length_map, List.length_map, List.length_replicate, List.length_replicate, dn.len]
    slot := fun i s q => by
      unfold initS at q
      unfold L2.start
      have dn' : DenA Z (Hid O fun _ => none) H vs ds := dn.mono fun a o h n => ⟨h, fun z => n ((hnone a).mp z)⟩
      have := DenA.slots (ev := noEv) (n := N.length - ds.length) dn' q
      rw [dn.len]
      exact this
    inj := fun _ _ _ z => nomatch z
    new := fun _ _ z => nomatch z }
  have back : ∀ {ow : Nat → Option Addr} {H' : Hp} {v : V} {d : D}, Den Z (Hid O ow) H' v d → Den Z O H' v d := fun h => h.mono fun a o e n => ⟨e, fun z => n (.inl z)⟩
  refine ⟨fun _ => none, initS N.length ds, t, R, rfl, ?_⟩
  split at e2
  · rename_i s1 p
    cases e2
    exact ⟨.nx, s1, p, fun ow' σ' H' R' z x => fin .non H' (Wd.less R'.on fun _ z => .inl z) (fun a o e n => R'.grow a o e n) .non⟩
  · rename_i d s1 p
    cases e2
    exact ⟨_, s1, p, fun ow' σ' v H' R' r x => fin v H' (Wd.less R'.on fun _ z => .inl z) (fun a o e n => R'.grow a o e n) (back r.2)⟩
  · rename_i d s1 p
    cases e2
    refine ⟨_, s1, p, fun ow' σ' v H' R' r x => ?_⟩
    obtain ⟨a, o, e1, rfl, e3, c⟩ := r
    obtain ⟨hn, u, e4, nt⟩ := R'.new _ a e1
    rw [e3] at e4
    cases e4
    exact fin a o H' (Wd.less R'.on fun b z => z.elim .inl fun z => .inr ⟨0, by rw [z]; exact e1⟩) (fun a o e n => R'.grow a o e n) hn e3 nt (c.mono fun b u e n => ⟨e, fun z => n (z.elim .inl fun z => .inr ⟨0, by rw [z]; exact e1⟩)⟩)
  · rename_i c fs s1 p
    cases e2
    refine ⟨_, s1, p, fun ow' σ' d H' R' z x eo => fin d H' (Wd.less R'.on fun _ z => .inl z) (fun a o e n => R'.grow a o e n) ?_⟩
    cases d with
    | none => exact eo
    | some dd =>
      obtain ⟨vs, e5, n, q⟩ := eo
      exact ⟨vs, e5, fun z => n (.inl z), q.mono fun a o e n => ⟨e, fun z => n (.inl z)⟩⟩
  · cases e2
end
end FD

/-! F11: built-in functions of data, items, slices. -/
namespace FD
open PySem PySem.Spec PyProof.Rows L2
section
variable {Z : Wd} {X : Cx}
/-! ### items -/
def ixD : D → D → Option (D × Bool)
  | .lst ds, .int i => (atI ds i).map fun d => (d, false)
  | .tup ds, .int i => (atI ds i).map fun d => (d, false)
  | _, _ => none
theorem DenA.atI {O : Addr → Prop} {H : Hp} {xs : List V} {ds : List D} {i : Int} {d : D} (h : DenA Z O H xs ds) (e : L2.atI ds i = some d) : ∃ v, L2.atI xs i = some v ∧ Den Z O H v d := by
  unfold L2.atI at e ⊢
  rw [h.len]
  cases q : ixN ds.length i with
  | none => rw [q] at e; cases e
  | some j =>
    rw [q] at e
    exact h.get2 e
theorem ixR : IxR X (rD2 Z ixD) := by
  intro value slice pins s σ H x y v u Q I rx ry h
  obtain ⟨O, dx, dy, z, hO, sx, sy, e, q⟩ := h
  unfold ixD at e
  split at e
  · rename_i ds i
    cases sy.int
    obtain ⟨a, xs, rfl, h1, c1⟩ := sx.lst
    obtain ⟨d, e1, rfl⟩ := Option.map_eq_some_iff.mp e
    obtain ⟨w, e2, dw⟩ := c1.atI e1
    exact ix_seq value slice pins s σ H _ _ v u Q I rx ry (.inl ⟨a, xs, i, w, rfl, rfl, SqL.of h1, e2, q _ _ (.same dw)⟩)
  · rename_i ds i
    cases sy.int
    obtain ⟨a, xs, rfl, h1, c1, _⟩ := sx.tup
    obtain ⟨d, e1, rfl⟩ := Option.map_eq_some_iff.mp e
    obtain ⟨w, e2, dw⟩ := c1.atI e1
    exact ix_seq value slice pins s σ H _ _ v u Q I rx ry (.inr (.inl ⟨a, xs, i, w, rfl, rfl, SqT.of h1, e2, q _ _ (.same dw)⟩))
  · cases e

/-! ### len, abs, sum, min, max -/
def lenD : List D → Option (D × Bool)
  | [.lst ds] => some (.int ds.length, false)
  | [.tup ds] => some (.int ds.length, false)
  | _ => none
theorem cD_len : CallD Z X (.builtin "len") lenD := by
  intro pins s σ H xs us Q I r h
  obtain ⟨O, ds, z, hO, sh, e, q⟩ := h
  unfold lenD at e
  split at e
  · cases e
    cases sh with
    | cons sx sr =>
      cases sr
      obtain ⟨a, ys, rfl, h1, c1⟩ := sx.lst
      exact call_len_seq pins s σ H _ us Q I r ⟨a, ys, rfl, .inl (SqL.of h1), q _ _ (.same (by rw [c1.len]; exact .int _))⟩
  · cases e
    cases sh with
    | cons sx sr =>
      cases sr
      obtain ⟨a, ys, rfl, h1, c1, _⟩ := sx.tup
      exact call_len_seq pins s σ H _ us Q I r ⟨a, ys, rfl, .inr (SqT.of h1), q _ _ (.same (by rw [c1.len]; exact .int _))⟩
  · cases e
/-- the ints of data -/
def intsD : List D → Option (List Int)
  | [] => some []
  | .int i :: ds => (intsD ds).map (i :: ·)
  | _ => none
theorem intsD_map (ns : List Int) : intsD (ns.map D.int) = some ns := by
  induction ns with
  | nil => rfl
  | cons n r ih => simp only [List.map_cons, intsD, ih, Option.map_some]
theorem intsD_of : ∀ {ds : List D} {ns : List Int}, intsD ds = some ns → ds = ns.map D.int
  | [], _, e => by cases e; rfl
  | .int i :: ds, ns, e => by
    simp only [intsD] at e
    obtain ⟨r, e1, rfl⟩ := Option.map_eq_some_iff.mp e
    rw [intsD_of e1]
    rfl
  | .non :: _, _, e => by simp [intsD] at e
  | .bl _ :: _, _, e => by simp [intsD] at e
  | .str _ :: _, _, e => by simp [intsD] at e
  | .tup _ :: _, _, e => by simp [intsD] at e
  | .lst _ :: _, _, e => by simp [intsD] at e
  | .dct _ :: _, _, e => by simp [intsD] at e
  | .obj _ _ :: _, _, e => by simp [intsD] at e
  | .ty _ :: _, _, e => by simp [intsD] at e
  | .hnd _ :: _, _, e => by simp [intsD] at e
  | .fn _ :: _, _, e => by simp [intsD] at e
def maxL : List Int → Int
  | [] => 0
  | [x] => x
  | x :: y :: r => max x (maxL (y :: r))
def minL : List Int → Int
  | [] => 0
  | [x] => x
  | x :: y :: r => min x (minL (y :: r))
theorem maxL_le : ∀ {xs : List Int} {x : Int}, x ∈ xs → x ≤ maxL xs
  | [], _, h => by cases h
  | [y], x, h => by
    simp only [List.mem_singleton] at h
    subst h
    exact Int.le_refl _
  | y :: z :: r, x, h => by
    unfold maxL
    rcases List.mem_cons.mp h with h | h
    · omega
    · have := maxL_le h
      omega
theorem maxL_mem : ∀ {xs : List Int}, xs ≠ [] → maxL xs ∈ xs
  | [], h => absurd rfl h
  | [y], _ => by simp [maxL]
  | y :: z :: r, _ => by
    unfold maxL
    have := maxL_mem (xs := z :: r) (by simp)
    rw [show max y (maxL (z :: r)) = if y ≤ maxL (z :: r) then maxL (z :: r) else y by omega]
    split
    · exact List.mem_cons_of_mem _ this
    · exact List.mem_cons_self
theorem minL_le : ∀ {xs : List Int} {x : Int}, x ∈ xs → minL xs ≤ x
  | [], _, h => by cases h
  | [y], x, h => by
    simp only [List.mem_singleton] at h
    subst h
    exact Int.le_refl _
  | y :: z :: r, x, h => by
    unfold minL
    rcases List.mem_cons.mp h with h | h
    · omega
    · have := minL_le h
      omega
theorem minL_mem : ∀ {xs : List Int}, xs ≠ [] → minL xs ∈ xs
  | [], h => absurd rfl h
  | [y], _ => by simp [minL]
  | y :: z :: r, _ => by
    unfold minL
    have := minL_mem (xs := z :: r) (by simp)
    rw [show min y (minL (z :: r)) = if y ≤ minL (z :: r) then y else minL (z :: r) by omega]
    split
    · exact List.mem_cons_self
    · exact List.mem_cons_of_mem _ this
def sumLD : List D → Option (D × Bool)
  | [.lst ds] => (intsD ds).map fun ns => (.int ns.sum, false)
  | _ => none
theorem cD_sumL (hc : X.calm = true) : CallD Z X (.builtin "sum") sumLD := by
  intro pins s σ H xs us Q I r h
  obtain ⟨O, ds, z, hO, sh, e, q⟩ := h
  unfold sumLD at e
  split at e
  · obtain ⟨ns, e1, rfl⟩ := Option.map_eq_some_iff.mp e
    cases intsD_of e1
    cases sh with
    | cons sx sr =>
      cases sr
      obtain ⟨a, ys, rfl, h1, c1⟩ := sx.lst
      cases c1.ints
      exact cr_sum hc pins s σ H _ us Q I r ⟨a, ns, rfl, SqL.of h1, q _ _ (.same (.int _))⟩
  · cases e
def max2D : List D → Option (D × Bool)
  | [.int i, .int j] => some (.int (if j > i then j else i), false)
  | _ => none
theorem cD_max2 (hc : X.calm = true) : CallD Z X (.builtin "max") max2D := by
  intro pins s σ H xs us Q I r h
  obtain ⟨O, ds, z, hO, sh, e, q⟩ := h
  unfold max2D at e
  split at e
  · cases e
    cases sh with
    | cons sx sr => cases sr with
      | cons sy sr =>
        cases sr
        cases sx.int; cases sy.int
        exact call_max2 hc pins s σ H _ us Q I r ⟨_, _, rfl, q _ _ (.same (.int _))⟩
  · cases e
def maxLD : List D → Option (D × Bool)
  | [.lst ds] => match intsD ds with
    | some (n :: ns) => some (.int (maxL (n :: ns)), false)
    | _ => none
  | _ => none
theorem cD_maxL (hc : X.calm = true) : CallD Z X (.builtin "max") maxLD := by
  intro pins s σ H xs us Q I r h
  obtain ⟨O, ds, z, hO, sh, e, q⟩ := h
  unfold maxLD at e
  split at e
  · split at e
    · rename_i n ns e1
      cases e
      cases intsD_of e1
      cases sh with
      | cons sx sr =>
        cases sr
        obtain ⟨a, ys, rfl, h1, c1⟩ := sx.lst
        cases c1.ints
        refine cr_max hc pins s σ H _ us Q I r ⟨a, n :: ns, rfl, SqL.of h1, by simp, fun m h2 h3 => ?_⟩
        have : m = maxL (n :: ns) := Int.le_antisymm (maxL_le h2) (h3 _ (maxL_mem (by simp)))
        rw [this]
        exact q _ _ (.same (.int _))
    · cases e
  · cases e
def minLD : List D → Option (D × Bool)
  | [.lst ds] => match intsD ds with
    | some (n :: ns) => some (.int (minL (n :: ns)), false)
    | _ => none
  | _ => none
theorem cD_minL (hc : X.calm = true) : CallD Z X (.builtin "min") minLD := by
  intro pins s σ H xs us Q I r h
  obtain ⟨O, ds, z, hO, sh, e, q⟩ := h
  unfold minLD at e
  split at e
  · split at e
    · rename_i n ns e1
      cases e
      cases intsD_of e1
      cases sh with
      | cons sx sr =>
        cases sr
        obtain ⟨a, ys, rfl, h1, c1⟩ := sx.lst
        cases c1.ints
        refine cr_min hc pins s σ H _ us Q I r ⟨a, n :: ns, rfl, SqL.of h1, by simp, fun m h2 h3 => ?_⟩
        have : m = minL (n :: ns) := Int.le_antisymm (h3 _ (minL_mem (by simp))) (minL_le h2)
        rw [this]
        exact q _ _ (.same (.int _))
    · cases e
  · cases e

/-! ### list, tuple, int, all, any -/
def listD : List D → Option (D × Bool)
  | [.lst ds] => some (.lst ds, true)
  | [.tup ds] => some (.lst ds, true)
  | _ => none
theorem cD_list : CallD Z X (.type "list") listD := by
  intro pins s σ H xs us Q I r h
  obtain ⟨O, ds, z, hO, sh, e, q⟩ := h
  unfold listD at e
  split at e
  · cases e
    cases sh with
    | cons sx sr =>
      cases sr
      obtain ⟨a, ys, rfl, h1, c1⟩ := sx.lst
      exact call_list_of pins s σ H _ us Q I r ⟨a, ys, rfl, .inl (SqL.of h1), fun l hl => q _ _ (.lst hl c1)⟩
  · cases e
    cases sh with
    | cons sx sr =>
      cases sr
      obtain ⟨a, ys, rfl, h1, c1, _⟩ := sx.tup
      exact call_list_of pins s σ H _ us Q I r ⟨a, ys, rfl, .inr (SqT.of h1), fun l hl => q _ _ (.lst hl c1)⟩
  · cases e
def tupleD : List D → Option (D × Bool)
  | [.lst ds] => some (.tup ds, false)
  | [.tup ds] => some (.tup ds, false)
  | _ => none
theorem cD_tuple : CallD Z X (.type "tuple") tupleD := by
  intro pins s σ H xs us Q I r h
  obtain ⟨O, ds, z, hO, sh, e, q⟩ := h
  unfold tupleD at e
  split at e
  · cases e
    cases sh with
    | cons sx sr =>
      cases sr
      obtain ⟨a, ys, rfl, h1, c1⟩ := sx.lst
      exact call_tuple_of pins s σ H _ us Q I r ⟨a, ys, rfl, .inl ⟨SqL.of h1, fun l hl => q _ _ (.tup hO hl c1)⟩⟩
  · cases e
    cases sh with
    | cons sx sr =>
      cases sr
      obtain ⟨a, ys, rfl, h1, c1, n1⟩ := sx.tup
      exact call_tuple_of pins s σ H _ us Q I r ⟨a, ys, rfl, .inr ⟨SqT.of h1, q _ _ (.same (.ref h1 n1 (.tup c1)))⟩⟩
  · cases e
def intD : List D → Option (D × Bool)
  | [.int i] => some (.int i, false)
  | [.bl b] => some (.int (if b then 1 else 0), false)
  | _ => none
end
end FD

/-! F12: changes of own lists: append, extend, pop, x[i] = e, x[i] op= e; x op= e. -/
namespace FD
open PySem PySem.Spec PyProof.Rows L2

/-- a method of slot i's own list: its new items and what it hands back -/
def mutF {T : Type} (i : Nat) (op : List D → List D → Option (List D × D)) (g : AF T) : EF T := fun s => match s.1[i]? with
  | some (.o (.lst _)) => match g s with
    | none => none
    | some (.ex c fs, s1) => some (.ex c fs, s1)
    | some (.ok rs, s1) => match giveAll s1.1 rs with
      | none => none
      | some (ds, τ) => match τ[i]? with
        | some (.o (.lst xs)) => match op xs ds with
          | none => none
          | some (ys, r) => some (.ok (.d r), (τ.set i (.o (.lst ys)), s1.2))
        | _ => none
  | _ => none
/-- the method's rule does what op says -/
def MutD (Z : Wd) (op : List D → List D → Option (List D × D)) (r : V → List V → Hp → VK → Prop) : Prop :=
  ∀ (O : Addr → Prop) (H : Hp) (a : Addr) (xs vs : List V) (dx ds dy : List D) (rd : D), H a = some (.lst xs) → DenA Z O H xs dx → DenA Z O H vs ds → op dx ds = some (dy, rd) →
    ∃ ys w, DenA Z O H ys dy ∧ Den Z O H w rd ∧ ∀ Q : VK, Q w (upd H a (.lst ys)) → r (.ref a) vs H Q
section
variable {Z : Wd} {C : Fx Z} {X : Cx} {ow : Nat → Option Addr} {τ : List Sl} {t : Z.T} {σ : L2.St} {H H' : Hp} {E : Ends}
theorem Rel.ownLst {i : Nat} {ds : List D} (R : C.Rel ow τ t σ H) (e : τ[i]? = some (.o (.lst ds))) : ∃ a xs, ow (i + 1) = some a ∧ σ[i]? = some (some (.ref a)) ∧ H a = some (.lst xs) ∧ DenA Z (C.Hid ow) H xs ds := by
  obtain ⟨a, o, e1, e2, e3, c⟩ := R.slot i _ e
  cases c with
  | lst c => exact ⟨a, _, e1, e2, e3, c⟩
theorem ev_mut {i : Nat} {op : List D → List D → Option (List D × D)} {r : V → List V → Hp → VK → Prop} {g : AF Z.T} {o e : Expr} {es : List Expr} {name : Str} {id : String} {apos cpos : Pos}
    (slot : Slot "list" name id) (hty : typeOf (.builtin id) = pure (.type "method_descriptor")) (hm : MtR X id r) (hd : MutD Z op r) (ho : PE X o (tVar i)) (ha : PA X (e :: es) (tA C g))
    (hbase : attributeBase o name X.env (eval o X.env) = eval o X.env := by rfl)
    (hfew : ((backTo cpos (starEach (e :: es) X.env)).all (fun x => !x.1) && (backToKw cpos (keywordEach [] X.env)).all (fun x => x.1.isSome)
      && decide ((e :: es).length + ([] : List Keyword).length + (if ([] : List Keyword).isEmpty then 0 else 1) < 30)) = true := by rfl)
    (hline : (apos.endLine == cpos.line) = true := by rfl) (hs : starEach (e :: es) X.env = (false, eval e X.env) :: starEach es X.env := by rfl) (hplain : (backTo cpos (starEach es X.env)).any (·.1) = false := by rfl) :
    PE X (.Call (.Attribute o name apos) (e :: es) [] cpos) (tF C (mutF i op g)) := ⟨fun pins s σ H Q I h => (pe_bm PySem.F.plainAttrs_list slot hty hm ho ha hbase hfew hline hs hplain).run pins s σ H Q I (by
  obtain ⟨ow, τ, t, o, s', R, z, e, k⟩ := h
  unfold mutF at e
  split at e
  · rename_i xs0 p0
    obtain ⟨a, ys0, e1, e2, e3, c0⟩ := R.ownLst p0
    refine ⟨.ref a, e2, .inl ⟨rfl, _, SqL.of e3⟩, ?_⟩
    cases q : g (τ, t) with
    | none => rw [q] at e; cases e
    | some w =>
      obtain ⟨o1, s1⟩ := w
      rw [q] at e
      refine ⟨ow, τ, t, R, z, o1, s1, q, ?_⟩
      cases o1 with
      | ex c fs => cases e; exact k
      | ok rs =>
        intro ow1 vs H1 R1 z1 r1 x1
        simp only at e
        split at e
        · cases e
        · rename_i ds τ2 p1
          obtain ⟨ow2, R2, z2, d2, x2⟩ := r1.give R1 z1 p1
          split at e
          · rename_i xs p2
            split at e
            · cases e
            · rename_i ys rd p3
              cases e
              obtain ⟨b, zs, f1, f2, f3, c⟩ := R2.ownLst p2
              rw [e2] at f2
              cases f2
              obtain ⟨us, w, g1, g2, g3⟩ := hd (C.Hid ow2) H1 a zs vs xs ds ys rd f3 c d2 p3
              refine g3 _ ?_
              have u : Ext (C.Hid ow2) H1 (C.Hid ow2) (upd H1 a (.lst us)) := ext_upd (.inr ⟨_, f1⟩)
              exact k ow2 w _ (R2.mutS f1 p2 (fun _ q => nomatch q) (.lst g1)) ⟨z2, g2.ext u⟩ ((x1.trans x2).trans u)
          · cases e
  · cases e)⟩
def extD : List D → List D → Option (List D × D)
  | xs, [.lst ds] => if xs.length + ds.length ≤ LEN then some (xs ++ ds, .non) else none
  | _, _ => none
theorem mutD_extend : MutD Z extD rExtend := by
  intro O H a xs vs dx ds dy rd h c1 c2 e
  unfold extD at e
  split at e
  · split at e
    · rename_i hl
      cases e
      cases c2 with
      | cons d r =>
        cases r
        obtain ⟨b, zs, rfl, h2, c3⟩ := (Shows.den d).lst
        exact ⟨_, .non, c1.app c3, .non, fun Q q => ⟨a, b, xs, zs, rfl, rfl, h, h2, by rw [c1.len, c3.len]; exact len_line hl, q⟩⟩
    · cases e
  · cases e
theorem DenA.erase {O : Addr → Prop} {H : Hp} : ∀ {vs : List V} {ds : List D} (n : Nat), DenA Z O H vs ds → DenA Z O H (vs.eraseIdx n) (ds.eraseIdx n)
  | _, _, _, .nil => .nil
  | _, _, 0, .cons _ t => t
  | _, _, n + 1, .cons r t => .cons r (DenA.erase n t)
theorem ev_extend {i : Nat} {g : AF Z.T} {o e : Expr} {apos cpos : Pos} (ho : PE X o (tVar i)) (ha : PA X [e] (tA C g)) (hbase : attributeBase o "extend" X.env (eval o X.env) = eval o X.env := by rfl)
    (hline : (apos.endLine == cpos.line) = true := by rfl) (hs : starEach [e] X.env = [(false, eval e X.env)] := by rfl) : PE X (.Call (.Attribute o "extend" apos) [e] [] cpos) (tF C (mutF i extD g)) :=
  ev_mut PySem.F.slot_list_extend PySem.F.type_list_extend mt_extend mutD_extend ho ha hbase (by rw [hs]; rfl) hline hs (by rfl)
/-! ### x[k] = e, x[k] op= e -/
/-- slot i's own list, changed at a place -/
def putAt (i : Nat) (τ : List Sl) (k : D) (d : D) : Option (List Sl) := match τ[i]?, k with
  | some (.o (.lst xs)), .int n => match ixN xs.length n with
    | none => none
    | some j => some (τ.set i (.o (.lst (xs.set j d))))
  | _, _ => none
def setIxF {T : Type} (i : Nat) (fk fe : EF T) : SF T := sbind fe fun r s => match give s.1 r with
  | none => none
  | some (d, τ) => match τ[i]? with
    | some (.o (.lst _)) => sbind fk (fun rk s2 => match peek s2.1 (hold rk) with
      | none => none
      | some k => match putAt i s2.1 k d with
        | none => none
        | some τ2 => some (.nx, (τ2, s2.2))) (τ, s.2)
    | _ => none
theorem KnS.bind {f : EF Z.T} {k : Res → SF Z.T} (h : KnS C (sbind f k) ow τ t H E) (R : C.Rel ow τ t σ H) (h0 : ow 0 = none) :
    tF C f σ H fun v H1 => ∃ ow1 τ1 t1 r, C.Rel ow1 τ1 t1 σ H1 ∧ ResOk C ow1 τ1 σ H1 v r ∧ KnS C (k r) ow1 τ1 t1 H1 E ∧ Ext (C.Hid ow) H (C.Hid ow1) H1 := by
  obtain ⟨o, s', e, h⟩ := h
  unfold sbind at e
  cases q : f (τ, t) with
  | none => rw [q] at e; cases e
  | some z =>
    obtain ⟨o1, s1⟩ := z
    rw [q] at e
    cases o1 with
    | ex c fs =>
      cases e
      exact ⟨ow, τ, t, _, _, R, h0, q, fun ow' d H' R' z x e => h ow' σ d H' R' z x e⟩
    | ok r => exact ⟨ow, τ, t, _, _, R, h0, q, fun ow1 v H1 R1 r1 x1 => ⟨ow1, s1.1, s1.2, r, R1, r1, ⟨o, s', e, h.from x1⟩, x1⟩⟩
theorem Rel.putAt {i : Nat} {k d : D} {τ2 : List Sl} {v w : V} (R : C.Rel ow τ t σ H) (e : FD.putAt i τ k d = some τ2) (hk : Shows Z (C.Hid ow) H v k) (hd : Den Z (C.Hid ow) H w d) :
    ∃ a xs n j, ow (i + 1) = some a ∧ σ[i]? = some (some (.ref a)) ∧ v = .int n ∧ H a = some (.lst xs) ∧ ixN xs.length n = some j ∧ C.Rel ow τ2 t σ (upd H a (.lst (xs.set j w))) := by
  unfold FD.putAt at e
  split at e
  · rename_i xs n p
    split at e
    · cases e
    · rename_i j p2
      cases e
      obtain ⟨a, ys, f1, f2, f3, c⟩ := R.ownLst p
      exact ⟨a, ys, n, j, f1, f2, hk.int, f3, by rw [c.len]; exact p2, R.mutS f1 p (fun _ q => nomatch q) (.lst (c.set j hd))⟩
  · cases e
theorem sv_setIx {i : Nat} {o k e : Expr} {fk fe : EF Z.T} {pos p2 : Pos} (he : PE X e (tF C fe)) (ho : PE X o (tVar i)) (hk : PE X k (tF C fk)) (hs : swapsWithSole [.Subscript o k p2] e pos.line X.env = pure false := by rfl)
    (hw : swappedStores [.Subscript o k p2] e X.env = pure none := by rfl)
    (ha : ∀ v, assign (.Subscript o k p2) X.env v = (do let ov ← holding [v] (eval o X.env); let iv ← holding [v, ov] (eval k X.env); standAt p2; holding [v, ov, iv] (setItem ov iv v); release [v, ov, iv] []) := by intro _; rfl) :
    PS X (.Assign [.Subscript o k p2] e pos) (tS C (setIxF i fk fe)) := ⟨fun pins s σ H E I h => (ps_asg he (pg_sub ho hk set_list ha) hs hw).run pins s σ H E I (by
  obtain ⟨ow, τ, t, R, z, kn⟩ := h
  refine tF_mono (kn.bind R z) fun w H1 ⟨ow1, τ1, t1, r, R1, r1, k1, x1⟩ => ?_
  obtain ⟨o1, s1, e1, k1⟩ := k1
  simp only at e1
  split at e1
  · cases e1
  · rename_i d τ2 p1
    obtain ⟨ow2, R2, z2, d2, x2⟩ := r1.give R1 p1
    split at e1
    · rename_i xs0 p0
      obtain ⟨a0, _, _, f2, _, _⟩ := R2.ownLst p0
      refine ⟨_, f2, ?_⟩
      have k2 : KnS C (sbind fk (fun rk s2 => match peek s2.1 (hold rk) with
        | none => none
        | some k => match putAt i s2.1 k d with
          | none => none
          | some τ2 => some (.nx, (τ2, s2.2)))) ow2 τ2 t1 H1 E := ⟨o1, s1, e1, k1.from x2⟩
      refine tF_mono (k2.bind R2 z2) fun kv H3 ⟨ow3, τ3, t3, rk, R3, r3, k3, x3⟩ => ?_
      obtain ⟨ow4, R4, z4, r4, x4⟩ := r3.hold R3
      obtain ⟨o3, s3, e3, k3⟩ := k3
      simp only at e3
      split at e3
      · cases e3
      · rename_i dk p3
        split at e3
        · cases e3
        · rename_i τ5 p4
          cases e3
          obtain ⟨a, ys, n, j, g1, g2, rfl, g3, g4, R5⟩ := R4.putAt p4 (r4.peek R4 p3) (d2.ext (x3.trans x4))
          rw [f2] at g2
          cases g2
          exact ⟨a0, ys, n, j, rfl, rfl, g3, g4, k3 ow4 σ _ R5 z4 (x4.trans (ext_upd (.inr ⟨_, g1⟩)))⟩
    · cases e1)⟩

/-! ### x op= e -/
def augF {T : Type} (i : Nat) (op : D → D → Option (D × Bool)) (f : EF T) : SF T := fun s => match s.1[i]? with
  | some (.v x) => sbind f (fun r s1 => match peek s1.1 (hold r) with
    | none => none
    | some y => match op x y with
      | some (z, false) => some (.nx, (s1.1.set i (.v z), s1.2))
      | _ => none) s
  | _ => none
def addI : D → D → Option (D × Bool)
  | .int i, .int j => some (.int (i + j), false)
  | _, _ => none
def subI : D → D → Option (D × Bool)
  | .int i, .int j => some (.int (i - j), false)
  | _, _ => none
/-! ### while -/
def whileN {T : Type} (c : EF T) (b : SF T) : Nat → SF T
  | 0 => fun _ => none
  | n + 1 => ifF c (fun s => match b s with
    | some (.nx, s1) => whileN c b n s1
    | some (.ct, s1) => whileN c b n s1
    | some (.bk, s1) => some (.nx, s1)
    | r => r) nxF
theorem whileN_noB {c : EF Z.T} {b : SF Z.T} : ∀ (n : Nat) (s : Sg Z.T) (o : SOut) (s' : Sg Z.T), whileN c b n s = some (o, s') → o ≠ .bk ∧ o ≠ .ct := by
  intro n
  induction n with
  | zero => intro s o s' e; cases e
  | succ n ih =>
    intro s o s' e
    unfold whileN ifF sbind at e
    split at e
    · cases e
    · cases e
      exact ⟨nofun, nofun⟩
    · dsimp only at e
      split at e
      · split at e
        · exact ih _ _ _ e
        · exact ih _ _ _ e
        · cases e
          exact ⟨nofun, nofun⟩
        · rename_i h1 h2 h3
          refine ⟨fun z => ?_, fun z => ?_⟩
          · subst z
            exact h3 _ e
          · subst z
            exact h2 _ e
      · cases e
        exact ⟨nofun, nofun⟩
      · cases e
def Ends.calm (E : Ends) : Ends := { nx := E.nx, rt := E.rt, bk := fun _ _ => False, ct := fun _ _ => False }
theorem FinS.calm {s' : Sg Z.T} {o : SOut} (h : FinS C ow H E s' o) (n : o ≠ .bk ∧ o ≠ .ct) : FinS C ow H (Ends.calm E) s' o := by
  cases o with
  | nx => exact h
  | rt r => exact h
  | bk => exact absurd rfl n.1
  | ct => exact absurd rfl n.2
  | ex c fs => exact h
theorem tS_while {c : EF Z.T} {b : SF Z.T} (n : Nat) (h : tS C (whileN c b n) E σ H) : tWhile (tT C c) (tS C b) E σ H := by
  refine ⟨fun m σ H => tS C (whileN c b m) (Ends.calm E) σ H, ⟨n, ?_⟩, fun m σ H w => ?_⟩
  · obtain ⟨ow, τ, t, R, z, o, s', e, k⟩ := h
    exact ⟨ow, τ, t, R, z, o, s', e, k.calm (whileN_noB _ _ _ _ e)⟩
  · cases m with
    | zero =>
      obtain ⟨ow, τ, t, R, z, o, s', e, k⟩ := w
      cases e
    | succ m =>
      refine tT_mono (tS_if w) fun bb H1 q => ?_
      cases bb with
      | false =>
        rw [if_neg (by decide)] at q ⊢
        obtain ⟨ow, τ, t, R, z, o, s', e, k⟩ := q
        cases e
        exact k ow σ H1 R z .refl
      | true =>
        rw [if_pos rfl] at q ⊢
        refine ⟨fun σ' H' => tS C (whileN c b m) (Ends.calm E) σ' H', fun σ' H' p => ⟨m, Nat.lt_succ_self m, p⟩, ?_⟩
        obtain ⟨ow, τ, t, R, z, o, s', e, k⟩ := q
        refine ⟨ow, τ, t, R, z, ?_⟩
        dsimp only at e
        split at e
        · rename_i s1 p
          exact ⟨.nx, s1, p, fun ow1 σ1 H1 R1 z1 x1 => ⟨ow1, s1.1, s1.2, R1, z1, o, s', e, k.from x1⟩⟩
        · rename_i s1 p
          exact ⟨.ct, s1, p, fun ow1 σ1 H1 R1 z1 x1 => ⟨ow1, s1.1, s1.2, R1, z1, o, s', e, k.from x1⟩⟩
        · rename_i s1 p
          cases e
          exact ⟨.bk, _, p, fun ow1 σ1 H1 R1 z1 x1 => k ow1 σ1 H1 R1 z1 x1⟩
        · rename_i n1 n2 n3
          cases o with
          | nx => exact absurd e (n1 s')
          | ct => exact absurd e (n2 s')
          | bk => exact absurd e (n3 s')
          | rt r => exact ⟨.rt r, s', e, k⟩
          | ex c fs => exact ⟨.ex c fs, s', e, k⟩
theorem whileN_mono {T : Type} {c : EF T} {b : SF T} : ∀ {n m : Nat} {s : Sg T} {r : SOut × Sg T}, n ≤ m → whileN c b n s = some r → whileN c b m s = some r := by
  intro n
  induction n with
  | zero => intro m s r _ e; cases e
  | succ n ih =>
    intro m s r hm e
    cases m with
    | zero => omega
    | succ m =>
      unfold whileN ifF sbind at e ⊢
      cases q : c s with
      | none => rw [q] at e; cases e
      | some w =>
        obtain ⟨o1, s1⟩ := w
        rw [q] at e
        cases o1 with
        | ex c fs => exact e
        | ok r1 =>
          simp only at e ⊢
          split at e
          · rename_i p
            split at e
            · rename_i s2 p2
              exact ih (by omega) e
            · rename_i s2 p2
              exact ih (by omega) e
            · rename_i s2 p2
              exact e
            · exact e
          · rename_i p
            exact e
          · cases e
open Classical in
/-- while: as many turns as it takes -/
noncomputable def whileF {T : Type} (c : EF T) (b : SF T) : SF T := fun s => if h : ∃ n r, whileN c b n s = some r then whileN c b h.choose s else none
theorem whileF_of {T : Type} {c : EF T} {b : SF T} {n : Nat} {s : Sg T} {r : SOut × Sg T} (e : whileN c b n s = some r) : whileF c b s = some r := by
  have h : ∃ n r, whileN c b n s = some r := ⟨n, r, e⟩
  unfold whileF
  rw [dif_pos h]
  obtain ⟨r', e'⟩ := h.choose_spec
  rw [e']
  rcases Nat.le_total n h.choose with l | l
  · rw [whileN_mono l e] at e'
    exact e'.symm
  · rw [whileN_mono l e'] at e
    exact e
theorem sv_while {c : Expr} {body : List Stmt} {f : EF Z.T} {b : SF Z.T} {pos : Pos} (hp : PassesOwn (model X.prog X.w) X.A X.env X.xe) (hc : PT X c (tT C f)) (hb : PSs X body (tS C b)) : PS X (.While c body [] pos) (tS C (whileF f b)) :=
  ⟨fun pins s σ H E I h => (ps_while hp hc hb).run pins s σ H E I (by
    obtain ⟨ow, τ, t, R, z, o, s', e, k⟩ := h
    have e0 := e
    unfold whileF at e
    split at e
    · rename_i hh
      exact tS_while hh.choose ⟨ow, τ, t, R, z, o, s', e, k⟩
    · cases e)⟩
end
end FD

/-! F13: assignments to targets, of two and three names at once. -/
namespace FD
open PySem PySem.Spec PyProof.Rows L2

def asgF {T : Type} (g : GF) (f : EF T) : SF T := sbind f fun r s => match give s.1 r with
  | none => none
  | some (d, τ) => match g d τ with
    | none => none
    | some τ1 => some (.nx, (τ1, s.2))
def lstG (n : Nat) (h : GFs) : GF := fun d τ => match d with
  | .lst ds => if ds.length = n then h ds τ else none
  | _ => none
/-- a, b = e, f -/
def parF {T : Type} (i j : Nat) (f g : EF T) : SF T := sbind f fun r s => match give s.1 r with
  | none => none
  | some (d, τ) => sbind g (fun r2 s2 => match storeAt j s2.1 r2 with
    | none => none
    | some τ2 => some (.nx, (τ2.set i (.v d), s2.2))) (τ, s.2)
/-- a, b = e, [] -/
def parNF {T : Type} (i j : Nat) (f : EF T) : SF T := sbind f fun r s => match storeAt i s.1 r with
  | none => none
  | some τ => some (.nx, (τ.set j (.o (.lst [])), s.2))
section
variable {Z : Wd} {C : Fx Z} {X : Cx} {ow : Nat → Option Addr} {τ : List Sl} {t : Z.T} {σ : L2.St} {H H' : Hp} {E : Ends} {S : List Nat}
theorem sv_asg {tg e : Expr} {f : EF Z.T} {g : GF} {pos : Pos} (he : PE X e (tF C f)) (hg : PG X tg (tG C S g)) (hs : swapsWithSole [tg] e pos.line X.env = pure false := by rfl) (hw : swappedStores [tg] e X.env = pure none := by rfl) (h1 : (assignEach [tg] X.env).map (·.2) = [assign tg X.env] := by rfl) :
    PS X (.Assign [tg] e pos) (tS C (asgF g f)) := ⟨fun pins s σ H E I h => (ps_asg he hg hs hw h1).run pins s σ H E I (by
  obtain ⟨ow, τ, t, R, z, kn⟩ := h
  refine tF_mono (kn.bind R z) fun v H1 ⟨ow1, τ1, t1, r, R1, r1, k1, x1⟩ => ?_
  obtain ⟨o1, s1, e1, k1⟩ := k1
  simp only at e1
  split at e1
  · cases e1
  · rename_i d τ2 p1
    obtain ⟨ow2, R2, z2, d2, x2⟩ := r1.give R1 p1
    split at e1
    · cases e1
    · rename_i τ3 p2
      cases e1
      exact ⟨ow2, τ2, t1, d, τ3, R2, z2, d2, p2, fun ow3 σ3 R3 z3 x3 _ => k1 ow3 σ3 H1 R3 z3 (x2.trans x3)⟩)⟩
theorem gv_lst {es : List Expr} {k n : Nat} {h : GFs} {pos : Pos} (hc : X.calm = true) (q : PGs X es (tGs C S h)) (hn : (assignEach es X.env).length = n := by rfl) (hst : (assignEach es X.env).findIdx? (·.1) = none := by rfl) : PG X (.Tuple es k pos) (tG C S (lstG n h)) := ⟨fun pins s σ H v u Q I r w => (pg_lst (n := n) hc q hn hst).run pins s σ H v u Q I r (by
  obtain ⟨ow, τ, t, d, τ', R, z, dn, e, k⟩ := w
  unfold lstG at e
  split at e
  · split at e
    · rename_i hl
      obtain ⟨a, xs, rfl, h1, c⟩ := (Shows.den dn).lst
      exact ⟨a, xs, rfl, SqL.of h1, c.len.trans hl, ow, τ, t, _, τ', R, z, c, e, k⟩
    · cases e
  · cases e)⟩
theorem sv_parN {i j : Nat} {x y : Str} {a : Expr} {f : EF Z.T} {px py pt pos pe : Pos} {kt k2 pt2} (hc : X.calm = true) (hN : X.N.Nodup) (hi : X.N[i]? = some x) (hj : X.N[j]? = some y) (hij : i ≠ j)
    (hx : X.env.scope.names.lookup x = some .local) (hy : X.env.scope.names.lookup y = some .local) (ha : PE X a (tF C f))
    (hw : swappedStores [.Tuple [.Name x px, .Name y py] kt pt] (.Tuple [a, .List [] pe] k2 pt2) X.env = pure (some [x, y]))
    (hs : swapsWithSole [.Tuple [.Name x px, .Name y py] kt pt] (.Tuple [a, .List [] pe] k2 pt2) pos.line X.env = pure false := by rfl)
    (h1 : starEach [a, .List [] pe] X.env = (false, eval a X.env) :: starEach [.List [] pe] X.env := by rfl) :
    PS X (.Assign [.Tuple [.Name x px, .Name y py] kt pt] (.Tuple [a, .List [] pe] k2 pt2) pos) (tS C (parNF i j f)) :=
  ⟨fun pins s σ H E I h => (ps_par hc hN hi hj hij hx hy (pa_cons ha (pa_cons (pe_lst pa_nil) pa_nil) h1) hw hs).run pins s σ H E I (by
    obtain ⟨ow, τ, t, R, z, kn⟩ := h
    refine tF_mono (kn.bind R z) fun v H1 ⟨ow1, τ1, t1, r, R1, r1, k1, x1⟩ => ?_
    obtain ⟨o1, s1, e1, k1⟩ := k1
    simp only at e1
    split at e1
    · cases e1
    · rename_i τ2 p1
      cases e1
      obtain ⟨ow2, R2, z2, x2⟩ := R1.store r1 p1
      refine ⟨Nat.zero_le _, fun p hp => ?_⟩
      have R3 := R2.pend (o := .lst []) z2 hp (fun _ q => nomatch q)
      have R4 := R3.setOwn (i := j) (d := .lst []) put_same upd_same (.lst .nil)
      refine ⟨v, _, rfl, k1 _ _ _ R4 ?_ ((x2.trans (ext_put hp)).trans ext_move)⟩
      unfold move
      rw [if_neg (by omega), if_pos rfl])⟩
end
end FD

/-! F14: sums, greatest and least of tuples of ints; list(range(..)); isinstance. -/
namespace FD
open PySem PySem.Spec PyProof.Rows L2
section
variable {prog : Program} {w : World} {A : Around} {E : Value → Shared → Prop} {s : Shared} {l : Addr} {xs : Array (Int × Tok)}
theorem sum_intTup {Q : Value → Shared → Prop} (hh : A.handled = none) (hl : s.heap.IsTuple l (intItems xs))
    (h : ∀ h' tk t', (∀ b o, s.heap.get? b = some o → h'.get? b = some o) → Q (.int (preSum (numAt xs) xs.size) t') { s with heap := h', toks := tk }) : wpAny (model prog w) A (call (.builtin "sum") [.ref l]) Q E s := by
  have hlt : l < s.heap.objs.size := by
    obtain ⟨o, e, _⟩ := hl
    exact Heap.lt_size e
  refine call_sum_walkG (wpAny_pyIter_tuple hl ?_)
  refine ⟨s.heap.objs.size, [s.heap.objs.size, l], [s.heap.objs.size], _, _, _, numAt xs, rfl, Walks.tuple (A := A.in1) hh _ l (Nat.ne_of_lt hlt) (intItems xs), ⟨⟨_, Heap.get?_push_size _ rfl, rfl, rfl⟩, hl.push _⟩, fun c hc => ?_, fun _ _ => intItems_at, fun h' tk t' hk => ?_⟩
  · show c < (s.heap.push _).objs.size
    rw [Heap.size_push]
    rcases List.mem_cons.mp hc with rfl | hc
    · exact Nat.lt_succ_self _
    · rcases List.mem_cons.mp hc with rfl | hc
      · exact Nat.lt_succ_of_lt hlt
      · cases hc
  · have := h h' tk t' fun b o e => hk b o (fun hm => absurd (List.mem_singleton.mp hm) (Nat.ne_of_lt (Heap.lt_size e))) (Heap.get?_push_of_some _ e)
    simpa [intItems] using this
theorem max_intTup {Q : Value → Shared → Prop} (hh : A.handled = none) (hl : s.heap.IsTuple l (intItems xs)) (hne : 0 < xs.size)
    (h : ∀ v h' tk, (intItems xs)[argBest (fun i j => decide (numAt xs i > numAt xs j)) (xs.size - 1)]? = some v → (∀ b o, s.heap.get? b = some o → h'.get? b = some o) → Q v { s with heap := h', toks := tk }) :
    wpAny (model prog w) A (call (.builtin "max") [.ref l]) Q E s := by
  have hlt : l < s.heap.objs.size := by
    obtain ⟨o, e, _⟩ := hl
    exact Heap.lt_size e
  refine call_max_walk (wpAny_pyIter_tuple hl ?_)
  refine ⟨s.heap.objs.size, [s.heap.objs.size, l], [s.heap.objs.size], _, _, _, _, rfl, Walks.tuple (A := A.in1) hh _ l (Nat.ne_of_lt hlt) (intItems xs), ⟨⟨_, Heap.get?_push_size _ rfl, rfl, rfl⟩, hl.push _⟩, fun c hc => ?_, by simpa [intItems] using hne, CmpOf.ints_gt (numAt xs) (fun _ _ => intItems_at), fun v h' tk hP hk => ?_⟩
  · show c < (s.heap.push _).objs.size
    rw [Heap.size_push]
    rcases List.mem_cons.mp hc with rfl | hc
    · exact Nat.lt_succ_self _
    · rcases List.mem_cons.mp hc with rfl | hc
      · exact Nat.lt_succ_of_lt hlt
      · cases hc
  · refine h v h' tk (by simpa [intItems] using hP) fun b o e => hk b o (fun hm => absurd (List.mem_singleton.mp hm) (Nat.ne_of_lt (Heap.lt_size e))) (Heap.get?_push_of_some _ e)
theorem min_intTup {Q : Value → Shared → Prop} (hh : A.handled = none) (hl : s.heap.IsTuple l (intItems xs)) (hne : 0 < xs.size)
    (h : ∀ v h' tk, (intItems xs)[argBest (fun i j => decide (numAt xs i < numAt xs j)) (xs.size - 1)]? = some v → (∀ b o, s.heap.get? b = some o → h'.get? b = some o) → Q v { s with heap := h', toks := tk }) :
    wpAny (model prog w) A (call (.builtin "min") [.ref l]) Q E s := by
  have hlt : l < s.heap.objs.size := by
    obtain ⟨o, e, _⟩ := hl
    exact Heap.lt_size e
  refine call_min_walk (wpAny_pyIter_tuple hl ?_)
  refine ⟨s.heap.objs.size, [s.heap.objs.size, l], [s.heap.objs.size], _, _, _, _, rfl, Walks.tuple (A := A.in1) hh _ l (Nat.ne_of_lt hlt) (intItems xs), ⟨⟨_, Heap.get?_push_size _ rfl, rfl, rfl⟩, hl.push _⟩, fun c hc => ?_, by simpa [intItems] using hne, CmpOf.ints_lt (numAt xs) (fun _ _ => intItems_at), fun v h' tk hP hk => ?_⟩
  · show c < (s.heap.push _).objs.size
    rw [Heap.size_push]
    rcases List.mem_cons.mp hc with rfl | hc
    · exact Nat.lt_succ_self _
    · rcases List.mem_cons.mp hc with rfl | hc
      · exact Nat.lt_succ_of_lt hlt
      · cases hc
  · refine h v h' tk (by simpa [intItems] using hP) fun b o e => hk b o (fun hm => absurd (List.mem_singleton.mp hm) (Nat.ne_of_lt (Heap.lt_size e))) (Heap.get?_push_of_some _ e)
end
section
variable {Z : Wd} {C : Fx Z} {X : Cx}
theorem ints_items {its : List Value} {ns : List Int} (hi : IntsAre its ns) : ∃ xs, its.toArray = intItems xs ∧ xs.size = ns.length ∧ preSum (numAt xs) xs.size = ns.sum ∧ (xs.toList.map (·.1)) = ns := by
  obtain ⟨xs, e⟩ := hi.allInts.items
  have hn : numsOf (intItems xs).toList = ns := by rw [← e]; exact hi.numsOf
  rw [nums_intItems] at hn
  refine ⟨xs, e, ?_, ?_, hn⟩
  · rw [← hn]
    simp
  · rw [preSum_eq, List.take_of_length_le (by simp), hn]
def sumD : List D → Option (D × Bool)
  | [.lst ds] => (intsD ds).map fun ns => (.int ns.sum, false)
  | [.tup ds] => (intsD ds).map fun ns => (.int ns.sum, false)
  | _ => none
theorem cD_sum (hc : X.calm = true) : CallD Z X (.builtin "sum") sumD := by
  intro pins s σ H xs us Q I r h
  obtain ⟨O, ds, z, hO, sh, e, q⟩ := h
  unfold sumD at e
  split at e
  · exact cD_sumL hc pins s σ H xs us Q I r ⟨O, _, z, hO, sh, e, q⟩
  · obtain ⟨ns, e1, rfl⟩ := Option.map_eq_some_iff.mp e
    cases intsD_of e1
    cases sh with
    | cons sx sr =>
      cases sr
      obtain ⟨a, ys, rfl, h1, c1, _⟩ := sx.tup
      cases c1.ints
      obtain ⟨its, rv, ht, _⟩ := I.tuple (SqT.of h1)
      obtain ⟨zs, e2, e3, e4, _⟩ := ints_items rv.ints
      rw [Vals.ref1 r]
      have ht : s.heap.IsTuple a its.toArray := ht
      rw [e2] at ht
      refine sum_intTup (I.ok.hd hc) ht fun h' tk t' hk => ⟨.int _, H, I.kept hk, ⟨_, rfl⟩, ?_⟩
      rw [e4]
      exact q _ _ (.same (.int _))
  · cases e
def maxD : List D → Option (D × Bool)
  | [.lst ds] => maxLD [.lst ds]
  | [.tup ds] => match intsD ds with
    | some (n :: ns) => some (.int (maxL (n :: ns)), false)
    | _ => none
  | _ => none
def minD : List D → Option (D × Bool)
  | [.lst ds] => minLD [.lst ds]
  | [.tup ds] => match intsD ds with
    | some (n :: ns) => some (.int (minL (n :: ns)), false)
    | _ => none
  | _ => none
theorem cD_max (hc : X.calm = true) : CallD Z X (.builtin "max") maxD := by
  intro pins s σ H xs us Q I r h
  obtain ⟨O, ds, z, hO, sh, e, q⟩ := h
  unfold maxD at e
  split at e
  · exact cD_maxL hc pins s σ H xs us Q I r ⟨O, _, z, hO, sh, e, q⟩
  · split at e
    · rename_i n ns e1
      cases e
      cases intsD_of e1
      cases sh with
      | cons sx sr =>
        cases sr
        obtain ⟨a, ys, rfl, h1, c1, _⟩ := sx.tup
        cases c1.ints
        obtain ⟨its, rv, ht, _⟩ := I.tuple (SqT.of h1)
        obtain ⟨zs, e2, e3, e4, e5⟩ := ints_items rv.ints
        rw [Vals.ref1 r]
        have ht : s.heap.IsTuple a its.toArray := ht
        rw [e2] at ht
        refine max_intTup (I.ok.hd hc) ht (by rw [e3]; simp) fun v h' tk hv hk => ?_
        obtain ⟨t, rfl⟩ := intItems_at hv
        obtain ⟨h1, h2⟩ := argBest_gt (numAt zs) (zs.size - 1)
        refine ⟨.int _, H, I.kept hk, ⟨_, rfl⟩, ?_⟩
        have hm : numAt zs (argBest (fun i j => decide (numAt zs i > numAt zs j)) (zs.size - 1)) = maxL (n :: ns) := by
          refine Int.le_antisymm ?_ ?_
          · refine maxL_le ?_
            rw [← e5, numAt_eq]
            exact PySem.getD_mem (by rw [List.length_map, Array.length_toList]; have : zs.size = (n :: ns).length := e3; simp only [List.length_cons] at this; omega)
          · have hmem := maxL_mem (xs := n :: ns) (by simp)
            rw [← e5] at hmem
            obtain ⟨j, hj, ej⟩ := mem_getD hmem
            have := h2 j (by rw [List.length_map, Array.length_toList] at hj; omega)
            rw [e5] at ej
            rw [numAt_eq zs j, e5] at this
            omega
        rw [hm]
        exact q _ _ (.same (.int _))
    · cases e
  · cases e
end
end FD

/-! F15: small rules: isinstance, list(range(..)), in, y = [..]. -/
namespace FD
open PySem PySem.Spec PyProof.Rows L2
theorem takes_dead {Z : Wd} {X : Cx} {C : Fx Z} (w : C.W = dead) : L2N.Takes X C.W := by
  rw [w]
  intro u s' x
  obtain ⟨_, _, _, _, _, _, _, _, _, _, _, _, _, _, _, _, no⟩ := x
  exact no.elim
theorem runF_len {T : Type} {N n : Nat} {f : SF T} {ds : List D} {t : T} {o : FOut × T} (h : runF N n f ds t = some o) : ds.length = n := by
  unfold runF at h
  split at h
  · assumption
  · cases h
section
variable {Z : Wd} {C : Fx Z} {X : Cx}
theorem cD_min (hc : X.calm = true) : CallD Z X (.builtin "min") minD := by
  intro pins s σ H xs us Q I r h
  obtain ⟨O, ds, z, hO, sh, e, q⟩ := h
  unfold minD at e
  split at e
  · exact cD_minL hc pins s σ H xs us Q I r ⟨O, _, z, hO, sh, e, q⟩
  · split at e
    · rename_i n ns e1
      cases e
      cases intsD_of e1
      cases sh with
      | cons sx sr =>
        cases sr
        obtain ⟨a, ys, rfl, h1, c1, _⟩ := sx.tup
        cases c1.ints
        obtain ⟨its, rv, ht, _⟩ := I.tuple (SqT.of h1)
        obtain ⟨zs, e2, e3, e4, e5⟩ := ints_items rv.ints
        rw [Vals.ref1 r]
        have ht : s.heap.IsTuple a its.toArray := ht
        rw [e2] at ht
        refine min_intTup (I.ok.hd hc) ht (by rw [e3]; simp) fun v h' tk hv hk => ?_
        obtain ⟨t, rfl⟩ := intItems_at hv
        obtain ⟨h1, h2⟩ := argBest_lt (numAt zs) (zs.size - 1)
        refine ⟨.int _, H, I.kept hk, ⟨_, rfl⟩, ?_⟩
        have hm : numAt zs (argBest (fun i j => decide (numAt zs i < numAt zs j)) (zs.size - 1)) = minL (n :: ns) := by
          refine Int.le_antisymm ?_ ?_
          · have hmem := minL_mem (xs := n :: ns) (by simp)
            rw [← e5] at hmem
            obtain ⟨j, hj, ej⟩ := mem_getD hmem
            have := h2 j (by rw [List.length_map, Array.length_toList] at hj; omega)
            rw [e5] at ej
            rw [numAt_eq zs j, e5] at this
            omega
          · refine minL_le ?_
            rw [← e5, numAt_eq]
            exact PySem.getD_mem (by rw [List.length_map, Array.length_toList]; have : zs.size = (n :: ns).length := e3; simp only [List.length_cons] at this; omega)
        rw [hm]
        exact q _ _ (.same (.int _))
    · cases e
  · cases e
/-! ### isinstance -/
def tyN : D → Option String
  | .non => some "NoneType"
  | .bl _ => some "bool"
  | .int _ => some "int"
  | .str _ => some "str"
  | .tup _ => some "tuple"
  | .lst _ => some "list"
  | .dct _ => some "dict"
  | _ => none
def kinds : List String := ["int", "bool", "str", "list", "tuple", "dict"]
def isA (t T : String) : Bool := t == T || (t == "bool" && T == "int")
def isAny (t : String) : List D → Option Bool
  | [] => some false
  | .ty T :: r => if T ∈ kinds then (isAny t r).map (isA t T || ·) else none
  | _ => none
def isiD : List D → Option (D × Bool)
  | [x, .ty T] => match tyN x with
    | some t => if T ∈ kinds then some (.bl (isA t T), false) else none
    | none => none
  | [x, .tup Ts] => match tyN x with
    | some t => (isAny t Ts).map fun b => (.bl b, false)
    | none => none
  | _ => none
theorem tyN_ok {K : PySem.W.Frag} {O : Addr → Prop} {H : Hp} {v : V} {d : D} {t : String} (s : Shows Z O H v d) (e : tyN d = some t) : TyX K H v (.type t) := by
  unfold tyN at e
  split at e
  · cases e; cases s.non; exact .base .non
  · cases e; cases s.bl; exact .base (.bl _)
  · cases e; cases s.int; exact .base (.int _)
  · cases e; cases s.str; exact .base (.str _)
  · cases e
    obtain ⟨a, xs, rfl, h, _⟩ := s.tup
    exact .base (.tup h)
  · cases e
    obtain ⟨a, xs, rfl, h, _⟩ := s.lst
    exact .base (.lst h)
  · cases e
    obtain ⟨a, xs, rfl, h, _⟩ := s.dct
    exact .base (.dK h)
  · cases e
theorem kit_is {K : PySem.W.Frag} {d : D} {t T : String} (e : tyN d = some t) (h : T ∈ kinds) : PySem.W.kitOne K (.type t) (.type T) = some (isA t T) := by
  have cases6 : ∀ {Pr : String → Prop}, (∀ S ∈ kinds, Pr S) → Pr T := fun z => z T h
  refine kit_ty ?_
  unfold tyN at e
  split at e
  · cases e; exact cases6 (Pr := fun T => kitB "NoneType" T = some (isA "NoneType" T)) (by decide +kernel)
  · cases e; exact cases6 (Pr := fun T => kitB "bool" T = some (isA "bool" T)) (by decide +kernel)
  · cases e; exact cases6 (Pr := fun T => kitB "int" T = some (isA "int" T)) (by decide +kernel)
  · cases e; exact cases6 (Pr := fun T => kitB "str" T = some (isA "str" T)) (by decide +kernel)
  · cases e; exact cases6 (Pr := fun T => kitB "tuple" T = some (isA "tuple" T)) (by decide +kernel)
  · cases e; exact cases6 (Pr := fun T => kitB "list" T = some (isA "list" T)) (by decide +kernel)
  · cases e; exact cases6 (Pr := fun T => kitB "dict" T = some (isA "dict" T)) (by decide +kernel)
  · cases e
theorem kit_any {K : PySem.W.Frag} {O : Addr → Prop} {H : Hp} {d : D} {t : String} (e : tyN d = some t) : ∀ {vs : List V} {Ts : List D} {b : Bool}, DenA Z O H vs Ts → isAny t Ts = some b → ∃ us, Paired ClsV vs us ∧ PySem.W.kitAny K (.type t) us = some b
  | _, [], _, .nil, h => by
    cases h
    exact ⟨[], .nil, kitAny_nil⟩
  | _, T :: Ts, b, .cons hv hr, h => by
    cases T with
    | ty T =>
      unfold isAny at h
      split at h
      · rename_i hT
        obtain ⟨b1, h1, rfl⟩ := Option.map_eq_some_iff.mp h
        obtain ⟨us, p, k⟩ := kit_any e hr h1
        cases (Shows.den hv).ty
        refine ⟨.type T :: us, .cons (.ty T) p, kitAny_cons (kit_is e hT) (fun z => ?_) (fun z => ?_)⟩
        · rw [z, Bool.false_or]
          exact k
        · rw [z, Bool.true_or]
      · cases h
    | _ => simp [isAny] at h
theorem cD_isi : CallD Z X (.builtin "isinstance") isiD := by
  intro pins s σ H xs us Q I r h
  obtain ⟨O, ds, z, hO, sh, e, q⟩ := h
  unfold isiD at e
  split at e
  · split at e
    · rename_i t e1
      split at e
      · rename_i hT
        cases e
        cases sh with
        | cons sx sr => cases sr with
          | cons sy sr =>
            cases sr
            cases sy.ty
            exact call_isi pins s σ H _ us Q I r ⟨_, .ty _, .type t, .type _, _, rfl, .ty _, tyN_ok sx e1, kit_is e1 hT, q _ _ (.same (.bl _))⟩
      · cases e
    · cases e
  · split at e
    · rename_i t e1
      obtain ⟨b, e2, rfl⟩ := Option.map_eq_some_iff.mp e
      cases sh with
      | cons sx sr => cases sr with
        | cons sy sr =>
          cases sr
          obtain ⟨a, ys, rfl, h1, c1, _⟩ := sy.tup
          obtain ⟨ws, p, k⟩ := kit_any e1 c1 e2
          exact call_isiT pins s σ H _ us Q I r ⟨_, a, ys, .type t, ws, b, rfl, h1, p, tyN_ok sx e1, k, q _ _ (.same (.bl _))⟩
    · cases e
  · cases e

/-! ### in, not in -/
def isStrD : D → Bool
  | .str _ => true
  | _ => false
def isT (x : Str) : D → Bool
  | .str y => decide (y = x)
  | _ => false
/-- a tuple, a list or a dict is no text -/
def inX : D → List D → Option (D × Bool)
  | .tup _, ds => if ds.all isStrD = true then some (.bl false, false) else none
  | .lst _, ds => if ds.all isStrD = true then some (.bl false, false) else none
  | .dct _, ds => if ds.all isStrD = true then some (.bl false, false) else none
  | .str x, ds => if ds.all isStrD = true then some (.bl (ds.any (isT x)), false) else none
  | _, _ => none
def inD : D → D → Option (D × Bool)
  | x, .lst ds => if okD 63 x = true ∧ okAll 63 ds = true then some (.bl (ds.any fun z => eqB z x), false) else none
  | x, .tup ds => if okD 63 x = true ∧ okAll 63 ds = true then some (.bl (ds.any fun z => eqB z x), false) else inX x ds
  | _, _ => none
def notInD : D → D → Option (D × Bool)
  | x, .lst ds => if okD 63 x = true ∧ okAll 63 ds = true then some (.bl (!ds.any fun z => eqB z x), false) else none
  | x, .tup ds => if okD 63 x = true ∧ okAll 63 ds = true then some (.bl (!ds.any fun z => eqB z x), false) else none
  | _, _ => none
def rInTD (K : PySem.W.Frag) : R2 := fun x y H Q => ∃ d ds, Dp K H x d ∧ Dp K H y (.tuple ds) ∧ SeqAt.shaped d = true ∧ SeqAt.shaped (.tuple ds) = true ∧ Q (.bl (ds.any fun z => PyData.eqv z d)) H
def rNotInTD (K : PySem.W.Frag) : R2 := fun x y H Q => ∃ d ds, Dp K H x d ∧ Dp K H y (.tuple ds) ∧ SeqAt.shaped d = true ∧ SeqAt.shaped (.tuple ds) = true ∧ Q (.bl (!ds.any fun z => PyData.eqv z d)) H
theorem op_inTD {X : Cx} (hu : X.A.units + 65 < cLine) : OpR X (compareOp .In) (rInTD X.K) := by
  intro pins s σ H x y v u Q I rx ry h
  obtain ⟨d, ds, hd, he, sd, se, q⟩ := h
  obtain ⟨as, r1⟩ := Dp.reads I d x v hd rx
  obtain ⟨bs, r2⟩ := Dp.reads I (.tuple ds) y u he ry
  exact SeqAt.in_tuple_reads r2 r1 (by have := SeqAt.canLay_of_shaped se; simpa [PyData.canLay0] using this) (SeqAt.canLay_of_shaped sd) (room_in_shaped sd hu) ⟨.bl _, H, I, rfl, q⟩
theorem op_notInTD {X : Cx} (hu : X.A.units + 65 < cLine) : OpR X (compareOp .NotIn) (rNotInTD X.K) := by
  intro pins s σ H x y v u Q I rx ry h
  obtain ⟨d, ds, hd, he, sd, se, q⟩ := h
  obtain ⟨as, r1⟩ := Dp.reads I d x v hd rx
  obtain ⟨bs, r2⟩ := Dp.reads I (.tuple ds) y u he ry
  exact SeqAt.notIn_tuple_reads r2 r1 (by have := SeqAt.canLay_of_shaped se; simpa [PyData.canLay0] using this) (SeqAt.canLay_of_shaped sd) (room_in_shaped sd hu) ⟨.bl _, H, I, rfl, q⟩
mutual
theorem okD_up : ∀ {n m : Nat} {d : D}, n ≤ m → okD n d = true → okD m d = true
  | _, _, .non, _, _ => by simp [okD]
  | _, _, .bl _, _, _ => by simp [okD]
  | _, _, .int _, _, _ => by simp [okD]
  | n, m, .str _, _, h => by cases n <;> cases m <;> simpa [okD] using h
  | 0, _, .tup _, _, h => by simp [okD] at h
  | 0, _, .lst _, _, h => by simp [okD] at h
  | n + 1, 0, .tup _, l, _ => by omega
  | n + 1, 0, .lst _, l, _ => by omega
  | n + 1, m + 1, .tup ds, l, h => by
    simp only [okD] at h ⊢
    exact okAll_up (by omega) h
  | n + 1, m + 1, .lst ds, l, h => by
    simp only [okD] at h ⊢
    exact okAll_up (by omega) h
  | n, _, .dct _, _, h => by cases n <;> simp [okD] at h
  | n, _, .obj _ _, _, h => by cases n <;> simp [okD] at h
  | n, _, .ty _, _, h => by cases n <;> simp [okD] at h
  | n, _, .hnd _, _, h => by cases n <;> simp [okD] at h
  | n, _, .fn _, _, h => by cases n <;> simp [okD] at h
theorem okAll_up : ∀ {n m : Nat} {ds : List D}, n ≤ m → okAll n ds = true → okAll m ds = true
  | _, _, [], _, _ => by simp [okAll]
  | n, m, d :: ds, l, h => by
    simp only [okAll, Bool.and_eq_true] at h ⊢
    exact ⟨okD_up l h.1, okAll_up l h.2⟩
end
theorem pys_any (x : D) : ∀ ds : List D, (pys ds).any (fun z => PyData.eqv z (py x)) = ds.any fun z => eqB z x
  | [] => rfl
  | d :: ds => by
    simp only [pys, List.any_cons, pys_any x ds]
    rfl
section
variable {A : Around} {s : Shared}
theorem rc_str_dict {prog : Program} {w : World} {a : Addr} {cls : Value} {dd : Option Addr} {es : Array DictEntry} {ep : Nat} {sl : Array (Option Value)} (dt : s.TypeIs (.ref a) "dict") (ho : s.heap.get? a = some { cls := cls, dict := dd, data := .dict es ep, slots := sl }) (b : Str) (u : Tok) (hu : A.units < cLine) (E Q : Value → Shared → Prop) (h : Q (.bool false) s) :
    wpAny (model prog w) A (richCompare .Eq (.str b u) (.ref a)) Q E s := by
  refine SeqAt.rc_eq_decline_or (k := false) (typeIs_str s b u) dt (by decide) F.sub_dict_str F.slot_str_eq F.slot_dict_eq_refl ?_ ?_
    (fun _ hq => wpAny_of_eq (rfl : isSame (.str b u) (.ref a) = pure false) hq) (.inr hu) h
  · intro Q' hq
    exact call_meets F.slot_str_eq (typeIs_str s b u) F.entry_str_eq (F.args_str_eq_2 _ _) (str_eq_declines_dict b u a cls es ep dd sl) ⟨ho, hq⟩
  · intro Q' hq
    refine wpAny_call_entry PySem.F.slot_dict_eq_refl dt PySem.F.entry_dict_eq ?_ (PySem.F.args_dict_eq_2 _ _)
    show wpAny _ _ (Builtin.Dict.dictSlotArgs "__eq__" ⟨[.ref a, .str b u], []⟩ >>= _) _ _ s
    refine wpAny_bind ?_
    unfold Builtin.Dict.dictSlotArgs
    refine wpAny_bind (wpAny_notOrdered_dict dt ?_)
    show wpAny _ _ (pure (Value.ref a, Value.str b u)) _ _ s
    refine wpAny_pure ?_
    refine wpAny_bind (wpAny_isInstance (T := "str") (typeIs_str s b u) PySem.F.sub_str_dict ?_)
    simp only [Bool.not_false, if_true]
    refine wpAny_bind (wpAny_rule ?_)
    exact wpAny_pure ⟨_, rfl, hq⟩
end
theorem vals_strs {O : Addr → Prop} {H : Hp} : ∀ {ys : List V} {ds : List D} {its : List Value}, DenA Z O H ys ds → ds.all isStrD = true → Vals ys its → ∀ u ∈ its, ∃ z t, u = Value.str z t
  | _, _, _, .nil, _, .nil => fun u hu => by cases hu
  | _, d :: ds, _, .cons h r, e, .cons rv rr => fun u hu => by
    rw [List.all_cons, Bool.and_eq_true] at e
    rcases List.mem_cons.mp hu with rfl | hu
    · cases d with
      | str x =>
        have := (Shows.den h).str
        subst this
        obtain ⟨t, rfl⟩ := rv
        exact ⟨_, _, rfl⟩
      | _ => simp [isStrD] at e
    · exact vals_strs r e.2 rr u hu
def isTV (x : Str) (u : Value) : Bool := match u with
  | .str y _ => decide (y = x)
  | _ => false
theorem any_strs {O : Addr → Prop} {H : Hp} {x : Str} : ∀ {ys : List V} {ds : List D} {its : List Value}, DenA Z O H ys ds → ds.all isStrD = true → Vals ys its → its.any (isTV x) = ds.any (isT x)
  | _, _, _, .nil, _, .nil => rfl
  | _, d :: ds, _, .cons h r, e, .cons rv rr => by
    rw [List.all_cons, Bool.and_eq_true] at e
    rw [List.any_cons, List.any_cons, any_strs r e.2 rr]
    cases d with
    | str y =>
      have := (Shows.den h).str
      subst this
      obtain ⟨t, rfl⟩ := rv
      rfl
    | _ => simp [isStrD] at e
theorem opD_in (hu : X.A.units + 65 < cLine) : OpD Z X (compareOp .In) inD := by
  intro pins s σ H x y v u Q I rx ry h
  obtain ⟨O, dx, dy, z, hO, sx, sy, e, q⟩ := h
  unfold inD at e
  split at e
  · rename_i ds
    split at e
    · rename_i hc
      cases e
      have h1 : okD 64 dx = true := okD_up (by omega) hc.1
      have h2 : okD 64 (.lst ds) = true := by simpa [okD] using hc.2
      have := sy.dp (K := X.K) h2
      simp only [py] at this
      have sh := okD_shaped h2
      simp only [py] at sh
      exact op_inD hu pins s σ H _ _ v u Q I rx ry ⟨_, _, sx.dp h1, this, okD_shaped h1, sh, by rw [pys_any]; exact q _ _ (.same (.bl _))⟩
    · cases e
  · rename_i ds
    split at e
    · rename_i hc
      cases e
      have h1 : okD 64 dx = true := okD_up (by omega) hc.1
      have h2 : okD 64 (.tup ds) = true := by simpa [okD] using hc.2
      have := sy.dp (K := X.K) h2
      simp only [py] at this
      have sh := okD_shaped h2
      simp only [py] at sh
      exact op_inTD hu pins s σ H _ _ v u Q I rx ry ⟨_, _, sx.dp h1, this, okD_shaped h1, sh, by rw [pys_any]; exact q _ _ (.same (.bl _))⟩
    · unfold inX at e
      have hin : X.A.in1.units < cLine := by
        have : X.A.in1.units ≤ X.A.units + 1 := Nat.le_refl _
        omega
      have no : ∀ its : List Value, (its.toArray.any fun _ => false) = false := fun its => by simp
      split at e
      · split at e
        · rename_i he
          cases e
          obtain ⟨a, xs, rfl, h1, c1, _⟩ := sx.tup
          obtain ⟨b, ys, rfl, h2, c2, _⟩ := sy.tup
          cases (show v = Value.ref a from rx)
          cases (show u = Value.ref b from ry)
          obtain ⟨its1, r1, pl1, _⟩ := I.tuple (SqT.of h1)
          obtain ⟨its, r, pl, _⟩ := I.tuple (SqT.of h2)
          refine SeqAt.in_tupleAt (fun _ => false) pl (fun y hy => ?_) (by rw [no]; exact ⟨.bl false, H, I, rfl, q _ _ (.same (.bl _))⟩)
          obtain ⟨z, t, rfl⟩ := vals_strs c2 he r y (by simpa using hy)
          exact SeqAt.EqAt.str_tuple z t pl1 hin
        · cases e
      · split at e
        · rename_i he
          cases e
          obtain ⟨a, xs, rfl, h1, c1⟩ := sx.lst
          obtain ⟨b, ys, rfl, h2, c2, _⟩ := sy.tup
          cases (show v = Value.ref a from rx)
          cases (show u = Value.ref b from ry)
          obtain ⟨its1, r1, pl1, _⟩ := I.list (SqL.of h1)
          obtain ⟨its, r, pl, _⟩ := I.tuple (SqT.of h2)
          refine SeqAt.in_tupleAt (fun _ => false) pl (fun y hy => ?_) (by rw [no]; exact ⟨.bl false, H, I, rfl, q _ _ (.same (.bl _))⟩)
          obtain ⟨z, t, rfl⟩ := vals_strs c2 he r y (by simpa using hy)
          exact SeqAt.EqAt.str_list z t pl1.isList hin
        · cases e
      · split at e
        · rename_i he
          cases e
          obtain ⟨a, xs, rfl, h1, c1⟩ := sx.dct
          obtain ⟨b, ys, rfl, h2, c2, _⟩ := sy.tup
          cases (show v = Value.ref a from rx)
          cases (show u = Value.ref b from ry)
          obtain ⟨_, ya, va, ra, da⟩ := (show ObjOk X.prog X.w H s.heap a (.dK xs) from I.hok a _ h1)
          obtain ⟨its, r, pl, _⟩ := I.tuple (SqT.of h2)
          refine SeqAt.in_tupleAt (fun _ => false) pl (fun y hy => ?_) (by rw [no]; exact ⟨.bl false, H, I, rfl, q _ _ (.same (.bl _))⟩)
          obtain ⟨z, t, rfl⟩ := vals_strs c2 he r y (by simpa using hy)
          intro prog w E Q' hq
          unfold eqBool
          refine wpAny_holding ?_
          refine wpAny_ite_split (fun hab => absurd (eq_of_beq hab) nofun) (fun _ => ?_)
          obtain ⟨⟨cls, dd, data, sl⟩, es, ep, ho, ex, hd, _⟩ := id da
          simp only at hd
          subst hd
          exact wpAny_bind (rc_str_dict da.typeIs ho z t hin E _ (wpAny_truthy_bool hq))
        · cases e
      · rename_i x _
        split at e
        · rename_i he
          cases e
          cases sx.str
          obtain ⟨b, ys, rfl, h2, c2, _⟩ := sy.tup
          obtain ⟨tk, rfl⟩ := rx
          cases (show u = Value.ref b from ry)
          obtain ⟨its, r, pl, _⟩ := I.tuple (SqT.of h2)
          refine SeqAt.in_tupleAt (isTV x) pl (fun y hy => ?_) (by rw [List.any_toArray, any_strs c2 he r]; exact ⟨.bl _, H, I, rfl, q _ _ (.same (.bl _))⟩)
          obtain ⟨z, t, rfl⟩ := vals_strs c2 he r y (by simpa using hy)
          have h3 := SeqAt.EqAt.str_str (A := X.A.in1) (s := s) z t x tk
          have h4 : isTV x (.str z t) = (z == x) := by
            simp only [isTV]
            by_cases q : z = x
            · subst q; simp
            · simp [q]
          rw [h4]
          exact h3
        · cases e
      · cases e
  · cases e
theorem opD_notIn (hu : X.A.units + 65 < cLine) : OpD Z X (compareOp .NotIn) notInD := by
  intro pins s σ H x y v u Q I rx ry h
  obtain ⟨O, dx, dy, z, hO, sx, sy, e, q⟩ := h
  unfold notInD at e
  split at e
  · rename_i ds
    split at e
    · rename_i hc
      cases e
      have h1 : okD 64 dx = true := okD_up (by omega) hc.1
      have h2 : okD 64 (.lst ds) = true := by simpa [okD] using hc.2
      have := sy.dp (K := X.K) h2
      simp only [py] at this
      have sh := okD_shaped h2
      simp only [py] at sh
      exact op_notInD hu pins s σ H _ _ v u Q I rx ry ⟨_, _, sx.dp h1, this, okD_shaped h1, sh, by rw [pys_any]; exact q _ _ (.same (.bl _))⟩
    · cases e
  · rename_i ds
    split at e
    · rename_i hc
      cases e
      have h1 : okD 64 dx = true := okD_up (by omega) hc.1
      have h2 : okD 64 (.tup ds) = true := by simpa [okD] using hc.2
      have := sy.dp (K := X.K) h2
      simp only [py] at this
      have sh := okD_shaped h2
      simp only [py] at sh
      exact op_notInTD hu pins s σ H _ _ v u Q I rx ry ⟨_, _, sx.dp h1, this, okD_shaped h1, sh, by rw [pys_any]; exact q _ _ (.same (.bl _))⟩
    · cases e
  · cases e

/-! ### y = [..] -/
end
end FD

/-! F16: repr of lists and tuples of data. -/
namespace FD
open PySem PySem.Spec PyProof.Rows L2
mutual
inductive Hq (H : Hp) : V → PyData → Prop
  | non : Hq H .non .none
  | bl (b : Bool) : Hq H (.bl b) (.bool b)
  | int (i : Int) : Hq H (.int i) (.int i)
  | str (x : Str) : Hq H (.str x) (.str x)
  | tup {a : Addr} {xs : List V} {ds : List PyData} : H a = some (.tup xs) → HqAll H xs ds → Hq H (.ref a) (.tuple ds)
  | lst {a : Addr} {xs : List V} {ds : List PyData} : H a = some (.lst xs) → HqAll H xs ds → Hq H (.ref a) (.list ds)
  | dct {a : Addr} : H a = some (.dK []) → Hq H (.ref a) (.dict [])
inductive HqAll (H : Hp) : List V → List PyData → Prop
  | nil : HqAll H [] []
  | cons {v : V} {vs : List V} {d : PyData} {ds : List PyData} : Hq H v d → HqAll H vs ds → HqAll H (v :: vs) (d :: ds)
end
section
variable {X : Cx} {pins : List (Addr × Obj)} {σ : L2.St} {H : Hp} {s : Shared}
theorem dict0 (I : Inv X pins σ H s) {a : Addr} (h : H a = some (.dK [])) : (a == sysModules) = false ∧ ∃ o n, s.heap.get? a = some o ∧ o.cls = .type "dict" ∧ o.data = .dict #[] n := by
  obtain ⟨_, ns, kvs, rel, o, es, ep, e1, e2, e3, e4, e5, _⟩ := (show ObjOk X.prog X.w H s.heap a (.dK []) from I.hok a _ h)
  cases rel
  have e6 : es.toList = [] := by
    cases hq : es.toList with
    | nil => rfl
    | cons x r =>
      rw [hq] at e5
      cases e5
  obtain ⟨l⟩ := es
  have e7 : l = [] := e6
  subst e7
  exact ⟨ns, o, ep, e1, e2.1, e3⟩
/-- what repr gives of a value -/
def ShowsQ (X : Cx) (s : Shared) (u : Value) (d : PyData) : Prop := ∃ as bs, Reads s.heap u d as ∧ ReadAtMost s.heap d.depth bs ∧ ReprK X.prog X.w bs s.heap d.depth u d.shown
def ShowsQA (X : Cx) (s : Shared) (us : List Value) (ds : List PyData) : Prop := ∃ as bs, ReadsAll s.heap us ds as ∧ ReadAtMost s.heap (PyData.depthAll ds) bs ∧ ReprAllK X.prog X.w bs s.heap (PyData.depthAll ds) us (PyData.shownAll ds)
mutual
theorem Hq.shows (I : Inv X pins σ H s) : ∀ (d : PyData) (v : V) (u : Value), Hq H v d → RelV v u → d.showable = true → d.shown.length ≤ sizeLine → ShowsQ X s u d
  | .none, _, _, h, r, _, _ => by
    cases h
    cases r
    exact ⟨_, [], .none, (fun _ z => nomatch z), by simp only [PyData.shown]; exact .of_is ReprIs.none _ _ _⟩
  | .bool b, _, _, h, r, _, _ => by
    cases h
    cases r
    exact ⟨_, [], .bool b, (fun _ z => nomatch z), by simp only [PyData.shown]; exact .of_is (ReprIs.bool b) _ _ _⟩
  | .int i, _, _, h, r, hs, _ => by
    cases h
    obtain ⟨t, rfl⟩ := r
    exact ⟨_, [], .int i t, (fun _ z => nomatch z), by simp only [PyData.shown]; exact .of_is (ReprIs.int t (by simpa [PyData.showable] using hs)) _ _ _⟩
  | .str x, _, _, h, r, _, hz => by
    cases h
    obtain ⟨t, rfl⟩ := r
    exact ⟨_, [], .str x t, (fun _ z => nomatch z), by simp only [PyData.shown]; exact .of_is (ReprIs.str x t (by simpa only [PyData.shown] using hz)) _ _ _⟩
  | .list ds, _, _, h, r, hs, hz => by
    cases h with
    | @lst a xs _ e k =>
      cases r
      obtain ⟨_, its, n, rv, ho⟩ := (show ObjOk X.prog X.w H s.heap a (.lst xs) from I.hok a _ e)
      have hz2 : (listText (PyData.shownAll ds)).length ≤ sizeLine := by simpa only [PyData.shown] using hz
      obtain ⟨as, bs, rd, rm, kk⟩ := HqAll.shows I ds xs its k rv (by simpa [PyData.showable] using hs) fun t ht => Nat.le_trans (listText_mem_le ht) hz2
      have whole : Reads s.heap (.ref a) (.list ds) _ := .list (vs := its.toArray) ho rfl rfl (by simpa using rd)
      have out : a ∉ bs := not_mem_of_deeper whole (by simp only [PyData.depth]; omega) rm
      refine ⟨_, a :: bs, whole, ReadAtMost.cons whole (by simp only [PyData.depth]; omega) rm, ?_⟩
      simp only [PyData.depth, PyData.shown]
      cases its with
      | nil =>
        cases rd
        simp only [PyData.shownAll, listText_nil]
        exact ReprK.listEmpty ho rfl rfl
      | cons y l => exact ReprK.list ho rfl rfl out (by simpa using kk.length_eq) fun i z ez => kk.item i z (by simpa using ez)
  | .tuple ds, _, _, h, r, hs, hz => by
    cases h with
    | @tup a xs _ e k =>
      cases r
      obtain ⟨_, its, rv, o, ho, hc, n, hd⟩ := (show ObjOk X.prog X.w H s.heap a (.tup xs) from I.hok a _ e)
      have hz2 : (tupleText (PyData.shownAll ds)).length ≤ sizeLine := by simpa only [PyData.shown] using hz
      obtain ⟨as, bs, rd, rm, kk⟩ := HqAll.shows I ds xs its k rv (by simpa [PyData.showable] using hs) fun t ht => Nat.le_trans (tupleText_mem_le ht) hz2
      have whole : Reads s.heap (.ref a) (.tuple ds) _ := .tuple (vs := its.toArray) ho hc hd (by simpa using rd)
      have out : a ∉ bs := not_mem_of_deeper whole (by simp only [PyData.depth]; omega) rm
      refine ⟨_, a :: bs, whole, ReadAtMost.cons whole (by simp only [PyData.depth]; omega) rm, ?_⟩
      simp only [PyData.depth, PyData.shown]
      exact ReprK.tuple ho hc hd out (by simpa using kk)
  | .dict kvs, _, _, h, r, hs, hz => by
    cases h with
    | @dct a e =>
      cases r
      obtain ⟨ns, o, n, ho, hc, hd⟩ := dict0 I e
      have whole : Reads s.heap (.ref a) (.dict []) _ := .dict (es := #[]) ho hc hd .nil .nil
      refine ⟨_, a :: [], whole, ReadAtMost.cons whole (Nat.zero_le _) (fun _ z => nomatch z), ?_⟩
      simp only [PyData.depth, PyData.shown, PyData.shownKv_eq]
      exact ReprK.dict ho hc hd ns (by simp) (ReprEntriesK.of_two [] [] [] .nil .nil)
theorem HqAll.shows (I : Inv X pins σ H s) : ∀ (ds : List PyData) (vs : List V) (us : List Value), HqAll H vs ds → Vals vs us → PyData.showableAll ds = true → (∀ t ∈ PyData.shownAll ds, t.length ≤ sizeLine) → ShowsQA X s us ds
  | [], _, _, h, r, _, _ => by
    cases h
    cases r
    exact ⟨_, [], .nil, (fun _ z => nomatch z), by simp only [PyData.shownAll]; exact .nil⟩
  | d :: ds, _, _, h, r, hs, hz => by
    cases h with
    | cons h1 h2 =>
      cases r with
      | cons r1 r2 =>
        have hs2 : d.showable = true ∧ PyData.showableAll ds = true := by simpa [PyData.showableAll] using hs
        obtain ⟨as1, bs1, q1, m1, k1⟩ := Hq.shows I d _ _ h1 r1 hs2.1 (hz _ (by simp only [PyData.shownAll]; exact List.mem_cons_self))
        obtain ⟨as2, bs2, q2, m2, k2⟩ := HqAll.shows I ds _ _ h2 r2 hs2.2 fun t ht => hz t (by simp only [PyData.shownAll]; exact List.mem_cons_of_mem _ ht)
        refine ⟨_, bs1 ++ bs2, .cons q1 q2, ?_, ?_⟩
        · simp only [PyData.depthAll]
          exact (m1.mono (Nat.le_max_left _ _)).append (m2.mono (Nat.le_max_right _ _))
        · simp only [PyData.depthAll, PyData.shownAll]
          exact .cons ((k1.more fun b z => List.mem_append_left _ z).level_le (Nat.le_max_left _ _)) (k2.more_le (fun b z => List.mem_append_right _ z) (Nat.le_max_right _ _))
end
end
section
variable {X : Cx}
/-- repr(x) of a list or a tuple -/
def rRepr : List V → Hp → VK → Prop := fun xs H Q => ∃ (v : V) (ds : List PyData) (d : PyData), (d = .list ds ∨ d = .tuple ds) ∧ xs = [v] ∧ Hq H v d ∧ d.showable = true ∧ d.depth ≤ 60 ∧ d.shown.length ≤ sizeLine ∧ Q (.str d.shown) H
theorem call_repr (hG : X.A.guards = some []) (hu : X.A.units + 64 < cLine) : CallR X (.builtin "repr") rRepr := by
  intro pins s σ H xs us Q I r h
  obtain ⟨v, ds, d, hd, rfl, hv, hs, hdp, hz, q⟩ := h
  obtain ⟨u, rfl, ru⟩ := vals1 r
  rcases hd with rfl | rfl
  · cases hv with
    | @lst a xs _ e k =>
      cases ru
      obtain ⟨_, its, n, rv, ho⟩ := (show ObjOk X.prog X.w H s.heap a (.lst xs) from I.hok a _ e)
      have hz2 : (listText (PyData.shownAll ds)).length ≤ sizeLine := by simpa only [PyData.shown] using hz
      obtain ⟨as, bs, rd, rm, kk⟩ := HqAll.shows I ds xs its k rv (by simpa [PyData.showable] using hs) fun t ht => Nat.le_trans (listText_mem_le ht) hz2
      have whole : Reads s.heap (.ref a) (.list ds) _ := .list (vs := its.toArray) ho rfl rfl (by simpa using rd)
      have out : a ∉ bs := not_mem_of_deeper whole (by simp only [PyData.depth]; omega) rm
      have e1 : (PyData.list ds).depth = PyData.depthAll ds + 1 := by simp only [PyData.depth]
      have e2 : (PyData.list ds).shown = listText (PyData.shownAll ds) := by simp only [PyData.shown]
      rw [e2] at q
      refine call_repr_slot (by omega) ⟨_, ho, rfl⟩ F.slot_list_repr.toG ?_
      cases its with
      | nil =>
        cases rd
        simp only [PyData.shownAll, listText_nil] at q
        exact call_list_repr_empty ⟨_, ho, rfl⟩ ho rfl ⟨_, _, rfl, .str _, H, I.tok _, ⟨_, rfl⟩, q⟩
      | cons y l =>
        exact call_list_reprK (A := X.A.in1) ho rfl rfl out (by simpa using kk.length_eq) (fun i z ez => kk.item i z (by simpa using ez)) hG (fun b _ => Clear.nil b) (by show X.A.units + 1 + _ < cLine; omega) (fun _ _ z => z)
          (fun h' u' tk hk => ⟨_, _, rfl, .str _, H, I.kept hk, ⟨_, rfl⟩, q⟩) hz2
  · cases hv with
    | @tup a xs _ e k =>
      cases ru
      obtain ⟨_, its, rv, o, ho, hc, n, hd⟩ := (show ObjOk X.prog X.w H s.heap a (.tup xs) from I.hok a _ e)
      have hz2 : (tupleText (PyData.shownAll ds)).length ≤ sizeLine := by simpa only [PyData.shown] using hz
      obtain ⟨as, bs, rd, rm, kk⟩ := HqAll.shows I ds xs its k rv (by simpa [PyData.showable] using hs) fun t ht => Nat.le_trans (tupleText_mem_le ht) hz2
      have whole : Reads s.heap (.ref a) (.tuple ds) _ := .tuple (vs := its.toArray) ho hc hd (by simpa using rd)
      have out : a ∉ bs := not_mem_of_deeper whole (by simp only [PyData.depth]; omega) rm
      have e1 : (PyData.tuple ds).depth = PyData.depthAll ds + 1 := by simp only [PyData.depth]
      have e2 : (PyData.tuple ds).shown = tupleText (PyData.shownAll ds) := by simp only [PyData.shown]
      rw [e2] at q
      refine call_repr_slot (by omega) ⟨_, ho, hc⟩ F.slot_tuple_repr ?_
      exact call_tuple_reprK (A := X.A.in1) ho hc hd out (by simpa using kk) hG (fun b _ => Clear.nil b) (by show X.A.units + 1 + _ < cLine; omega) (fun _ _ z => z)
        (fun h' u' tk hk => ⟨_, _, rfl, .str _, H, I.kept hk, ⟨_, rfl⟩, q⟩) hz2
end
end FD

namespace FD
open PySem PySem.Spec PyProof.Rows L2
mutual
/-- a datum's text is that of this one -/
def pq : D → Option PyData
  | .non => some .none
  | .bl b => some (.bool b)
  | .int i => some (.int i)
  | .str x => some (.str x)
  | .tup ds => (pqs ds).map .tuple
  | .lst ds => (pqs ds).map .list
  | .dct [] => some (.dict [])
  | _ => none
def pqs : List D → Option (List PyData)
  | [] => some []
  | d :: ds => match pq d, pqs ds with
    | some a, some b => some (a :: b)
    | _, _ => none
end
section
variable {Z : Wd} {O : Addr → Prop} {H : Hp}
mutual
theorem Den.hq : ∀ {v : V} {d : D}, Den Z O H v d → ∀ {p : PyData}, pq d = some p → Hq H v p
  | _, _, .non => fun e => by simp only [pq] at e; cases e; exact .non
  | _, _, .bl b => fun e => by simp only [pq] at e; cases e; exact .bl b
  | _, _, .int i => fun e => by simp only [pq] at e; cases e; exact .int i
  | _, _, .str x => fun e => by simp only [pq] at e; cases e; exact .str x
  | _, _, .ty x => fun h => by simp [pq] at h
  | _, _, .hnd x => fun h => by simp [pq] at h
  | _, _, .fn x => fun h => by simp [pq] at h
  | _, _, .ref e m c => fun h => Cont.hq c e h
theorem Cont.hq : ∀ {o : HO} {d : D}, Cont Z O H o d → ∀ {a : Addr} {p : PyData}, H a = some o → pq d = some p → Hq H (.ref a) p
  | _, _, .tup c => fun e h => by
    simp only [pq] at h
    obtain ⟨qs, h1, rfl⟩ := Option.map_eq_some_iff.mp h
    exact .tup e (DenA.hq c h1)
  | _, _, .lst c => fun e h => by
    simp only [pq] at h
    obtain ⟨qs, h1, rfl⟩ := Option.map_eq_some_iff.mp h
    exact .lst e (DenA.hq c h1)
  | _, _, .dct c => fun e h => by
    cases c with
    | nil =>
      simp only [pq] at h
      cases h
      exact .dct e
    | cons _ _ => simp [pq] at h
  | _, _, .obj c => fun e h => by simp [pq] at h
theorem DenA.hq : ∀ {vs : List V} {ds : List D}, DenA Z O H vs ds → ∀ {ps : List PyData}, pqs ds = some ps → HqAll H vs ps
  | _, _, .nil => fun e => by
    simp only [pqs] at e
    cases e
    exact .nil
  | _, _, .cons q r => fun e => by
    simp only [pqs] at e
    split at e
    · rename_i p1 p2
      cases e
      exact .cons (Den.hq q p1) (DenA.hq r p2)
    · cases e
end
end
/-- what repr can be asked of -/
def Shown (p : PyData) : Prop := p.showable = true ∧ p.depth ≤ 60 ∧ p.shown.length ≤ sizeLine
instance (p : PyData) : Decidable (Shown p) := inferInstanceAs (Decidable (_ ∧ _ ∧ _))
def isSeq : PyData → Bool
  | .list _ => true
  | .tuple _ => true
  | _ => false
def reprD : List D → Option (D × Bool)
  | [x] => match pq x with
    | some p => if isSeq p = true ∧ Shown p then some (.str p.shown, false) else none
    | none => none
  | _ => none
theorem Shows.hq {Z : Wd} {O : Addr → Prop} {H : Hp} {v : V} {d : D} {p : PyData} (s : Shows Z O H v d) (e : pq d = some p) : Hq H v p := by
  cases s with
  | den s => exact s.hq e
  | own h _ c => exact c.hq h e
theorem cD_repr {Z : Wd} {X : Cx} (hG : X.A.guards = some []) (hu : X.A.units + 64 < cLine) : CallD Z X (.builtin "repr") reprD := by
  intro pins s σ H xs us Q I r h
  obtain ⟨O, ds, z, hO, sh, e, q⟩ := h
  unfold reprD at e
  split at e
  · split at e
    · rename_i p e1
      split at e
      · rename_i hp
        cases e
        cases sh with
        | cons sx sr =>
          cases sr
          have : ∃ ds : List PyData, p = .list ds ∨ p = .tuple ds := by
            obtain ⟨h1, _⟩ := hp
            unfold isSeq at h1
            split at h1
            · exact ⟨_, .inl rfl⟩
            · exact ⟨_, .inr rfl⟩
            · cases h1
          obtain ⟨ps, hps⟩ := this
          exact call_repr hG hu pins s σ H _ us Q I r ⟨_, ps, p, hps, rfl, sx.hq e1, hp.2.1, hp.2.2.1, hp.2.2.2, q _ _ (.same (.str _))⟩
      · cases e
    · cases e
  · cases e
end FD

/-! F17: sorted of ints, by reverse; list(range(..)), tuple(range(..)). -/
namespace FD
open PySem PySem.Spec PyProof.Rows L2
/-! ### sorted of a tuple -/
section
variable {prog : Program} {w : World} {A : Around} {E : Value → Shared → Prop} {s : Shared}
end
section
variable {X : Cx}
end
/-! ### one order of ints -/
def sortUp (ns : List Int) : List Int := ns.mergeSort fun a b => decide (a ≤ b)
def sortDown (ns : List Int) : List Int := ns.mergeSort fun a b => decide (b ≤ a)
section
variable {Z : Wd} {C : Fx Z} {X : Cx}
def sortOf (b : Bool) (ns : List Int) : List Int := if b = true then sortDown ns else sortUp ns
/-- sorted of ints, of a list or a tuple -/
def sortBD (b : Bool) : List D → Option (D × Bool)
  | [.lst ds] => (intsD ds).map fun ns => (.lst ((sortOf b ns).map D.int), true)
  | [.tup ds] => (intsD ds).map fun ns => (.lst ((sortOf b ns).map D.int), true)
  | _ => none
/-! ### list(range(..)), tuple(range(..)) -/
def lrng1F {T : Type} (f : EF T) : EF T := bindF f fun r => doneF fun τ => match peek τ (hold r) with
  | some (.int n) => if n ≤ LEN ∧ small n = true then some (.lst (rngL 0 n), true) else none
  | _ => none
def trng1F {T : Type} (f : EF T) : EF T := bindF f fun r => doneF fun τ => match peek τ (hold r) with
  | some (.int n) => if n ≤ LEN ∧ small n = true then some (.tup (rngL 0 n), false) else none
  | _ => none
theorem den_rg {O : Addr → Prop} {H : Hp} (a b : Int) : DenA Z O H (rgV a b) (rngL a b) := by
  unfold rgV rngL
  induction (List.range (b - a).toNat) with
  | nil => exact .nil
  | cons k r ih => exact .cons (.int _) ih
theorem rg_ok {n : Int} (h : n ≤ LEN ∧ small n = true) : RgOk 0 n := by
  obtain ⟨h1, h2⟩ := h
  unfold small at h2
  have h2 := of_decide_eq_true h2
  unfold RgOk
  simp only [LEN] at h1
  exact ⟨by omega, by omega, by omega, by omega, by omega⟩
theorem ev_lrng1 {f : EF Z.T} {p pos p2 pos2 : Pos} {a : Expr} (hc : X.calm = true) (hg : Gl X "list") (hm : X.mg "list" = none) (hg2 : Gl X "range") (hm2 : X.mg "range" = none) (ha : PE X a (tF C f))
    (n1 : starEach [a] X.env = (false, eval a X.env) :: starEach [] X.env := by rfl) (n2 : starEach [.Call (.Name "range" p2) [a] [] pos2] X.env = (false, eval (.Call (.Name "range" p2) [a] [] pos2) X.env) :: starEach [] X.env := by rfl) :
    PE X (.Call (.Name "list" p) [.Call (.Name "range" p2) [a] [] pos2] [] pos) (tF C (lrng1F f)) :=
  ⟨fun pins s σ H Q I h => (pe_listRg hc hg hm (prg_1 hg2 hm2 ha n1) n2).run pins s σ H Q I (by
    obtain ⟨ow, τ, t, R, h0, h⟩ := h.at_
    refine tF_mono (h.bind R h0) fun x H1 ⟨ow1, τ1, t1, ra, R1, r1, h1, _⟩ => ?_
    obtain ⟨ow2, R2, z2, r2, x2⟩ := r1.hold R1
    obtain ⟨z, e, q⟩ := (h1.from x2).done R2 z2
    split at e
    · rename_i n p1
      split at e
      · rename_i hn
        cases e
        exact ⟨n, (r2.peek R2 p1).int, rg_ok hn, fun l hl => q _ _ (.lst hl (den_rg 0 n))⟩
      · cases e
    · cases e)⟩
end
end FD

/-! F18: the deck as a world: its state, a draw. -/
namespace FD
open PySem PySem.Spec PyProof.Rows L2
structure Dk where
  a : Addr
  l1 : Addr
  l2 : Addr
structure Dk.At (D : Dk) (H : Hp) (c : Nat) (big cells : List Int) : Prop where
  top : H D.a = some (.lst [.ref D.l1, .ref D.l2, .int c])
  one : H D.l1 = some (.lst (big.map V.int))
  two : H D.l2 = some (.lst (cells.map V.int))
  pos : 0 < cells.length
  ne1 : D.a ≠ D.l1
  ne2 : D.a ≠ D.l2
  ne3 : D.l2 ≠ D.l1
structure DS where
  c : Nat
  big : List Int
  cells : List Int
/-- a mixed draw -/
def mixed (m : Int) (c : Nat) (cells : List Int) : Int :=
  let x := (cells[(((c + 1 : Nat) : Int) % (cells.length : Int)).toNat]?.getD 0) % 2147483647
  let y := (x * (16807 + 39373 * ((c + 1 : Nat) : Int)) + 40692 * ((c + 1 : Nat) : Int) * ((c + 1 : Nat) : Int) + 97) % 2147483629
  y * y % 2147483587 / 16 % m
def drawB : List Int → Int → Option (Int × List Int)
  | [], _ => none
  | b :: r, m => if 0 < b then some (b % m, (b / m) :: r) else drawB r m
def DS.draw (m : Int) (s : DS) : Int := match drawB s.big m with
  | some (v, _) => v
  | none => mixed m s.c s.cells
def DS.step (m : Int) (s : DS) : DS := match drawB s.big m with
  | some (_, r) => { s with big := r }
  | none => ⟨s.c + 1, [], s.cells⟩
theorem drawB_in {m : Int} (hm : 0 < m) : ∀ {bs : List Int} {v : Int} {r : List Int}, drawB bs m = some (v, r) → 0 ≤ v ∧ v < m
  | [], _, _, h => by cases h
  | b :: bs, v, r, h => by
    unfold drawB at h
    split at h
    · cases h
      exact ⟨Int.emod_nonneg _ (by omega), Int.emod_lt_of_pos _ hm⟩
    · exact drawB_in hm h
theorem DS.draw_in {m : Int} (hm : 0 < m) (s : DS) : 0 ≤ s.draw m ∧ s.draw m < m := by
  unfold DS.draw
  split
  · rename_i p
    exact drawB_in hm p
  · unfold mixed
    exact ⟨Int.emod_nonneg _ (by omega), Int.emod_lt_of_pos _ hm⟩
theorem DS.step_c {m : Int} {s : DS} : (s.step m).c ≤ s.c + 1 := by
  unfold DS.step
  split
  · exact Nat.le_succ _
  · exact Nat.le_refl _
/-- the world with a deck at A -/
def Zdk (A : Dk) (ca : Str → Addr) (fv : Nat → V := fun _ => .non) : Wd where
  T := DS
  On := fun s _ H => A.At H s.c s.big s.cells
  hid := fun a => a = A.a ∨ a = A.l1 ∨ a = A.l2
  val := fun _ => .ref A.a
  fv := fv
  ca := ca
  loc := fun t O O' H H' d _ k => ⟨k _ _ (.inl (.inl rfl)) d.top, k _ _ (.inl (.inr (.inl rfl))) d.one, k _ _ (.inl (.inr (.inr rfl))) d.two, d.pos, d.ne1, d.ne2, d.ne3⟩
  trk := fun t O H a d h => by
    rcases h with rfl | rfl | rfl
    · exact ⟨_, d.top, nofun⟩
    · exact ⟨_, d.one, nofun⟩
    · exact ⟨_, d.two, nofun⟩
/-- _law_next -/
def FF_q_next : FF DS := fun ds s => match ds with
  | [.hnd _, .int m] => if 0 < m ∧ m < 2 ^ 64 ∧ s.c < 2 ^ 40 then some (.ok (.int (s.draw m)) false, s.step m) else none
  | _ => none
theorem len_q_next {ds : List D} {t : DS} {o : FOut × DS} (h : FF_q_next ds t = some o) : ds.length = 2 := by
  unfold FF_q_next at h
  split at h
  · rfl
  · cases h
theorem den_hnd {A : Dk} {ca : Str → Addr} {fv : Nat → V} {O : Addr → Prop} {H : Hp} {v : V} {n : Nat} (h : Den (Zdk A ca fv) O H v (.hnd n)) : v = .ref A.a := by
  generalize hd : D.hnd n = d at h
  cases h with
  | hnd k => rfl
  | ref e m c => subst hd; cases c
  | _ => cases hd
theorem dp_ints {K : PySem.W.Frag} {H : Hp} : ∀ ns : List Int, DpAll K H (ns.map V.int) (ns.map PyData.int)
  | [] => .nil
  | n :: r => .cons (.int n) (dp_ints r)
theorem lay_ints : ∀ ns : List Int, PyData.canLayAll0 (ns.map PyData.int) = true
  | [] => by simp [PyData.canLayAll0]
  | n :: r => by simp [PyData.canLayAll0, PyData.canLay0, lay_ints r]
theorem deep_ints : ∀ ns : List Int, PyData.depthAll (ns.map PyData.int) = 0
  | [] => by simp [PyData.depthAll]
  | n :: r => by simp [PyData.depthAll, PyData.depth, deep_ints r]
theorem shaped_ints (ns : List Int) : SeqAt.shaped (.list (ns.map PyData.int)) = true := by
  have h1 := lay_ints ns
  have h2 := deep_ints ns
  unfold SeqAt.shaped
  simp [PyData.canLay0, PyData.depth, h1, h2]
theorem eqv_nil (ns : List Int) : PyData.eqv (.list (ns.map PyData.int)) (.list []) = ns.isEmpty := by
  cases ns with
  | nil => simp [PyData.eqv, PyData.eqvAll]
  | cons n r => simp [PyData.eqv, PyData.eqvAll]
theorem upd_keep {H : Hp} {p : Addr} {o : HO} (h : H p = none) {b : Addr} {x : HO} (e : H b = some x) : upd H p o b = some x := by
  rw [upd_ne (ne_of_none e h)]
  exact e
theorem Dk.At.new {D : Dk} {H : Hp} {c : Nat} {big cells : List Int} {p : Addr} {o : HO} (d : D.At H c big cells) (h : H p = none) : D.At (upd H p o) c big cells :=
  ⟨upd_keep h d.top, upd_keep h d.one, upd_keep h d.two, d.pos, d.ne1, d.ne2, d.ne3⟩
/-- all stands but what the deck may change -/
def Keep (D : Dk) (H H' : Hp) : Prop := ∀ b x, H b = some x → b ≠ D.a → b ≠ D.l1 → H' b = some x
theorem Keep.rfl' {D : Dk} {H : Hp} : Keep D H H := fun _ _ e _ _ => e
theorem Keep.trans {D : Dk} {H H1 H2 : Hp} (h : Keep D H H1) (k : Keep D H1 H2) : Keep D H H2 := fun b x e n1 n2 => k b x (h b x e n1 n2) n1 n2
theorem Keep.new {D : Dk} {H : Hp} {p : Addr} {o : HO} (h : H p = none) : Keep D H (upd H p o) := fun _ _ e _ _ => upd_keep h e
theorem at0 {α : Type} {x : α} {xs : List α} : atI (x :: xs) 0 = some x := atI_nat (j := 0) rfl
theorem at1 {α : Type} {x y : α} {xs : List α} : atI (x :: y :: xs) 1 = some y := atI_nat (j := 1) rfl
theorem at2 {α : Type} {x y z : α} {xs : List α} : atI (x :: y :: z :: xs) 2 = some z := atI_nat (j := 2) rfl
theorem ix0 {n : Nat} (h : 0 < n) : ixN n 0 = some 0 := by
  unfold ixN
  rw [if_pos (Int.le_refl 0), if_pos (by omega)]
  rfl
theorem ix2 {n : Nat} (h : 2 < n) : ixN n 2 = some 2 := by
  unfold ixN
  rw [if_pos (by decide), if_pos (by omega)]
  rfl
theorem seq0 {n : Nat} (h : 0 < n) : seqIndex? 0 n = some 0 := by
  have := seqIndex_of (k := 0) (n := n) (by omega) (by omega)
  simpa using this
end FD

/-! F20: slices. -/
namespace FD
open PySem PySem.Spec PyProof.Rows L2
def partB (b : Bool) : D → Option (Option Int)
  | .non => if b then none else some none
  | .int i => if b then some (some i) else none
  | _ => none
def partF {T : Type} (b : Bool) (g : EF T) (k : Option Int → EF T) : EF T := bindF g fun r s => match peek s.1 r with
  | none => none
  | some d => match partB b d with
    | none => none
    | some i => k i s
def sl0 (n : Nat) (lo : Option Int) : Nat := HT.sIx n 0 lo
def sl1 (n : Nat) (hi : Option Int) : Nat := HT.sIx n n hi
/-- xs[lo:hi] -/
def cutL {A : Type} (xs : List A) (lo hi : Option Int) : List A := (xs.drop (sl0 xs.length lo)).take (sl1 xs.length hi - sl0 xs.length lo)
def sliceD : D → Option Int → Option Int → Option (D × Bool)
  | .lst ds, lo, hi => some (.lst (cutL ds lo hi), true)
  | .tup ds, lo, hi => some (.tup (cutL ds lo hi), false)
  | _, _, _ => none
def slF {T : Type} (bl bh : Bool) (f g h : EF T) : EF T := bindF f fun ra => partF bl g fun lo => partF bh h fun hi => doneF fun τ => match peek τ (hold ra) with
  | some x => sliceD x lo hi
  | none => none
section
variable {Z : Wd} {C : Fx Z} {X : Cx} {e a b : Expr} {f g h : EF Z.T} {pos p2 : Pos} {lo hi : Option Expr}
theorem Kn.part {ow : Nat → Option Addr} {τ : List Sl} {t : Z.T} {σ : L2.St} {H : Hp} {Q : VK} {bb : Bool} {k : Option Int → EF Z.T} (h : Kn C (partF bb g k) ow τ t σ H Q) (R : C.Rel ow τ t σ H) (h0 : ow 0 = none) :
    FD.tF C g σ H (fun x H1 => ∃ i, (if bb then ∃ n, x = .int n ∧ i = some n else x = .non ∧ i = none) ∧ ∃ ow1 τ1 t1, C.Rel ow1 τ1 t1 σ H1 ∧ ow1 0 = none ∧ Kn C (k i) ow1 τ1 t1 σ H1 Q ∧ Ext (C.Hid ow) H (C.Hid ow1) H1) := by
  unfold partF at h
  refine tF_mono (h.bind R h0) fun x H1 ⟨ow1, τ1, t1, r, R1, r1, ⟨o, s', e, hq⟩, x1⟩ => ?_
  cases p1 : FD.peek τ1 r with
  | none => simp only [p1] at e; cases e
  | some d =>
    cases p2 : partB bb d with
    | none => simp only [p1, p2] at e; cases e
    | some i =>
      simp only [p1, p2] at e
      obtain ⟨ow2, R2, z2, r2, x2⟩ := r1.hold R1
      refine ⟨i, ?_, ow2, τ1, t1, R2, z2, ⟨o, s', e, hq.from x2⟩, x1.trans x2⟩
      have sh := r1.peek R1 p1
      unfold partB at p2
      split at p2
      · cases bb
        · cases p2
          exact ⟨sh.non, rfl⟩
        · cases p2
      · cases bb
        · cases p2
        · cases p2
          exact ⟨_, sh.int, rfl⟩
      · cases p2
theorem DenA.cut {O : Addr → Prop} {H : Hp} {xs : List V} {ds : List D} (c : DenA Z O H xs ds) (l u : Option Int) : DenA Z O H (cutV xs l u) (cutL ds l u) := by
  unfold cutV cutL sl0 sl1
  rw [c.len]
  exact (c.drop _).take _
end
end FD

/-! F21: [::-1] of lists and tuples. -/
namespace FD
open PySem PySem.Spec PyProof.Rows L2 HT
section
variable {prog : Program} {w : World} {A : Around} {E : Value → Shared → Prop} {s : Shared}
end
def revD : D → Option (D × Bool)
  | .lst ds => some (.lst ds.reverse, true)
  | .tup ds => some (.tup ds.reverse, false)
  | _ => none
def revF {T : Type} (f : EF T) : EF T := unF revD f
end FD

/-! F22: running functions of data by simp: each step waits for the one before. -/
namespace FD
open PySem PySem.Spec PyProof.Rows L2
section
variable {T : Type}
/-! ### results -/
def pkS : Option Sl → Option D
  | some (.v d) => some d
  | some (.o d) => some d
  | _ => none
def gvS (i : Nat) (τ : List Sl) : Option Sl → Option (D × List Sl)
  | some (.v d) => some (d, τ)
  | some (.o d) => some (d, τ.set i (.v d))
  | _ => none
def gvB (d : D) : Option (List D × List Sl) → Option (List D × List Sl)
  | some (ds, τ) => some (d :: ds, τ)
  | none => none
def gvA (rs : List Res) : Option (D × List Sl) → Option (List D × List Sl)
  | some (d, τ) => gvB d (giveAll τ rs)
  | none => none
def pkB : Option D → Option (List D) → Option (List D)
  | some d, some ds => some (d :: ds)
  | _, _ => none
theorem q_hold_d {d : D} : hold (.d d) = .d d := (rfl)
theorem q_hold_f {d : D} : hold (.f d) = .d d := (rfl)
theorem q_hold_s {i : Nat} : hold (.s i) = .s i := (rfl)
theorem q_peek_d {τ : List Sl} {d : D} : peek τ (.d d) = some d := (rfl)
theorem q_peek_f {τ : List Sl} {d : D} : peek τ (.f d) = some d := (rfl)
theorem q_peek_s {τ : List Sl} {i : Nat} : peek τ (.s i) = pkS τ[i]? := by
  unfold peek pkS
  rfl
theorem q_pkS_v {d : D} : pkS (some (.v d)) = some d := (rfl)
theorem q_pkS_o {d : D} : pkS (some (.o d)) = some d := (rfl)
theorem q_give_d {τ : List Sl} {d : D} : give τ (.d d) = some (d, τ) := (rfl)
theorem q_give_f {τ : List Sl} {d : D} : give τ (.f d) = some (d, τ) := (rfl)
theorem q_give_s {τ : List Sl} {i : Nat} : give τ (.s i) = gvS i τ τ[i]? := by
  unfold give gvS
  rfl
theorem q_gvS_v {i : Nat} {τ : List Sl} {d : D} : gvS i τ (some (.v d)) = some (d, τ) := (rfl)
theorem q_gvS_o {i : Nat} {τ : List Sl} {d : D} : gvS i τ (some (.o d)) = some (d, τ.set i (.v d)) := (rfl)
theorem q_giveAll_n {τ : List Sl} : giveAll τ [] = some ([], τ) := (rfl)
theorem q_giveAll_c {τ : List Sl} {r : Res} {rs : List Res} : giveAll τ (r :: rs) = gvA rs (give τ r) := by
  unfold giveAll
  cases give τ r with
  | none => rfl
  | some z =>
    unfold gvA
    simp only
    cases giveAll z.2 rs with
    | none => rfl
    | some w => rfl
theorem q_gvA {rs : List Res} {d : D} {τ : List Sl} : gvA rs (some (d, τ)) = gvB d (giveAll τ rs) := (rfl)
theorem q_gvB {d : D} {ds : List D} {τ : List Sl} : gvB d (some (ds, τ)) = some (d :: ds, τ) := (rfl)
theorem q_peekAll_n {τ : List Sl} : peekAll τ [] = some [] := (rfl)
theorem q_peekAll_c {τ : List Sl} {r : Res} {rs : List Res} : peekAll τ (r :: rs) = pkB (peek τ r) (peekAll τ rs) := by
  show (match peek τ r, peekAll τ rs with
    | some d, some ds => some (d :: ds)
    | _, _ => none) = _
  cases peek τ r with
  | none => rfl
  | some d =>
    cases peekAll τ rs with
    | none => rfl
    | some ds => rfl
theorem q_pkB {d : D} {ds : List D} : pkB (some d) (some ds) = some (d :: ds) := (rfl)
theorem q_resOf_t {d : D} : resOf (d, true) = .f d := (rfl)
theorem q_resOf_f {d : D} : resOf (d, false) = .d d := (rfl)
/-! ### expressions -/
def varK (i : Nat) (s : Sg T) : Option Sl → Option (Out × Sg T)
  | some (.v _) => some (.ok (.s i), s)
  | some (.o _) => some (.ok (.s i), s)
  | _ => none
theorem q_var {i : Nat} {τ : List Sl} {t : T} : varF i (τ, t) = varK i (τ, t) τ[i]? := by
  unfold varF varK
  rfl
theorem q_varK_v {i : Nat} {s : Sg T} {d : D} : varK i s (some (.v d)) = some (.ok (.s i), s) := (rfl)
theorem q_varK_o {i : Nat} {s : Sg T} {d : D} : varK i s (some (.o d)) = some (.ok (.s i), s) := (rfl)
theorem q_con {d : D} {s : Sg T} : conF d s = some (.ok (.d d), s) := (rfl)
def bnd (k : Res → EF T) : Option (Out × Sg T) → Option (Out × Sg T)
  | none => none
  | some (.ex c fs, s1) => some (.ex c fs, s1)
  | some (.ok r, s1) => k r s1
def dnO (s : Sg T) : Option (D × Bool) → Option (Out × Sg T)
  | none => none
  | some z => some (.ok (resOf z), s)
def op2 (op : D → D → Option (D × Bool)) : Option D → Option D → Option (D × Bool)
  | some x, some y => op x y
  | _, _ => none
def op1 (op : D → Option (D × Bool)) : Option D → Option (D × Bool)
  | some x => op x
  | _ => none
theorem q_bnd {k : Res → EF T} {r : Res} {s : Sg T} : bnd k (some (.ok r, s)) = k r s := (rfl)
theorem q_dnO {s : Sg T} {z : D × Bool} : dnO s (some z) = some (.ok (resOf z), s) := (rfl)
theorem q_op2 {op : D → D → Option (D × Bool)} {x y : D} : op2 op (some x) (some y) = op x y := (rfl)
theorem q_op1 {op : D → Option (D × Bool)} {x : D} : op1 op (some x) = op x := (rfl)
def binK2 (op : D → D → Option (D × Bool)) (ra rb : Res) : EF T := fun s => dnO s (op2 op (peek s.1 (hold ra)) (peek s.1 (hold rb)))
def binK (op : D → D → Option (D × Bool)) (fb : EF T) (ra : Res) : EF T := fun s => bnd (binK2 op ra) (fb s)
theorem q_bin {op : D → D → Option (D × Bool)} {fa fb : EF T} {s : Sg T} : binF op fa fb s = bnd (binK op fb) (fa s) := (rfl)
theorem q_binK {op : D → D → Option (D × Bool)} {fb : EF T} {ra : Res} {s : Sg T} : binK op fb ra s = bnd (binK2 op ra) (fb s) := (rfl)
theorem q_binK2 {op : D → D → Option (D × Bool)} {ra rb : Res} {s : Sg T} : binK2 op ra rb s = dnO s (op2 op (peek s.1 (hold ra)) (peek s.1 (hold rb))) := (rfl)
def unK (op : D → Option (D × Bool)) (ra : Res) : EF T := fun s => dnO s (op1 op (peek s.1 (hold ra)))
theorem q_un {op : D → Option (D × Bool)} {fa : EF T} {s : Sg T} : unF op fa s = bnd (unK op) (fa s) := by
  unfold unF bindF doneF bnd unK dnO op1
  rcases fa s with _ | ⟨r | _, s1⟩
  · rfl
  · simp only
    cases peek s1.1 (hold r) <;> rfl
  · rfl
theorem q_unK {op : D → Option (D × Bool)} {ra : Res} {s : Sg T} : unK op ra s = dnO s (op1 op (peek s.1 (hold ra))) := (rfl)
def brB (g h : EF T) (s : Sg T) : Option D → Option (Out × Sg T)
  | some (.bl true) => g s
  | some (.bl false) => h s
  | _ => none
def brK (g h : EF T) (r : Res) : EF T := fun s => brB g h s (peek s.1 (hold r))
theorem q_branch {f g h : EF T} {s : Sg T} : branchF f g h s = bnd (brK g h) (f s) := (rfl)
theorem q_brK {g h : EF T} {r : Res} {s : Sg T} : brK g h r s = brB g h s (peek s.1 (hold r)) := (rfl)
theorem q_brB_t {g h : EF T} {s : Sg T} : brB g h s (some (.bl true)) = g s := (rfl)
theorem q_brB_f {g h : EF T} {s : Sg T} : brB g h s (some (.bl false)) = h s := (rfl)
theorem q_and {f g : EF T} {s : Sg T} : andF f g s = bnd (brK g (conF (.bl false))) (f s) := (rfl)
theorem q_or {f g : EF T} {s : Sg T} : orF f g s = bnd (brK (conF (.bl true)) g) (f s) := (rfl)
theorem q_not {f : EF T} {s : Sg T} : notF f s = bnd (brK (conF (.bl false)) (conF (.bl true))) (f s) := (rfl)
/-! ### arguments -/
def cnsA (r : Res) : Option (OutA × Sg T) → Option (OutA × Sg T)
  | none => none
  | some (.ex c fs, s2) => some (.ex c fs, s2)
  | some (.ok rs, s2) => some (.ok (hold r :: rs), s2)
def cnsK (g : AF T) : Option (Out × Sg T) → Option (OutA × Sg T)
  | none => none
  | some (.ex c fs, s1) => some (.ex c fs, s1)
  | some (.ok r, s1) => cnsA r (g s1)
theorem q_nilA {s : Sg T} : nilA s = some (.ok [], s) := (rfl)
theorem q_consA {f : EF T} {g : AF T} {s : Sg T} : consA f g s = cnsK g (f s) := by
  unfold consA cnsK cnsA
  rcases f s with _ | ⟨_ | _, _⟩ <;> rfl
theorem q_cnsK {g : AF T} {r : Res} {s : Sg T} : cnsK g (some (.ok r, s)) = cnsA r (g s) := (rfl)
theorem q_cnsA {r : Res} {rs : List Res} {s : Sg T} : cnsA r (some (.ok rs, s)) = some (.ok (hold r :: rs), s) := (rfl)
def abnd (k : List Res → EF T) : Option (OutA × Sg T) → Option (Out × Sg T)
  | none => none
  | some (.ex c fs, s1) => some (.ex c fs, s1)
  | some (.ok r, s1) => k r s1
theorem q_abnd {k : List Res → EF T} {r : List Res} {s : Sg T} : abnd k (some (.ok r, s)) = k r s := (rfl)
def dspO (mk : List D → D) (fr : Bool) (t : T) : Option (List D × List Sl) → Option (Out × Sg T)
  | none => none
  | some (ds, τ) => if ds.length ≤ LEN then some (.ok (resOf (mk ds, fr)), (τ, t)) else none
def dspK (mk : List D → D) (fr : Bool) (rs : List Res) : EF T := fun s => dspO mk fr s.2 (giveAll s.1 rs)
theorem q_disp {mk : List D → D} {fr : Bool} {g : AF T} {s : Sg T} : dispF mk fr g s = abnd (dspK mk fr) (g s) := by
  unfold dispF abnd dspK dspO
  rcases g s with _ | ⟨_ | _, _⟩ <;> rfl
theorem q_dspK {mk : List D → D} {fr : Bool} {rs : List Res} {s : Sg T} : dspK mk fr rs s = dspO mk fr s.2 (giveAll s.1 rs) := (rfl)
theorem q_dspO {mk : List D → D} {fr : Bool} {ds : List D} {τ : List Sl} {t : T} : dspO mk fr t (some (ds, τ)) = if ds.length ≤ LEN then some (.ok (resOf (mk ds, fr)), (τ, t)) else none := (rfl)
theorem q_tup {g : AF T} {s : Sg T} : tupF g s = abnd (dspK .tup false) (g s) := q_disp
theorem q_lst {g : AF T} {s : Sg T} : lstF g s = abnd (dspK .lst true) (g s) := q_disp
def opA (op : List D → Option (D × Bool)) : Option (List D) → Option (D × Bool)
  | some ds => op ds
  | none => none
theorem q_opA {op : List D → Option (D × Bool)} {ds : List D} : opA op (some ds) = op ds := (rfl)
def clK (op : List D → Option (D × Bool)) (rs : List Res) : EF T := fun s => dnO s (opA op (peekAll s.1 rs))
theorem q_call {op : List D → Option (D × Bool)} {g : AF T} {s : Sg T} : callF op g s = abnd (clK op) (g s) := by
  unfold callF abnd clK dnO opA
  rcases g s with _ | ⟨rs | _, s1⟩
  · rfl
  · simp only
    cases peekAll s1.1 rs <;> rfl
  · rfl
theorem q_clK {op : List D → Option (D × Bool)} {rs : List Res} {s : Sg T} : clK op rs s = dnO s (opA op (peekAll s.1 rs)) := (rfl)
def fOut (τ : List Sl) : Option (FOut × T) → Option (Out × Sg T)
  | none => none
  | some (.ok d fr, t) => some (.ok (resOf (d, fr)), (τ, t))
  | some (.ex c fs, t) => some (.ex c fs, (τ, t))
def ucO (F : FF T) (t : T) : Option (List D × List Sl) → Option (Out × Sg T)
  | none => none
  | some (ds, τ) => fOut τ (F ds t)
def ucK (F : FF T) (rs : List Res) : EF T := fun s => ucO F s.2 (giveAll s.1 rs)
theorem q_ucall {F : FF T} {g : AF T} {s : Sg T} : ucallF F g s = abnd (ucK F) (g s) := by
  unfold ucallF abnd ucK ucO fOut
  rcases g s with _ | ⟨_ | _, _⟩ <;> rfl
theorem q_ucK {F : FF T} {rs : List Res} {s : Sg T} : ucK F rs s = ucO F s.2 (giveAll s.1 rs) := (rfl)
theorem q_ucO {F : FF T} {t : T} {ds : List D} {τ : List Sl} : ucO F t (some (ds, τ)) = fOut τ (F ds t) := (rfl)
theorem q_fOut {τ : List Sl} {d : D} {fr : Bool} {t : T} : fOut τ (some (.ok d fr, t)) = some (.ok (resOf (d, fr)), (τ, t)) := (rfl)
/-! ### statements -/
def sqO (g : SF T) : Option (SOut × Sg T) → Option (SOut × Sg T)
  | some (.nx, s1) => g s1
  | r => r
theorem q_seq {f g : SF T} {s : Sg T} : seqF f g s = sqO g (f s) := (rfl)
theorem q_sqO_nx {g : SF T} {s : Sg T} : sqO g (some (.nx, s)) = g s := (rfl)
theorem q_sqO_rt {g : SF T} {s : Sg T} {r : Res} : sqO g (some (.rt r, s)) = some (.rt r, s) := (rfl)
theorem q_sqO_bk {g : SF T} {s : Sg T} : sqO g (some (.bk, s)) = some (.bk, s) := (rfl)
theorem q_sqO_ct {g : SF T} {s : Sg T} : sqO g (some (.ct, s)) = some (.ct, s) := (rfl)
theorem q_sqO_ex {g : SF T} {s : Sg T} {c : Str} {fs : List (Str × D)} : sqO g (some (.ex c fs, s)) = some (.ex c fs, s) := (rfl)
theorem q_nx {s : Sg T} : nxF s = some (.nx, s) := (rfl)
theorem q_bk {s : Sg T} : bkF s = some (.bk, s) := (rfl)
theorem q_ct {s : Sg T} : ctF s = some (.ct, s) := (rfl)
def sbnd (k : Res → SF T) : Option (Out × Sg T) → Option (SOut × Sg T)
  | none => none
  | some (.ex c fs, s1) => some (.ex c fs, s1)
  | some (.ok r, s1) => k r s1
theorem q_sbnd {k : Res → SF T} {r : Res} {s : Sg T} : sbnd k (some (.ok r, s)) = k r s := (rfl)
def drK (r : Res) : SF T := fun s => some (.nx, s)
theorem q_drop {f : EF T} {s : Sg T} : dropF f s = sbnd drK (f s) := (rfl)
theorem q_drK {r : Res} {s : Sg T} : drK r s = some (.nx, s) := (rfl)
def rtS (i : Nat) (s : Sg T) : Option Sl → Option (SOut × Sg T)
  | some (.v d) => some (.rt (.d d), s)
  | some (.o d) => some (.rt (.f d), (s.1.set i .no, s.2))
  | _ => none
def rtK (r : Res) : SF T := fun s => match r with
  | .s i => rtS i s s.1[i]?
  | r => some (.rt r, s)
theorem q_ret {f : EF T} {s : Sg T} : retF f s = sbnd rtK (f s) := by
  unfold retF sbind sbnd rtK rtS
  rcases f s with _ | ⟨(_ | _ | _) | _, _⟩ <;> rfl
theorem q_rtK_d {d : D} {s : Sg T} : rtK (.d d) s = some (.rt (.d d), s) := (rfl)
theorem q_rtK_f {d : D} {s : Sg T} : rtK (.f d) s = some (.rt (.f d), s) := (rfl)
theorem q_rtK_s {i : Nat} {s : Sg T} : rtK (.s i) s = rtS i s s.1[i]? := (rfl)
theorem q_rtS_v {i : Nat} {s : Sg T} {d : D} : rtS i s (some (.v d)) = some (.rt (.d d), s) := (rfl)
theorem q_rtS_o {i : Nat} {s : Sg T} {d : D} : rtS i s (some (.o d)) = some (.rt (.f d), (s.1.set i .no, s.2)) := (rfl)
theorem q_retN {s : Sg T} : retNF s = some (.rt (.d .non), s) := (rfl)
def ifB (g h : SF T) (s : Sg T) : Option D → Option (SOut × Sg T)
  | some (.bl true) => g s
  | some (.bl false) => h s
  | _ => none
def ifK (g h : SF T) (r : Res) : SF T := fun s => ifB g h s (peek s.1 (hold r))
theorem q_if {f : EF T} {g h : SF T} {s : Sg T} : ifF f g h s = sbnd (ifK g h) (f s) := (rfl)
theorem q_ifK {g h : SF T} {r : Res} {s : Sg T} : ifK g h r s = ifB g h s (peek s.1 (hold r)) := (rfl)
theorem q_ifB_t {g h : SF T} {s : Sg T} : ifB g h s (some (.bl true)) = g s := (rfl)
theorem q_ifB_f {g h : SF T} {s : Sg T} : ifB g h s (some (.bl false)) = h s := (rfl)
def stN (t : T) : Option (List Sl) → Option (SOut × Sg T)
  | none => none
  | some τ => some (.nx, (τ, t))
theorem q_stN {t : T} {τ : List Sl} : stN t (some τ) = some (.nx, (τ, t)) := (rfl)
def stK (i : Nat) (r : Res) : SF T := fun s => stN s.2 (storeAt i s.1 r)
theorem q_set {i : Nat} {f : EF T} {s : Sg T} : setF i f s = sbnd (stK i) (f s) := (rfl)
theorem q_stK {i : Nat} {r : Res} {s : Sg T} : stK i r s = stN s.2 (storeAt i s.1 r) := (rfl)
def stS (i j : Nat) (τ : List Sl) : Option Sl → Option (List Sl)
  | some (.v d) => some (τ.set i (.v d))
  | some (.o d) => some ((τ.set j (.v d)).set i (.v d))
  | _ => none
theorem q_store_d {i : Nat} {τ : List Sl} {d : D} : storeAt i τ (.d d) = some (τ.set i (.v d)) := (rfl)
theorem q_store_f {i : Nat} {τ : List Sl} {d : D} : storeAt i τ (.f d) = some (τ.set i (.o d)) := (rfl)
theorem q_store_s {i j : Nat} {τ : List Sl} : storeAt i τ (.s j) = stS i j τ τ[j]? := by
  show (match give τ (.s j) with
    | none => none
    | some (d, τ1) => some (τ1.set i (.v d))) = _
  rw [q_give_s]
  unfold gvS stS
  rcases τ[j]? with _ | (_ | _ | _) <;> rfl
theorem q_stS_v {i j : Nat} {τ : List Sl} {d : D} : stS i j τ (some (.v d)) = some (τ.set i (.v d)) := (rfl)
theorem q_stS_o {i j : Nat} {τ : List Sl} {d : D} : stS i j τ (some (.o d)) = some ((τ.set j (.v d)).set i (.v d)) := (rfl)
def asO (g : GF) (t : T) : Option (D × List Sl) → Option (SOut × Sg T)
  | none => none
  | some (d, τ) => stN t (g d τ)
def asK (g : GF) (r : Res) : SF T := fun s => asO g s.2 (give s.1 r)
theorem q_asg {g : GF} {f : EF T} {s : Sg T} : asgF g f s = sbnd (asK g) (f s) := by
  unfold asgF sbind sbnd asK asO stN
  rcases f s with _ | ⟨_ | _, _⟩ <;> rfl
theorem q_asK {g : GF} {r : Res} {s : Sg T} : asK g r s = asO g s.2 (give s.1 r) := (rfl)
theorem q_asO {g : GF} {t : T} {d : D} {τ : List Sl} : asO g t (some (d, τ)) = stN t (g d τ) := (rfl)
def paN (i : Nat) (d : D) (t : T) : Option (List Sl) → Option (SOut × Sg T)
  | none => none
  | some τ => some (.nx, (τ.set i (.v d), t))
def paK2 (i j : Nat) (d : D) (r : Res) : SF T := fun s => paN i d s.2 (storeAt j s.1 r)
def paO (i j : Nat) (g : EF T) (t : T) : Option (D × List Sl) → Option (SOut × Sg T)
  | none => none
  | some (d, τ) => sbnd (paK2 i j d) (g (τ, t))
def paK (i j : Nat) (g : EF T) (r : Res) : SF T := fun s => paO i j g s.2 (give s.1 r)
theorem q_par {i j : Nat} {f g : EF T} {s : Sg T} : parF i j f g s = sbnd (paK i j g) (f s) := by
  unfold parF sbnd paK paO paK2 paN sbind sbnd
  rcases f s with _ | ⟨_ | _, _⟩ <;> rfl
theorem q_paK {i j : Nat} {g : EF T} {r : Res} {s : Sg T} : paK i j g r s = paO i j g s.2 (give s.1 r) := (rfl)
theorem q_paO {i j : Nat} {g : EF T} {t : T} {d : D} {τ : List Sl} : paO i j g t (some (d, τ)) = sbnd (paK2 i j d) (g (τ, t)) := (rfl)
theorem q_paK2 {i j : Nat} {d : D} {r : Res} {s : Sg T} : paK2 i j d r s = paN i d s.2 (storeAt j s.1 r) := (rfl)
theorem q_paN {i : Nat} {d : D} {t : T} {τ : List Sl} : paN i d t (some τ) = some (.nx, (τ.set i (.v d), t)) := (rfl)
def pnN (j : Nat) (t : T) : Option (List Sl) → Option (SOut × Sg T)
  | none => none
  | some τ => some (.nx, (τ.set j (.o (.lst [])), t))
def pnK (i j : Nat) (r : Res) : SF T := fun s => pnN j s.2 (storeAt i s.1 r)
theorem q_parN {i j : Nat} {f : EF T} {s : Sg T} : parNF i j f s = sbnd (pnK i j) (f s) := (rfl)
theorem q_pnK {i j : Nat} {r : Res} {s : Sg T} : pnK i j r s = pnN j s.2 (storeAt i s.1 r) := (rfl)
theorem q_pnN {j : Nat} {t : T} {τ : List Sl} : pnN j t (some τ) = some (.nx, (τ.set j (.o (.lst [])), t)) := (rfl)
/-! ### own lists changed -/
def muX (i : Nat) (op : List D → List D → Option (List D × D)) (ds : List D) (τ : List Sl) (t : T) : Option Sl → Option (Out × Sg T)
  | some (.o (.lst xs)) => (op xs ds).map fun z => (.ok (.d z.2), (τ.set i (.o (.lst z.1)), t))
  | _ => none
def muO (i : Nat) (op : List D → List D → Option (List D × D)) (t : T) : Option (List D × List Sl) → Option (Out × Sg T)
  | none => none
  | some (ds, τ) => muX i op ds τ t τ[i]?
def muK (i : Nat) (op : List D → List D → Option (List D × D)) (rs : List Res) : EF T := fun s => muO i op s.2 (giveAll s.1 rs)
def muA (i : Nat) (op : List D → List D → Option (List D × D)) (g : AF T) (s : Sg T) : Option Sl → Option (Out × Sg T)
  | some (.o (.lst _)) => abnd (muK i op) (g s)
  | _ => none
theorem q_mut {i : Nat} {op : List D → List D → Option (List D × D)} {g : AF T} {s : Sg T} : mutF i op g s = muA i op g s s.1[i]? := by
  unfold mutF muA
  generalize s.1[i]? = z
  rcases z with _ | (_ | _ | d) <;> try rfl
  cases d <;> try rfl
  all_goals
    unfold abnd muK muO muX
    rcases g s with _ | ⟨rs | _, s1⟩ <;> try rfl
  all_goals
    cases e : giveAll s1.1 rs with
    | none => simp only [e]
    | some w =>
      simp only [e]
      generalize w.2[i]? = y
      rcases y with _ | (_ | _ | d2) <;> try rfl
      cases d2 <;> try rfl
      all_goals
        rename_i xs
        dsimp only
        cases op xs w.1 <;> rfl
theorem q_muA {i : Nat} {op : List D → List D → Option (List D × D)} {g : AF T} {s : Sg T} {xs : List D} : muA i op g s (some (.o (.lst xs))) = abnd (muK i op) (g s) := (rfl)
theorem q_muK {i : Nat} {op : List D → List D → Option (List D × D)} {rs : List Res} {s : Sg T} : muK i op rs s = muO i op s.2 (giveAll s.1 rs) := (rfl)
theorem q_muO {i : Nat} {op : List D → List D → Option (List D × D)} {t : T} {ds : List D} {τ : List Sl} : muO i op t (some (ds, τ)) = muX i op ds τ t τ[i]? := (rfl)
theorem q_muX {i : Nat} {op : List D → List D → Option (List D × D)} {ds : List D} {τ : List Sl} {t : T} {xs : List D} : muX i op ds τ t (some (.o (.lst xs))) = (op xs ds).map fun z => (.ok (.d z.2), (τ.set i (.o (.lst z.1)), t)) := (rfl)
/-! ### items set, +=, slices -/
def putJ (i : Nat) (d : D) (xs : List D) (τ : List Sl) : Option Nat → Option (List Sl)
  | none => none
  | some j => some (τ.set i (.o (.lst (xs.set j d))))
def putS (i : Nat) (d : D) (n : Int) (τ : List Sl) : Option Sl → Option (List Sl)
  | some (.o (.lst xs)) => putJ i d xs τ (ixN xs.length n)
  | _ => none
theorem q_putAt {i : Nat} {τ : List Sl} {n : Int} {d : D} : putAt i τ (.int n) d = putS i d n τ τ[i]? := by
  unfold putAt putS putJ
  rcases τ[i]? with _ | (_ | _ | (_ | _ | _ | _ | _ | _ | _ | _ | _ | _)) <;> rfl
theorem q_putS {i : Nat} {d : D} {n : Int} {τ : List Sl} {xs : List D} : putS i d n τ (some (.o (.lst xs))) = putJ i d xs τ (ixN xs.length n) := (rfl)
theorem q_putJ {i : Nat} {d : D} {xs : List D} {τ : List Sl} {j : Nat} : putJ i d xs τ (some j) = some (τ.set i (.o (.lst (xs.set j d)))) := (rfl)
def siP (i : Nat) (d : D) (s : Sg T) : Option D → Option (SOut × Sg T)
  | none => none
  | some k => stN s.2 (putAt i s.1 k d)
def siK2 (i : Nat) (d : D) (rk : Res) : SF T := fun s => siP i d s (peek s.1 (hold rk))
def siG (i : Nat) (fk : EF T) (d : D) (s : Sg T) : Option Sl → Option (SOut × Sg T)
  | some (.o (.lst _)) => sbnd (siK2 i d) (fk s)
  | _ => none
def siO (i : Nat) (fk : EF T) (t : T) : Option (D × List Sl) → Option (SOut × Sg T)
  | none => none
  | some (d, τ) => siG i fk d (τ, t) τ[i]?
def siK (i : Nat) (fk : EF T) (r : Res) : SF T := fun s => siO i fk s.2 (give s.1 r)
theorem q_setIx {i : Nat} {fk fe : EF T} {s : Sg T} : setIxF i fk fe s = sbnd (siK i fk) (fe s) := by
  unfold setIxF sbind sbnd siK siO siG siK2 siP stN
  rcases fe s with _ | ⟨r | _, s1⟩
  · rfl
  · simp only
    cases give s1.1 r with
    | none => rfl
    | some z =>
      simp only
      rcases z.2[i]? with _ | (_ | _ | (_ | _ | _ | _ | _ | _ | _ | _ | _ | _)) <;> try rfl
  · rfl
theorem q_siK {i : Nat} {fk : EF T} {r : Res} {s : Sg T} : siK i fk r s = siO i fk s.2 (give s.1 r) := (rfl)
theorem q_siO {i : Nat} {fk : EF T} {t : T} {d : D} {τ : List Sl} : siO i fk t (some (d, τ)) = siG i fk d (τ, t) τ[i]? := (rfl)
theorem q_siG {i : Nat} {fk : EF T} {d : D} {s : Sg T} {xs : List D} : siG i fk d s (some (.o (.lst xs))) = sbnd (siK2 i d) (fk s) := (rfl)
theorem q_siK2 {i : Nat} {d : D} {rk : Res} {s : Sg T} : siK2 i d rk s = siP i d s (peek s.1 (hold rk)) := (rfl)
theorem q_siP {i : Nat} {d k : D} {s : Sg T} : siP i d s (some k) = stN s.2 (putAt i s.1 k d) := (rfl)
def agO (i : Nat) (s : Sg T) : Option (D × Bool) → Option (SOut × Sg T)
  | some (z, false) => some (.nx, (s.1.set i (.v z), s.2))
  | _ => none
def agK (i : Nat) (op : D → D → Option (D × Bool)) (x : D) (r : Res) : SF T := fun s => agO i s (op1 (op x) (peek s.1 (hold r)))
def agS (i : Nat) (op : D → D → Option (D × Bool)) (f : EF T) (s : Sg T) : Option Sl → Option (SOut × Sg T)
  | some (.v x) => sbnd (agK i op x) (f s)
  | _ => none
theorem q_aug {i : Nat} {op : D → D → Option (D × Bool)} {f : EF T} {s : Sg T} : augF i op f s = agS i op f s s.1[i]? := by
  unfold augF agS
  rcases s.1[i]? with _ | (_ | x | _) <;> try rfl
  simp only [sbind, sbnd, agK, agO, op1]
  rcases f s with _ | ⟨r | _, s1⟩
  · rfl
  · simp only
    cases peek s1.1 (hold r) with
    | none => rfl
    | some y => first | rfl | (simp only; rcases op x y with _ | ⟨_, _ | _⟩ <;> rfl)
  · rfl
theorem q_agS {i : Nat} {op : D → D → Option (D × Bool)} {f : EF T} {s : Sg T} {x : D} : agS i op f s (some (.v x)) = sbnd (agK i op x) (f s) := (rfl)
theorem q_agK {i : Nat} {op : D → D → Option (D × Bool)} {x : D} {r : Res} {s : Sg T} : agK i op x r s = agO i s (op1 (op x) (peek s.1 (hold r))) := (rfl)
theorem q_agO {i : Nat} {s : Sg T} {z : D} : agO i s (some (z, false)) = some (.nx, (s.1.set i (.v z), s.2)) := (rfl)
def ptI (k : Option Int → EF T) (s : Sg T) : Option (Option Int) → Option (Out × Sg T)
  | none => none
  | some i => k i s
def ptD (b : Bool) : Option D → Option (Option Int)
  | none => none
  | some d => partB b d
def ptK (b : Bool) (k : Option Int → EF T) (r : Res) : EF T := fun s => ptI k s (ptD b (peek s.1 r))
def slP (ra : Res) (lo hi : Option Int) : EF T := fun s => dnO s (op1 (fun x => sliceD x lo hi) (peek s.1 (hold ra)))
def slH (bh : Bool) (h : EF T) (ra : Res) (lo : Option Int) : EF T := fun s => bnd (ptK bh (slP ra lo)) (h s)
def slL (bl bh : Bool) (g h : EF T) (ra : Res) : EF T := fun s => bnd (ptK bl (slH bh h ra)) (g s)
theorem part_eq {b : Bool} {g : EF T} {k k' : Option Int → EF T} (e : k = k') {s : Sg T} : partF b g k s = bnd (ptK b k') (g s) := by
  subst e
  unfold partF bindF bnd ptK ptD ptI
  rcases g s with _ | ⟨r | _, s1⟩
  · rfl
  · simp only
    cases peek s1.1 r with
    | none => rfl
    | some d => first | rfl | (simp only; cases partB b d <;> rfl)
  · rfl
theorem q_sl {bl bh : Bool} {f g h : EF T} {s : Sg T} : slF bl bh f g h s = bnd (slL bl bh g h) (f s) := by
  unfold slF bindF bnd
  rcases f s with _ | ⟨r | _, s1⟩
  · rfl
  · simp only
    refine part_eq (funext fun lo => funext fun s2 => ?_)
    refine part_eq (funext fun hi => funext fun s3 => ?_)
    unfold doneF slP dnO op1
    simp only
    cases peek s3.1 (hold r) <;> rfl
  · rfl
theorem q_slL {bl bh : Bool} {g h : EF T} {ra : Res} {s : Sg T} : slL bl bh g h ra s = bnd (ptK bl (slH bh h ra)) (g s) := (rfl)
theorem q_slH {bh : Bool} {h : EF T} {ra : Res} {lo : Option Int} {s : Sg T} : slH bh h ra lo s = bnd (ptK bh (slP ra lo)) (h s) := (rfl)
theorem q_slP {ra : Res} {lo hi : Option Int} {s : Sg T} : slP ra lo hi s = dnO s (op1 (fun x => sliceD x lo hi) (peek s.1 (hold ra))) := (rfl)
theorem q_ptK {b : Bool} {k : Option Int → EF T} {r : Res} {s : Sg T} : ptK b k r s = ptI k s (ptD b (peek s.1 r)) := (rfl)
theorem q_ptI {k : Option Int → EF T} {s : Sg T} {i : Option Int} : ptI k s (some i) = k i s := (rfl)
theorem q_ptD_n : ptD false (some .non) = some none := (rfl)
theorem q_ptD_i {i : Int} : ptD true (some (.int i)) = some (some i) := (rfl)
theorem q_slice_l {ds : List D} {lo hi : Option Int} : sliceD (.lst ds) lo hi = some (.lst (cutL ds lo hi), true) := (rfl)
theorem q_slice_t {ds : List D} {lo hi : Option Int} : sliceD (.tup ds) lo hi = some (.tup (cutL ds lo hi), false) := (rfl)
theorem q_rev {f : EF T} {s : Sg T} : revF f s = bnd (unK revD) (f s) := q_un
theorem q_rev_l {ds : List D} : revD (.lst ds) = some (.lst ds.reverse, true) := (rfl)
theorem q_rev_t {ds : List D} : revD (.tup ds) = some (.tup ds.reverse, false) := (rfl)
/-! ### loops -/
def frO (g : GF) (b : SF T) : Option (OutI × Sg T) → Option (SOut × Sg T)
  | none => none
  | some (.ex c fs, s1) => some (.ex c fs, s1)
  | some (.ok ds, s1) => forL g b ds s1
theorem q_for {it : IF T} {g : GF} {b : SF T} {s : Sg T} : forF it g b s = frO g b (it s) := by
  unfold forF frO
  rcases it s with _ | ⟨_ | _, _⟩ <;> rfl
theorem q_frO {g : GF} {b : SF T} {ds : List D} {s : Sg T} : frO g b (some (.ok ds, s)) = forL g b ds s := (rfl)
def itO (t : T) : Option (List D × List Sl) → Option (OutI × Sg T)
  | none => none
  | some (ds, τ) => some (.ok ds, (τ, t))
def itA (τ : List Sl) : Option (List D) → Option (List D × List Sl)
  | none => none
  | some ds => some (ds, τ)
def sqA : Option (D × List Sl) → Option (List D × List Sl)
  | none => none
  | some (d, τ) => itA τ (itemsD d)
def opI (op : List D → Option (List D)) : Option (List D × List Sl) → Option (List D × List Sl)
  | none => none
  | some (ds, τ) => itA τ (op ds)
def siB : Option (Out × Sg T) → Option (OutI × Sg T)
  | none => none
  | some (.ex c fs, s1) => some (.ex c fs, s1)
  | some (.ok r, s1) => itO s1.2 (sqA (give s1.1 r))
theorem q_seqI {f : EF T} {s : Sg T} : seqI f s = siB (f s) := by
  unfold seqI siB itO sqA itA
  rcases f s with _ | ⟨r | _, s1⟩
  · rfl
  · simp only
    cases give s1.1 r with
    | none => rfl
    | some z => simp only; cases itemsD z.1 <;> rfl
  · rfl
theorem q_siB {r : Res} {s : Sg T} : siB (some (.ok r, s)) = itO s.2 (sqA (give s.1 r)) := (rfl)
theorem q_sqA {d : D} {τ : List Sl} : sqA (some (d, τ)) = itA τ (itemsD d) := (rfl)
theorem q_itA {ds : List D} {τ : List Sl} : itA τ (some ds) = some (ds, τ) := (rfl)
theorem q_itO {ds : List D} {τ : List Sl} {t : T} : itO t (some (ds, τ)) = some (.ok ds, (τ, t)) := (rfl)
theorem q_items_l {ds : List D} : itemsD (.lst ds) = some ds := (rfl)
theorem q_items_t {ds : List D} : itemsD (.tup ds) = some ds := (rfl)
def ciB (op : List D → Option (List D)) : Option (OutA × Sg T) → Option (OutI × Sg T)
  | none => none
  | some (.ex c fs, s1) => some (.ex c fs, s1)
  | some (.ok rs, s1) => itO s1.2 (opI op (giveAll s1.1 rs))
theorem q_callI {op : List D → Option (List D)} {g : AF T} {s : Sg T} : callI op g s = ciB op (g s) := by
  unfold callI ciB itO opI itA
  rcases g s with _ | ⟨r | _, s1⟩
  · rfl
  · simp only
    cases giveAll s1.1 r with
    | none => rfl
    | some z => simp only; cases op z.1 <;> rfl
  · rfl
theorem q_ciB {op : List D → Option (List D)} {rs : List Res} {s : Sg T} : ciB op (some (.ok rs, s)) = itO s.2 (opI op (giveAll s.1 rs)) := (rfl)
theorem q_opI {op : List D → Option (List D)} {ds : List D} {τ : List Sl} : opI op (some (ds, τ)) = itA τ (op ds) := (rfl)
def lcR (τ : List Sl) : Option (List D × T) → Option (Out × Sg T)
  | none => none
  | some (out, t) => some (.ok (.f (.lst out)), (τ, t))
def lcO (sh vs : List Nat) (g : GF) (c e : EF T) : Option (OutI × Sg T) → Option (Out × Sg T)
  | none => none
  | some (.ex k fs, s1) => some (.ex k fs, s1)
  | some (.ok ds, s1) => if ds.length ≤ LEN then lcR (shareAll sh s1.1) (lcL g c e (hideFrom vs 0 (shareAll sh s1.1)) ds s1.2) else none
theorem q_lc {sh vs : List Nat} {it : IF T} {g : GF} {c e : EF T} {s : Sg T} : lcF sh vs it g c e s = lcO sh vs g c e (it s) := by
  unfold lcF lcO lcR
  rcases it s with _ | ⟨_ | _, _⟩ <;> rfl
theorem q_lcO {sh vs : List Nat} {g : GF} {c e : EF T} {ds : List D} {s : Sg T} : lcO sh vs g c e (some (.ok ds, s)) = if ds.length ≤ LEN then lcR (shareAll sh s.1) (lcL g c e (hideFrom vs 0 (shareAll sh s.1)) ds s.2) else none := (rfl)
theorem q_lcR {τ : List Sl} {out : List D} {t : T} : lcR τ (some (out, t)) = some (.ok (.f (.lst out)), (τ, t)) := (rfl)
def whO (c : EF T) (b : SF T) (n : Nat) : Option (SOut × Sg T) → Option (SOut × Sg T)
  | some (.nx, s1) => whileN c b n s1
  | some (.ct, s1) => whileN c b n s1
  | some (.bk, s1) => some (.nx, s1)
  | r => r
def whL (c : EF T) (b : SF T) (n : Nat) : SF T := fun s => whO c b n (b s)
theorem q_whileN {c : EF T} {b : SF T} {n : Nat} {s : Sg T} : whileN c b (n + 1) s = sbnd (ifK (whL c b n) nxF) (c s) := by
  show ifF c _ nxF s = _
  rw [q_if]
  rfl
theorem q_whL {c : EF T} {b : SF T} {n : Nat} {s : Sg T} : whL c b n s = whO c b n (b s) := (rfl)
theorem q_whO_nx {c : EF T} {b : SF T} {n : Nat} {s : Sg T} : whO c b n (some (.nx, s)) = whileN c b n s := (rfl)
theorem q_whO_ct {c : EF T} {b : SF T} {n : Nat} {s : Sg T} : whO c b n (some (.ct, s)) = whileN c b n s := (rfl)
theorem q_whO_bk {c : EF T} {b : SF T} {n : Nat} {s : Sg T} : whO c b n (some (.bk, s)) = some (.nx, s) := (rfl)
theorem q_whO_rt {c : EF T} {b : SF T} {n : Nat} {s : Sg T} {r : Res} : whO c b n (some (.rt r, s)) = some (.rt r, s) := (rfl)
/-! ### targets -/
theorem q_nameG {i : Nat} {d : D} {τ : List Sl} : nameG i d τ = some (τ.set i (.v d)) := (rfl)
def cgO (h : GFs) (ds : List D) : Option (List Sl) → Option (List Sl)
  | none => none
  | some τ => h ds τ
theorem q_nilG {τ : List Sl} : nilG [] τ = some τ := (rfl)
theorem q_consG {g : GF} {h : GFs} {d : D} {ds : List D} {τ : List Sl} : consG g h (d :: ds) τ = cgO h ds (g d τ) := by
  unfold cgO
  first | (rw [consG]; done) | (rw [consG]; cases g d τ <;> rfl)
theorem q_cgO {h : GFs} {ds : List D} {τ : List Sl} : cgO h ds (some τ) = h ds τ := (rfl)
theorem q_tupG {n : Nat} {h : GFs} {ds : List D} {τ : List Sl} : tupG n h (.tup ds) τ = if ds.length = n then h ds τ else none := (rfl)
theorem q_lstG {n : Nat} {h : GFs} {ds : List D} {τ : List Sl} : lstG n h (.lst ds) τ = if ds.length = n then h ds τ else none := (rfl)
/-! ### defs -/
def outF : Option (SOut × Sg T) → Option (FOut × T)
  | some (.nx, s) => some (.ok .non false, s.2)
  | some (.rt (.d d), s) => some (.ok d false, s.2)
  | some (.rt (.f d), s) => some (.ok d true, s.2)
  | some (.ex c fs, s) => some (.ex c fs, s.2)
  | _ => none
theorem q_run {N n : Nat} {f : SF T} {ds : List D} {t : T} (h : ds.length = n) : runF N n f ds t = outF (f (ds.map Sl.v ++ List.replicate (N - ds.length) .no, t)) := by
  unfold runF outF
  rw [if_pos h]
  rfl
theorem q_out_n {s : Sg T} : outF (some (.nx, s)) = some (.ok .non false, s.2) := (rfl)
theorem q_out_d {s : Sg T} {d : D} : outF (some (.rt (.d d), s)) = some (.ok d false, s.2) := (rfl)
theorem q_out_f {s : Sg T} {d : D} : outF (some (.rt (.f d), s)) = some (.ok d true, s.2) := (rfl)
end
/-! ### isinstance of constants -/
theorem q_is_non_int  : isiD [.non, .ty "int"] = some (.bl false, false) := by simp [isiD, tyN, kinds, isA]
theorem q_is_non_bool  : isiD [.non, .ty "bool"] = some (.bl false, false) := by simp [isiD, tyN, kinds, isA]
theorem q_is_non_str  : isiD [.non, .ty "str"] = some (.bl false, false) := by simp [isiD, tyN, kinds, isA]
theorem q_is_non_list  : isiD [.non, .ty "list"] = some (.bl false, false) := by simp [isiD, tyN, kinds, isA]
theorem q_is_non_tuple  : isiD [.non, .ty "tuple"] = some (.bl false, false) := by simp [isiD, tyN, kinds, isA]
theorem q_is_non_dict  : isiD [.non, .ty "dict"] = some (.bl false, false) := by simp [isiD, tyN, kinds, isA]
theorem q_is_non_tuple_list  : isiD [.non, .tup [.ty "tuple", .ty "list"]] = some (.bl false, false) := by simp [isiD, tyN, kinds, isA, isAny]
theorem q_is_non_list_tuple  : isiD [.non, .tup [.ty "list", .ty "tuple"]] = some (.bl false, false) := by simp [isiD, tyN, kinds, isA, isAny]
theorem q_is_bl_int {x : Bool} : isiD [(.bl x), .ty "int"] = some (.bl true, false) := by simp [isiD, tyN, kinds, isA]
theorem q_is_bl_bool {x : Bool} : isiD [(.bl x), .ty "bool"] = some (.bl true, false) := by simp [isiD, tyN, kinds, isA]
theorem q_is_bl_str {x : Bool} : isiD [(.bl x), .ty "str"] = some (.bl false, false) := by simp [isiD, tyN, kinds, isA]
theorem q_is_bl_list {x : Bool} : isiD [(.bl x), .ty "list"] = some (.bl false, false) := by simp [isiD, tyN, kinds, isA]
theorem q_is_bl_tuple {x : Bool} : isiD [(.bl x), .ty "tuple"] = some (.bl false, false) := by simp [isiD, tyN, kinds, isA]
theorem q_is_bl_dict {x : Bool} : isiD [(.bl x), .ty "dict"] = some (.bl false, false) := by simp [isiD, tyN, kinds, isA]
theorem q_is_bl_tuple_list {x : Bool} : isiD [(.bl x), .tup [.ty "tuple", .ty "list"]] = some (.bl false, false) := by simp [isiD, tyN, kinds, isA, isAny]
theorem q_is_bl_list_tuple {x : Bool} : isiD [(.bl x), .tup [.ty "list", .ty "tuple"]] = some (.bl false, false) := by simp [isiD, tyN, kinds, isA, isAny]
theorem q_is_int_int {x : Int} : isiD [(.int x), .ty "int"] = some (.bl true, false) := by simp [isiD, tyN, kinds, isA]
theorem q_is_int_bool {x : Int} : isiD [(.int x), .ty "bool"] = some (.bl false, false) := by simp [isiD, tyN, kinds, isA]
theorem q_is_int_str {x : Int} : isiD [(.int x), .ty "str"] = some (.bl false, false) := by simp [isiD, tyN, kinds, isA]
theorem q_is_int_list {x : Int} : isiD [(.int x), .ty "list"] = some (.bl false, false) := by simp [isiD, tyN, kinds, isA]
theorem q_is_int_tuple {x : Int} : isiD [(.int x), .ty "tuple"] = some (.bl false, false) := by simp [isiD, tyN, kinds, isA]
theorem q_is_int_dict {x : Int} : isiD [(.int x), .ty "dict"] = some (.bl false, false) := by simp [isiD, tyN, kinds, isA]
theorem q_is_int_tuple_list {x : Int} : isiD [(.int x), .tup [.ty "tuple", .ty "list"]] = some (.bl false, false) := by simp [isiD, tyN, kinds, isA, isAny]
theorem q_is_int_list_tuple {x : Int} : isiD [(.int x), .tup [.ty "list", .ty "tuple"]] = some (.bl false, false) := by simp [isiD, tyN, kinds, isA, isAny]
theorem q_is_str_int {x : Str} : isiD [(.str x), .ty "int"] = some (.bl false, false) := by simp [isiD, tyN, kinds, isA]
theorem q_is_str_bool {x : Str} : isiD [(.str x), .ty "bool"] = some (.bl false, false) := by simp [isiD, tyN, kinds, isA]
theorem q_is_str_str {x : Str} : isiD [(.str x), .ty "str"] = some (.bl true, false) := by simp [isiD, tyN, kinds, isA]
theorem q_is_str_list {x : Str} : isiD [(.str x), .ty "list"] = some (.bl false, false) := by simp [isiD, tyN, kinds, isA]
theorem q_is_str_tuple {x : Str} : isiD [(.str x), .ty "tuple"] = some (.bl false, false) := by simp [isiD, tyN, kinds, isA]
theorem q_is_str_dict {x : Str} : isiD [(.str x), .ty "dict"] = some (.bl false, false) := by simp [isiD, tyN, kinds, isA]
theorem q_is_str_tuple_list {x : Str} : isiD [(.str x), .tup [.ty "tuple", .ty "list"]] = some (.bl false, false) := by simp [isiD, tyN, kinds, isA, isAny]
theorem q_is_str_list_tuple {x : Str} : isiD [(.str x), .tup [.ty "list", .ty "tuple"]] = some (.bl false, false) := by simp [isiD, tyN, kinds, isA, isAny]
theorem q_is_tup_int {x : List D} : isiD [(.tup x), .ty "int"] = some (.bl false, false) := by simp [isiD, tyN, kinds, isA]
theorem q_is_tup_bool {x : List D} : isiD [(.tup x), .ty "bool"] = some (.bl false, false) := by simp [isiD, tyN, kinds, isA]
theorem q_is_tup_str {x : List D} : isiD [(.tup x), .ty "str"] = some (.bl false, false) := by simp [isiD, tyN, kinds, isA]
theorem q_is_tup_list {x : List D} : isiD [(.tup x), .ty "list"] = some (.bl false, false) := by simp [isiD, tyN, kinds, isA]
theorem q_is_tup_tuple {x : List D} : isiD [(.tup x), .ty "tuple"] = some (.bl true, false) := by simp [isiD, tyN, kinds, isA]
theorem q_is_tup_dict {x : List D} : isiD [(.tup x), .ty "dict"] = some (.bl false, false) := by simp [isiD, tyN, kinds, isA]
theorem q_is_tup_tuple_list {x : List D} : isiD [(.tup x), .tup [.ty "tuple", .ty "list"]] = some (.bl true, false) := by simp [isiD, tyN, kinds, isA, isAny]
theorem q_is_tup_list_tuple {x : List D} : isiD [(.tup x), .tup [.ty "list", .ty "tuple"]] = some (.bl true, false) := by simp [isiD, tyN, kinds, isA, isAny]
theorem q_is_lst_int {x : List D} : isiD [(.lst x), .ty "int"] = some (.bl false, false) := by simp [isiD, tyN, kinds, isA]
theorem q_is_lst_bool {x : List D} : isiD [(.lst x), .ty "bool"] = some (.bl false, false) := by simp [isiD, tyN, kinds, isA]
theorem q_is_lst_str {x : List D} : isiD [(.lst x), .ty "str"] = some (.bl false, false) := by simp [isiD, tyN, kinds, isA]
theorem q_is_lst_list {x : List D} : isiD [(.lst x), .ty "list"] = some (.bl true, false) := by simp [isiD, tyN, kinds, isA]
theorem q_is_lst_tuple {x : List D} : isiD [(.lst x), .ty "tuple"] = some (.bl false, false) := by simp [isiD, tyN, kinds, isA]
theorem q_is_lst_dict {x : List D} : isiD [(.lst x), .ty "dict"] = some (.bl false, false) := by simp [isiD, tyN, kinds, isA]
theorem q_is_lst_tuple_list {x : List D} : isiD [(.lst x), .tup [.ty "tuple", .ty "list"]] = some (.bl true, false) := by simp [isiD, tyN, kinds, isA, isAny]
theorem q_is_lst_list_tuple {x : List D} : isiD [(.lst x), .tup [.ty "list", .ty "tuple"]] = some (.bl true, false) := by simp [isiD, tyN, kinds, isA, isAny]
theorem q_is_dct_int {x : List (Key × D)} : isiD [(.dct x), .ty "int"] = some (.bl false, false) := by simp [isiD, tyN, kinds, isA]
theorem q_is_dct_bool {x : List (Key × D)} : isiD [(.dct x), .ty "bool"] = some (.bl false, false) := by simp [isiD, tyN, kinds, isA]
theorem q_is_dct_str {x : List (Key × D)} : isiD [(.dct x), .ty "str"] = some (.bl false, false) := by simp [isiD, tyN, kinds, isA]
theorem q_is_dct_list {x : List (Key × D)} : isiD [(.dct x), .ty "list"] = some (.bl false, false) := by simp [isiD, tyN, kinds, isA]
theorem q_is_dct_tuple {x : List (Key × D)} : isiD [(.dct x), .ty "tuple"] = some (.bl false, false) := by simp [isiD, tyN, kinds, isA]
theorem q_is_dct_dict {x : List (Key × D)} : isiD [(.dct x), .ty "dict"] = some (.bl true, false) := by simp [isiD, tyN, kinds, isA]
theorem q_is_dct_tuple_list {x : List (Key × D)} : isiD [(.dct x), .tup [.ty "tuple", .ty "list"]] = some (.bl false, false) := by simp [isiD, tyN, kinds, isA, isAny]
theorem q_is_dct_list_tuple {x : List (Key × D)} : isiD [(.dct x), .tup [.ty "list", .ty "tuple"]] = some (.bl false, false) := by simp [isiD, tyN, kinds, isA, isAny]
def fdA :=
  And.intro (@q_hold_d) <| And.intro (@q_hold_f) <| And.intro (@q_hold_s) <| And.intro (@q_peek_d) <| And.intro (@q_peek_f) <| And.intro (@q_peek_s) <| And.intro (@q_pkS_v) <| And.intro (@q_pkS_o) <| And.intro (@q_give_d) <| And.intro (@q_give_f) <| And.intro (@q_give_s) <| And.intro (@q_gvS_v) <| And.intro (@q_gvS_o) <| And.intro (@q_giveAll_n) <| And.intro (@q_giveAll_c) <| And.intro (@q_gvA) <| And.intro (@q_gvB) <| And.intro (@q_peekAll_n) <| And.intro (@q_peekAll_c) <| And.intro (@q_pkB) <| And.intro (@q_resOf_t) <| And.intro (@q_resOf_f) <| And.intro (@q_var) <| And.intro (@q_varK_v) <| And.intro (@q_varK_o) <| And.intro (@q_con) <| And.intro (@q_bnd) <| And.intro (@q_dnO) <| And.intro (@q_op2) <| And.intro (@q_op1) <| And.intro (@q_bin) <| And.intro (@q_binK) <| And.intro (@q_binK2) <| And.intro (@q_un) <| And.intro (@q_unK) <| And.intro (@q_branch) <| And.intro (@q_brK) <| And.intro (@q_brB_t) <| And.intro (@q_brB_f) <| And.intro (@q_and) <| And.intro (@q_or) <| And.intro (@q_not) <| And.intro (@q_nilA) <| And.intro (@q_consA) <| And.intro (@q_cnsK) <| And.intro (@q_cnsA) <| And.intro (@q_abnd) <| And.intro (@q_disp) <| And.intro (@q_dspK) <| And.intro (@q_dspO) <| And.intro (@q_tup) <| And.intro (@q_lst) <| And.intro (@q_opA) <| And.intro (@q_call) <| And.intro (@q_clK) <| And.intro (@q_ucall) <| And.intro (@q_ucK) <| And.intro (@q_ucO) <| And.intro (@q_fOut) <| And.intro (@q_seq) <| And.intro (@q_sqO_nx) <| And.intro (@q_sqO_rt) <| And.intro (@q_sqO_bk) <| And.intro (@q_sqO_ct) <| And.intro (@q_sqO_ex) <| And.intro (@q_nx) <| And.intro (@q_bk) <| And.intro (@q_ct) <| And.intro (@q_sbnd) <| And.intro (@q_drop) <| And.intro (@q_drK) <| And.intro (@q_ret) <| And.intro (@q_rtK_d) <| And.intro (@q_rtK_f) <| And.intro (@q_rtK_s) <| And.intro (@q_rtS_v) <| And.intro (@q_rtS_o) <| And.intro (@q_retN) <| And.intro (@q_if) <| And.intro (@q_ifK) <| And.intro (@q_ifB_t) <| And.intro (@q_ifB_f) <| And.intro (@q_stN) <| And.intro (@q_set) <| And.intro (@q_stK) <| And.intro (@q_store_d) <| And.intro (@q_store_f) <| And.intro (@q_store_s) <| And.intro (@q_stS_v) <| And.intro (@q_stS_o) <| And.intro (@q_asg) <| And.intro (@q_asK) <| And.intro (@q_asO) <| And.intro (@q_par) <| And.intro (@q_paK) <| And.intro (@q_paO) <| And.intro (@q_paK2) <| And.intro (@q_paN) <| And.intro (@q_parN) <| And.intro (@q_pnK) <| And.intro (@q_pnN) <| And.intro (@q_mut) <| And.intro (@q_muA) <| And.intro (@q_muK) <| And.intro (@q_muO) <| And.intro (@q_muX) <| And.intro (@q_for) <| And.intro (@q_frO) <| And.intro (@q_seqI) <| And.intro (@q_siB) <| And.intro (@q_sqA) <| And.intro (@q_itA) <| And.intro (@q_itO) <| And.intro (@q_items_l) <| And.intro (@q_items_t) <| And.intro (@q_callI) <| And.intro (@q_ciB) <| And.intro (@q_opI) <| And.intro (@q_lc) <| And.intro (@q_lcO) <| And.intro (@q_lcR) <| And.intro (@q_nameG) <| And.intro (@q_nilG) <| And.intro (@q_consG) <| And.intro (@q_cgO) <| And.intro (@q_tupG) <| And.intro (@q_lstG) <| And.intro (@q_run) <| And.intro (@q_out_n) <| And.intro (@q_out_d) <| And.intro (@q_out_f) <| And.intro (@q_whL) <| And.intro (@q_whO_nx) <| And.intro (@q_whO_ct) <| And.intro (@q_whO_bk) <| And.intro (@q_whO_rt) <| And.intro (@q_putAt) <| And.intro (@q_putS) <| And.intro (@q_putJ) <| And.intro (@q_setIx) <| And.intro (@q_siK) <| And.intro (@q_siO) <| And.intro (@q_siG) <| And.intro (@q_siK2) <| And.intro (@q_siP) <| And.intro (@q_aug) <| And.intro (@q_agS) <| And.intro (@q_agK) <| And.intro (@q_agO) <| And.intro (@q_sl) <| And.intro (@q_slL) <| And.intro (@q_slH) <| And.intro (@q_slP) <| And.intro (@q_ptK) <| And.intro (@q_ptI) <| And.intro (@q_ptD_n) <| And.intro (@q_ptD_i) <| And.intro (@q_slice_l) <| And.intro (@q_slice_t) <| And.intro (@q_rev) <| And.intro (@q_rev_l) <| And.intro (@q_rev_t) <| And.intro (@q_is_non_int) <| And.intro (@q_is_non_bool) <| And.intro (@q_is_non_str) <| And.intro (@q_is_non_list) <| And.intro (@q_is_non_tuple) <| And.intro (@q_is_non_dict) <| And.intro (@q_is_non_tuple_list) <| And.intro (@q_is_non_list_tuple) <| And.intro (@q_is_bl_int) <| And.intro (@q_is_bl_bool) <| And.intro (@q_is_bl_str) <| And.intro (@q_is_bl_list) <| And.intro (@q_is_bl_tuple) <| And.intro (@q_is_bl_dict) <| And.intro (@q_is_bl_tuple_list) <| And.intro (@q_is_bl_list_tuple) <| And.intro (@q_is_int_int) <| And.intro (@q_is_int_bool) <| And.intro (@q_is_int_str) <| And.intro (@q_is_int_list) <| And.intro (@q_is_int_tuple) <| And.intro (@q_is_int_dict) <| And.intro (@q_is_int_tuple_list) <| And.intro (@q_is_int_list_tuple) <| And.intro (@q_is_str_int) <| And.intro (@q_is_str_bool) <| And.intro (@q_is_str_str) <| And.intro (@q_is_str_list) <| And.intro (@q_is_str_tuple) <| And.intro (@q_is_str_dict) <| And.intro (@q_is_str_tuple_list) <| And.intro (@q_is_str_list_tuple) <| And.intro (@q_is_tup_int) <| And.intro (@q_is_tup_bool) <| And.intro (@q_is_tup_str) <| And.intro (@q_is_tup_list) <| And.intro (@q_is_tup_tuple) <| And.intro (@q_is_tup_dict) <| And.intro (@q_is_tup_tuple_list) <| And.intro (@q_is_tup_list_tuple) <| And.intro (@q_is_lst_int) <| And.intro (@q_is_lst_bool) <| And.intro (@q_is_lst_str) <| And.intro (@q_is_lst_list) <| And.intro (@q_is_lst_tuple) <| And.intro (@q_is_lst_dict) <| And.intro (@q_is_lst_tuple_list) <| And.intro (@q_is_lst_list_tuple) <| And.intro (@q_is_dct_int) <| And.intro (@q_is_dct_bool) <| And.intro (@q_is_dct_str) <| And.intro (@q_is_dct_list) <| And.intro (@q_is_dct_tuple) <| And.intro (@q_is_dct_dict) <| And.intro (@q_is_dct_tuple_list) (@q_is_dct_list_tuple)
abbrev tpI (ns : List Int) : D := .tup (ns.map D.int)
theorem next_eq {t : DS} {m : Int} {n : Nat} (h1 : 0 < m) (h2 : m < 2 ^ 64) (h3 : t.c < 2 ^ 40) : FF_q_next [.hnd n, .int m] t = some (.ok (.int (t.draw m)) false, t.step m) := by
  unfold FF_q_next
  exact if_pos ⟨h1, h2, h3⟩
end FD

/-! F23: what the operations give for data of known kinds. -/
namespace FD
open PySem PySem.Spec PyProof.Rows L2
theorem eqv_int (a b : Int) : PyData.eqv (.int a) (.int b) = decide (a = b) := by
  simp only [PyData.eqv]
  by_cases h : a = b <;> simp [h]
theorem eqv_bl (a b : Bool) : PyData.eqv (.bool a) (.bool b) = decide (a = b) := by
  cases a <;> cases b <;> simp [PyData.eqv]
theorem okAll_int (n : Nat) : ∀ ns : List Int, okAll n (ns.map D.int) = true
  | [] => rfl
  | a :: r => by simp [okAll, okD, okAll_int n r]
theorem pys_int : ∀ ns : List Int, pys (ns.map D.int) = ns.map PyData.int
  | [] => rfl
  | a :: r => by simp [pys, py, pys_int r]
theorem eqvAll_int : ∀ a b : List Int, PyData.eqvAll (a.map PyData.int) (b.map PyData.int) = decide (a = b)
  | [], [] => by simp [PyData.eqvAll]
  | [], b :: bs => by simp [PyData.eqvAll]
  | a :: r, [] => by simp [PyData.eqvAll]
  | a :: r, b :: bs => by simp [PyData.eqvAll, eqv_int, eqvAll_int r bs]
theorem v_eq_int {a b : Int} : eqD (.int a) (.int b) = some (.bl (decide (a = b)), false) := by
  simp [eqD, okD, eqB, py, eqv_int]
theorem v_ne_int {a b : Int} : neD (.int a) (.int b) = some (.bl (!decide (a = b)), false) := by
  simp [neD, okD, eqB, py, eqv_int]
theorem v_eq_bl {a b : Bool} : eqD (.bl a) (.bl b) = some (.bl (decide (a = b)), false) := by
  simp [eqD, okD, eqB, py, eqv_bl]
theorem v_ne_bl {a b : Bool} : neD (.bl a) (.bl b) = some (.bl (!decide (a = b)), false) := by
  simp [neD, okD, eqB, py, eqv_bl]
theorem v_eq_str {a b : Str} : eqD (.str a) (.str b) = some (.bl (decide (a = b)), false) := (rfl)
theorem v_ne_str {a b : Str} : neD (.str a) (.str b) = some (.bl (!decide (a = b)), false) := (rfl)
theorem v_eq_tpI {a b : List Int} : eqD (.tup (a.map D.int)) (.tup (b.map D.int)) = some (.bl (decide (a = b)), false) := by
  simp [eqD, okD, eqB, py, okAll_int, pys_int, PyData.eqv, eqvAll_int]
theorem v_ne_tpI {a b : List Int} : neD (.tup (a.map D.int)) (.tup (b.map D.int)) = some (.bl (!decide (a = b)), false) := by
  simp [neD, okD, eqB, py, okAll_int, pys_int, PyData.eqv, eqvAll_int]
theorem v_eq_lsI {a b : List Int} : eqD (.lst (a.map D.int)) (.lst (b.map D.int)) = some (.bl (decide (a = b)), false) := by
  simp [eqD, okD, eqB, py, okAll_int, pys_int, PyData.eqv, eqvAll_int]
theorem v_ne_lsI {a b : List Int} : neD (.lst (a.map D.int)) (.lst (b.map D.int)) = some (.bl (!decide (a = b)), false) := by
  simp [neD, okD, eqB, py, okAll_int, pys_int, PyData.eqv, eqvAll_int]
theorem v_eq_nil {a : List D} (h : okAll 63 a = true) : eqD (.lst a) (.lst []) = some (.bl a.isEmpty, false) := by
  cases a with
  | nil => simp [eqD, okD, okAll, eqB, py, pys, PyData.eqv, PyData.eqvAll]
  | cons x r =>
    have h' : okD 64 (.lst (x :: r)) = true := by unfold okD; exact h
    have h2 : okD 64 (.lst []) = true := by simp [okD, okAll]
    show (if okD 64 (.lst (x :: r)) = true ∧ okD 64 (.lst []) = true then _ else _) = _
    rw [if_pos ⟨h', h2⟩]
    simp [eqB, py, pys, PyData.eqv, PyData.eqvAll]
theorem v_is_bl {a : Bool} : isD (.bl a) .non = some (.bl false, false) := (rfl)
theorem v_is_int {a : Int} : isD (.int a) .non = some (.bl false, false) := (rfl)
theorem v_is_str {a : Str} : isD (.str a) .non = some (.bl false, false) := (rfl)
theorem v_is_tup {a : List D} : isD (.tup a) .non = some (.bl false, false) := (rfl)
theorem v_is_lst {a : List D} : isD (.lst a) .non = some (.bl false, false) := (rfl)
theorem v_is_non : isD .non .non = some (.bl true, false) := (rfl)
theorem v_is_bb {a b : Bool} : isD (.bl a) (.bl b) = some (.bl (decide (a = b)), false) := (rfl)
theorem v_isnt_bl {a : Bool} : isntD (.bl a) .non = some (.bl true, false) := (rfl)
theorem v_isnt_int {a : Int} : isntD (.int a) .non = some (.bl true, false) := (rfl)
theorem v_isnt_str {a : Str} : isntD (.str a) .non = some (.bl true, false) := (rfl)
theorem v_isnt_tup {a : List D} : isntD (.tup a) .non = some (.bl true, false) := (rfl)
theorem v_isnt_lst {a : List D} : isntD (.lst a) .non = some (.bl true, false) := (rfl)
theorem v_isnt_non : isntD .non .non = some (.bl false, false) := (rfl)
theorem v_add_int {a b : Int} : addD (.int a) (.int b) = some (.int (a + b), false) := (rfl)
theorem v_sub_int {a b : Int} : subD (.int a) (.int b) = some (.int (a - b), false) := (rfl)
theorem v_addI {a b : Int} : addI (.int a) (.int b) = some (.int (a + b), false) := (rfl)
theorem v_subI {a b : Int} : subI (.int a) (.int b) = some (.int (a - b), false) := (rfl)
theorem v_lt {a b : Int} : ltD (.int a) (.int b) = some (.bl (decide (a < b)), false) := (rfl)
theorem v_le {a b : Int} : leD (.int a) (.int b) = some (.bl (decide (a ≤ b)), false) := (rfl)
theorem v_gt {a b : Int} : gtD (.int a) (.int b) = some (.bl (decide (b < a)), false) := (rfl)
theorem v_ge {a b : Int} : geD (.int a) (.int b) = some (.bl (decide (b ≤ a)), false) := (rfl)
theorem v_len_t {a : List D} : lenD [.tup a] = some (.int a.length, false) := (rfl)
theorem v_len_l {a : List D} : lenD [.lst a] = some (.int a.length, false) := (rfl)
theorem v_sum_t {a : List Int} : sumD [.tup (a.map D.int)] = some (.int a.sum, false) := by
  simp [sumD, intsD_map]
theorem v_sum_l {a : List Int} : sumD [.lst (a.map D.int)] = some (.int a.sum, false) := by
  simp [sumD, intsD_map]
theorem v_tuple_l {a : List D} : tupleD [.lst a] = some (.tup a, false) := (rfl)
theorem v_tuple_t {a : List D} : tupleD [.tup a] = some (.tup a, false) := (rfl)
theorem v_list_l {a : List D} : listD [.lst a] = some (.lst a, true) := (rfl)
theorem v_list_t {a : List D} : listD [.tup a] = some (.lst a, true) := (rfl)
theorem v_int_i {a : Int} : intD [.int a] = some (.int a, false) := (rfl)
theorem v_int_b {a : Bool} : intD [.bl a] = some (.int (if a then 1 else 0), false) := (rfl)
theorem v_sort_t {b : Bool} {a : List Int} : sortBD b [.tup (a.map D.int)] = some (.lst ((sortOf b a).map D.int), true) := by
  simp [sortBD, intsD_map]
theorem v_sort_l {b : Bool} {a : List Int} : sortBD b [.lst (a.map D.int)] = some (.lst ((sortOf b a).map D.int), true) := by
  simp [sortBD, intsD_map]
theorem v_zip_l {a b : List D} : zipD [.lst a, .lst b] = some (pairD a b) := (rfl)
theorem v_zip_t {a b : List D} : zipD [.tup a, .tup b] = some (pairD a b) := (rfl)
theorem v_ix_t {a : List D} {i : Int} {d : D} (e : atI a i = some d) : ixD (.tup a) (.int i) = some (d, false) := by
  simp [ixD, e]
theorem v_ix_l {a : List D} {i : Int} {d : D} (e : atI a i = some d) : ixD (.lst a) (.int i) = some (d, false) := by
  simp [ixD, e]
theorem atI_map {a : List Int} {i : Int} (h0 : 0 ≤ i) (h1 : i < a.length) : atI (a.map D.int) i = some (.int (a[i.toNat]?.getD 0)) := by
  obtain ⟨k, rfl⟩ := Int.eq_ofNat_of_zero_le h0
  have hk : k < a.length := by omega
  have e : (a.map D.int)[k]? = some (D.int a[k]) := by simp [hk]
  rw [atI_nat e]
  simp [hk]
theorem rngL_len (lo hi : Int) : (rngL lo hi).length = (hi - lo).toNat := by
  unfold rngL
  simp
theorem v_rng1 {j : Int} (h : small j = true) : rng1D [.int j] = some (rngL 0 j) := if_pos h
theorem small_of {i : Int} (h : -(2 ^ 60) ≤ i ∧ i ≤ 2 ^ 60) : small i = true := decide_eq_true h
theorem ixN_of {n : Nat} {i : Int} (h0 : 0 ≤ i) (h1 : i < n) : ixN n i = some i.toNat := by
  unfold ixN
  rw [if_pos h0, if_pos (by omega)]
theorem set_int {ns : List Int} {k : Nat} {x : Int} : (ns.map D.int).set k (.int x) = (ns.set k x).map D.int := by
  rw [List.map_set]
theorem app_int {ns : List Int} {x : Int} : ns.map D.int ++ [D.int x] = (ns ++ [x]).map D.int := by
  rw [List.map_append]
  rfl
def fvA :=
  And.intro (@v_eq_int) <| And.intro (@v_ne_int) <| And.intro (@v_eq_bl) <| And.intro (@v_ne_bl) <| And.intro (@v_eq_str) <| And.intro (@v_ne_str) <| And.intro (@v_eq_tpI) <| And.intro (@v_ne_tpI) <| And.intro (@v_eq_lsI) <| And.intro (@v_ne_lsI) <| And.intro (@v_is_bl) <| And.intro (@v_is_int) <| And.intro (@v_is_str) <| And.intro (@v_is_tup) <| And.intro (@v_is_lst) <| And.intro (@v_is_non) <| And.intro (@v_is_bb) <| And.intro (@v_isnt_bl) <| And.intro (@v_isnt_int) <| And.intro (@v_isnt_str) <| And.intro (@v_isnt_tup) <| And.intro (@v_isnt_lst) <| And.intro (@v_isnt_non) <| And.intro (@v_add_int) <| And.intro (@v_sub_int) <| And.intro (@v_addI) <| And.intro (@v_subI) <| And.intro (@v_lt) <| And.intro (@v_le) <| And.intro (@v_gt) <| And.intro (@v_ge) <| And.intro (@v_len_t) <| And.intro (@v_len_l) <| And.intro (@v_sum_t) <| And.intro (@v_sum_l) <| And.intro (@v_tuple_l) <| And.intro (@v_tuple_t) <| And.intro (@v_list_l) <| And.intro (@v_list_t) <| And.intro (@v_int_i) <| And.intro (@v_int_b) <| And.intro (@v_sort_t) <| And.intro (@v_sort_l) <| And.intro (@v_zip_l) <| And.intro (@v_zip_t) <| And.intro (@set_int) <| (@app_int)
end FD

/-! F24: loops and comprehensions over lists of known kind. -/
namespace FD
open PySem PySem.Spec PyProof.Rows L2
section
variable {T : Type}
def flO (g : GF) (b : SF T) (ds : List D) : Option (SOut × Sg T) → Option (SOut × Sg T)
  | none => none
  | some (.nx, s1) => forL g b ds s1
  | some (.ct, s1) => forL g b ds s1
  | some (.bk, s1) => some (.nx, s1)
  | some (.rt r, s1) => some (.rt r, s1)
  | some (.ex c fs, s1) => some (.ex c fs, s1)
def flT (g : GF) (b : SF T) (ds : List D) (t : T) : Option (List Sl) → Option (SOut × Sg T)
  | none => none
  | some τ => flO g b ds (b (τ, t))
theorem q_forL_n {g : GF} {b : SF T} {s : Sg T} : forL g b [] s = some (.nx, s) := (rfl)
theorem q_forL_c {g : GF} {b : SF T} {d : D} {ds : List D} {s : Sg T} : forL g b (d :: ds) s = flT g b ds s.2 (g d s.1) := by
  show (match g d s.1 with
    | none => none
    | some τ => match b (τ, s.2) with
      | none => none
      | some (.nx, s1) => forL g b ds s1
      | some (.ct, s1) => forL g b ds s1
      | some (.bk, s1) => some (.nx, s1)
      | some (.rt r, s1) => some (.rt r, s1)
      | some (.ex c fs, s1) => some (.ex c fs, s1)) = _
  unfold flT flO
  cases g d s.1 with
  | none => rfl
  | some τ => rfl
theorem q_flT {g : GF} {b : SF T} {ds : List D} {t : T} {τ : List Sl} : flT g b ds t (some τ) = flO g b ds (b (τ, t)) := (rfl)
theorem q_flO_nx {g : GF} {b : SF T} {ds : List D} {s : Sg T} : flO g b ds (some (.nx, s)) = forL g b ds s := (rfl)
theorem q_flO_ct {g : GF} {b : SF T} {ds : List D} {s : Sg T} : flO g b ds (some (.ct, s)) = forL g b ds s := (rfl)
theorem q_flO_bk {g : GF} {b : SF T} {ds : List D} {s : Sg T} : flO g b ds (some (.bk, s)) = some (.nx, s) := (rfl)
theorem q_flO_rt {g : GF} {b : SF T} {ds : List D} {s : Sg T} {r : Res} : flO g b ds (some (.rt r, s)) = some (.rt r, s) := (rfl)
/-- a comprehension whose parts leave the state as it is -/
theorem lcL_fm {A : Type} {g : GF} {c e : EF T} {τ0 : List Sl} {t : T} (mk f : A → D) (p : A → Bool) : ∀ (as : List A),
    (∀ a ∈ as, ∃ τ1 rc τ2, g (mk a) τ0 = some τ1 ∧ c (τ1, t) = some (.ok rc, (τ2, t)) ∧ peek τ2 (hold rc) = some (.bl (p a)) ∧ (p a = true → ∃ r τ3 τ4, e (τ2, t) = some (.ok r, (τ3, t)) ∧ give τ3 r = some (f a, τ4))) →
    lcL g c e τ0 (as.map mk) t = some ((as.filter p).map f, t)
  | [], _ => rfl
  | a :: as, h => by
    obtain ⟨τ1, rc, τ2, e1, e2, e3, k⟩ := h a (List.mem_cons_self ..)
    have ih := lcL_fm mk f p as fun b hb => h b (List.mem_cons_of_mem _ hb)
    rw [List.map_cons]
    unfold lcL
    simp only [e1, e2, e3]
    cases hp : p a with
    | false =>
      simp only [ih]
      rw [List.filter_cons_of_neg (by simp [hp])]
    | true =>
      obtain ⟨r, τ3, τ4, e4, e5⟩ := k hp
      simp only [e4, e5, ih]
      rw [List.filter_cons_of_pos hp]
      rfl
/-- a comprehension without a condition, the state walking along -/
theorem lcL_inv {g : GF} {e : EF T} {τ0 : List Sl} (I : Nat → T → Prop) (P : Nat → D → Prop) : ∀ (ds : List D) (k : Nat) (t : T),
    (∀ i d t, ds[i]? = some d → I (k + i) t → ∃ τ1 r τ3 t' v τ4, g d τ0 = some τ1 ∧ e (τ1, t) = some (.ok r, (τ3, t')) ∧ give τ3 r = some (v, τ4) ∧ P (k + i) v ∧ I (k + i + 1) t') → I k t →
    ∃ out t', lcL g yesF e τ0 ds t = some (out, t') ∧ out.length = ds.length ∧ (∀ i v, out[i]? = some v → P (k + i) v) ∧ I (k + ds.length) t'
  | [], k, t, _, h => ⟨[], t, rfl, rfl, fun _ _ e => by simp at e, h⟩
  | d :: ds, k, t, st, h => by
    obtain ⟨τ1, r, τ3, t1, v, τ4, e1, e2, e3, p, h1⟩ := st 0 d t rfl h
    obtain ⟨out, t', e4, l, ps, h2⟩ := lcL_inv I P ds (k + 1) t1 (fun i d' t e hI => by
      have := st (i + 1) d' t e (by rw [show k + (i + 1) = k + 1 + i by omega]; exact hI)
      rwa [show k + (i + 1) + 1 = k + 1 + i + 1 by omega, show k + (i + 1) = k + 1 + i by omega] at this) h1
    refine ⟨v :: out, t', ?_, by simp [l], ?_, by rw [List.length_cons, show k + (ds.length + 1) = k + 1 + ds.length by omega]; exact h2⟩
    · unfold lcL
      have y : (yesF : EF T) (τ1, t) = some (.ok (.d (.bl true)), (τ1, t)) := (rfl)
      simp only [e1, y, peek, hold, e2, e3, e4]
    · intro i w e
      cases i with
      | zero => cases e; exact p
      | succ i => rw [show k + (i + 1) = k + 1 + i by omega]; exact ps i w e
theorem q_share_n {τ : List Sl} : shareAll [] τ = τ := (rfl)
def shO (i : Nat) (τ : List Sl) : Option Sl → List Sl
  | some (.o d) => τ.set i (.v d)
  | _ => τ
theorem q_share_c {i : Nat} {is : List Nat} {τ : List Sl} : shareAll (i :: is) τ = shareAll is (shO i τ τ[i]?) := by
  show shareAll is (match τ[i]? with
    | some (.o d) => τ.set i (.v d)
    | _ => τ) = _
  congr 1
theorem q_shO_v {i : Nat} {τ : List Sl} {d : D} : shO i τ (some (.v d)) = τ := (rfl)
theorem q_shO_o {i : Nat} {τ : List Sl} {d : D} : shO i τ (some (.o d)) = τ.set i (.v d) := (rfl)
theorem q_shO_n {i : Nat} {τ : List Sl} : shO i τ (some .no) = τ := (rfl)
theorem q_hide_n {vs : List Nat} {k : Nat} : hideFrom vs k [] = [] := (rfl)
theorem q_hide_c {vs : List Nat} {k : Nat} {s : Sl} {r : List Sl} : hideFrom vs k (s :: r) = (if k ∈ vs then .no else unown s) :: hideFrom vs (k + 1) r := (rfl)
theorem q_unown_v {d : D} : unown (.v d) = .v d := (rfl)
theorem q_unown_o {d : D} : unown (.o d) = .no := (rfl)
theorem q_unown_n : unown .no = .no := (rfl)
end
def fhA :=
  And.intro (@q_forL_n) <| And.intro (@q_forL_c) <| And.intro (@q_flT) <| And.intro (@q_flO_nx) <| And.intro (@q_flO_ct) <| And.intro (@q_flO_bk) <| And.intro (@q_flO_rt) <| And.intro (@q_share_n) <| And.intro (@q_share_c) <| And.intro (@q_shO_v) <| And.intro (@q_shO_o) <| And.intro (@q_shO_n) <| And.intro (@q_hide_n) <| And.intro (@q_hide_c) <| And.intro (@q_unown_v) <| And.intro (@q_unown_o) (@q_unown_n)
end FD

namespace FD
open PySem PySem.Spec PyProof.Rows L2
/-! ### data that repr can show -/
structure Tame (k n : Nat) (d : PyData) : Prop where
  sh : d.showable = true
  dp : d.depth ≤ k
  lv : d.leavesShort 70 = true
  bk : d.bulk ≤ n
theorem Tame.mono {k n k' n' : Nat} {d : PyData} (h : Tame k n d) (h1 : k ≤ k') (h2 : n ≤ n') : Tame k' n' d := ⟨h.sh, Nat.le_trans h.dp h1, h.lv, Nat.le_trans h.bk h2⟩
theorem Tame.fits {k n : Nat} {d : PyData} (h : Tame k n d) (hk : k ≤ 60) (hn : n ≤ 200000) : d.showable = true ∧ d.depth ≤ 60 ∧ d.shown.length ≤ sizeLine := by
  refine ⟨h.sh, Nat.le_trans h.dp hk, ?_⟩
  have := PyData.shown_le_bulk 70 (by decide) d h.lv
  have := h.bk
  rw [sizeLine_eq]
  omega
theorem log_lt {a : Nat} (h : a < 10 ^ 60) : a.log2 < 1920 := by
  by_cases h0 : a = 0
  · subst h0
    decide
  · have : a.log2 < 200 := (Nat.log2_lt h0).mpr (Nat.lt_of_lt_of_le h (by decide))
    omega
theorem tame_int {i : Int} (h : i.natAbs < 10 ^ 60) : Tame 0 0 (.int i) := by
  refine ⟨?_, ?_, ?_, ?_⟩
  · simp only [PyData.showable, decide_eq_true_eq]
    exact log_lt h
  · simp [PyData.depth]
  · have h1 := int_text_length_le10 (k := 60) (by decide) h
    have h2 : (PyData.shown (.int i)).length ≤ 70 := by
      have e : PyData.shown (.int i) = Str.ofString (toString i) := by simp only [PyData.shown]
      rw [e, PySem.ofString_length]
      omega
    simp only [PyData.leavesShort]
    exact decide_eq_true h2
  · simp [PyData.bulk]
theorem Tame.shown_ok {k n : Nat} {d : PyData} (h : Tame k n d) (hk : k ≤ 60) (hn : n ≤ 200000) : Shown d := h.fits hk hn
end FD

/-! F26: {}. -/
namespace FD
open PySem PySem.Spec PyProof.Rows L2
end FD

set_option maxHeartbeats 1000000
/-! F27: enumerate over a tuple. -/
namespace FD
open PySem PySem.Spec PyProof.Rows L2
section
variable {Z : Wd} {X : Cx} {C : Fx Z}
end
end FD

/-! F28: str(). -/
namespace FD
open PySem PySem.Spec PyProof.Rows L2
theorem units65 {k : Nat} {A : Around} (r : Room k A) : A.units + 65 < cLine := by
  have := r.un
  omega
end FD

/-! F29: three names at once. -/
namespace FD
open PySem PySem.Spec PyProof.Rows L2
section
variable {Z : Wd} {X : Cx} {C : Fx Z}
end
end FD

/-! F30: what holds behind a function of data: the part that waits comes to the front, what follows it stands behind. -/
namespace FD
open PySem PySem.Spec PyProof.Rows L2
section
variable {T : Type}
def wS (x : Option (SOut × Sg T)) (Q : SOut → Sg T → Prop) : Prop := ∃ o s, x = some (o, s) ∧ Q o s
def wE (x : Option (Out × Sg T)) (Q : Out → Sg T → Prop) : Prop := ∃ o s, x = some (o, s) ∧ Q o s
def wA (x : Option (OutA × Sg T)) (Q : OutA → Sg T → Prop) : Prop := ∃ o s, x = some (o, s) ∧ Q o s
def wI (x : Option (OutI × Sg T)) (Q : OutI → Sg T → Prop) : Prop := ∃ o s, x = some (o, s) ∧ Q o s
def wF (x : Option (FOut × T)) (Q : FOut → T → Prop) : Prop := ∃ o s, x = some (o, s) ∧ Q o s
def wL (x : Option (List D × T)) (Q : List D → T → Prop) : Prop := ∃ o s, x = some (o, s) ∧ Q o s
def wG (x : Option (List Sl)) (Q : List Sl → Prop) : Prop := ∃ o, x = some o ∧ Q o
def wV (x : Option (D × Bool)) (Q : D → Bool → Prop) : Prop := ∃ d b, x = some (d, b) ∧ Q d b
theorem w_S {o : SOut} {s : Sg T} {Q : SOut → Sg T → Prop} : wS (some (o, s)) Q = Q o s := propext ⟨fun ⟨_, _, e, h⟩ => by cases e; exact h, fun h => ⟨_, _, rfl, h⟩⟩
theorem w_E {o : Out} {s : Sg T} {Q : Out → Sg T → Prop} : wE (some (o, s)) Q = Q o s := propext ⟨fun ⟨_, _, e, h⟩ => by cases e; exact h, fun h => ⟨_, _, rfl, h⟩⟩
theorem w_A {o : OutA} {s : Sg T} {Q : OutA → Sg T → Prop} : wA (some (o, s)) Q = Q o s := propext ⟨fun ⟨_, _, e, h⟩ => by cases e; exact h, fun h => ⟨_, _, rfl, h⟩⟩
theorem w_I {o : OutI} {s : Sg T} {Q : OutI → Sg T → Prop} : wI (some (o, s)) Q = Q o s := propext ⟨fun ⟨_, _, e, h⟩ => by cases e; exact h, fun h => ⟨_, _, rfl, h⟩⟩
theorem w_F {o : FOut} {s : T} {Q : FOut → T → Prop} : wF (some (o, s)) Q = Q o s := propext ⟨fun ⟨_, _, e, h⟩ => by cases e; exact h, fun h => ⟨_, _, rfl, h⟩⟩
theorem w_L {o : List D} {s : T} {Q : List D → T → Prop} : wL (some (o, s)) Q = Q o s := propext ⟨fun ⟨_, _, e, h⟩ => by cases e; exact h, fun h => ⟨_, _, rfl, h⟩⟩
theorem w_G {o : List Sl} {Q : List Sl → Prop} : wG (some o) Q = Q o := propext ⟨fun ⟨_, e, h⟩ => by cases e; exact h, fun h => ⟨_, rfl, h⟩⟩
theorem w_V {d : D} {b : Bool} {Q : D → Bool → Prop} : wV (some (d, b)) Q = Q d b := propext ⟨fun ⟨_, _, e, h⟩ => by cases e; exact h, fun h => ⟨_, _, rfl, h⟩⟩
/-! ### statements -/
def sqQ (g : SF T) (Q : SOut → Sg T → Prop) : SOut → Sg T → Prop
  | .nx, s => wS (g s) Q
  | o, s => Q o s
theorem w_sqO {g : SF T} {x : Option (SOut × Sg T)} {Q : SOut → Sg T → Prop} : wS (sqO g x) Q = wS x (sqQ g Q) := by
  rcases x with _ | ⟨o, s⟩
  · exact propext ⟨fun ⟨_, _, e, _⟩ => (nomatch e), fun ⟨_, _, e, _⟩ => (nomatch e)⟩
  · rw [w_S]
    cases o with
    | nx => rfl
    | rt r => exact w_S
    | bk => exact w_S
    | ct => exact w_S
    | ex c fs => exact w_S
theorem w_sqQ_nx {g : SF T} {Q : SOut → Sg T → Prop} {s : Sg T} : sqQ g Q .nx s = wS (g s) Q := (rfl)
theorem w_sqQ_rt {g : SF T} {Q : SOut → Sg T → Prop} {s : Sg T} {r : Res} : sqQ g Q (.rt r) s = Q (.rt r) s := (rfl)
theorem w_sqQ_bk {g : SF T} {Q : SOut → Sg T → Prop} {s : Sg T} : sqQ g Q .bk s = Q .bk s := (rfl)
theorem w_sqQ_ct {g : SF T} {Q : SOut → Sg T → Prop} {s : Sg T} : sqQ g Q .ct s = Q .ct s := (rfl)
theorem w_sqQ_ex {g : SF T} {Q : SOut → Sg T → Prop} {s : Sg T} {c : Str} {fs : List (Str × D)} : sqQ g Q (.ex c fs) s = Q (.ex c fs) s := (rfl)
def sbQ (k : Res → SF T) (Q : SOut → Sg T → Prop) : Out → Sg T → Prop
  | .ok r, s => wS (k r s) Q
  | .ex c fs, s => Q (.ex c fs) s
theorem w_sbnd {k : Res → SF T} {x : Option (Out × Sg T)} {Q : SOut → Sg T → Prop} : wS (sbnd k x) Q = wE x (sbQ k Q) := by
  rcases x with _ | ⟨o, s⟩
  · exact propext ⟨fun ⟨_, _, e, _⟩ => (nomatch e), fun ⟨_, _, e, _⟩ => (nomatch e)⟩
  · rw [w_E]
    cases o with
    | ok r => rfl
    | ex c fs => exact w_S
theorem w_sbQ {k : Res → SF T} {Q : SOut → Sg T → Prop} {r : Res} {s : Sg T} : sbQ k Q (.ok r) s = wS (k r s) Q := (rfl)
theorem w_sbQ_ex {k : Res → SF T} {Q : SOut → Sg T → Prop} {c : Str} {fs : List (Str × D)} {s : Sg T} : sbQ k Q (.ex c fs) s = Q (.ex c fs) s := (rfl)
theorem w_ifB {g h : SF T} {s : Sg T} {b : Bool} {Q : SOut → Sg T → Prop} : wS (ifB g h s (some (.bl b))) Q = ((b = true → wS (g s) Q) ∧ (b = false → wS (h s) Q)) := by
  cases b
  · exact propext ⟨fun k => ⟨(fun z => nomatch z), fun _ => k⟩, fun k => k.2 rfl⟩
  · exact propext ⟨fun k => ⟨fun _ => k, (fun z => nomatch z)⟩, fun k => k.1 rfl⟩
/-! ### expressions -/
def bnQ (k : Res → EF T) (Q : Out → Sg T → Prop) : Out → Sg T → Prop
  | .ok r, s => wE (k r s) Q
  | .ex c fs, s => Q (.ex c fs) s
theorem w_bnd {k : Res → EF T} {x : Option (Out × Sg T)} {Q : Out → Sg T → Prop} : wE (bnd k x) Q = wE x (bnQ k Q) := by
  rcases x with _ | ⟨o, s⟩
  · exact propext ⟨fun ⟨_, _, e, _⟩ => (nomatch e), fun ⟨_, _, e, _⟩ => (nomatch e)⟩
  · rw [w_E]
    cases o with
    | ok r => rfl
    | ex c fs => exact w_E
theorem w_bnQ {k : Res → EF T} {Q : Out → Sg T → Prop} {r : Res} {s : Sg T} : bnQ k Q (.ok r) s = wE (k r s) Q := (rfl)
theorem w_bnQ_ex {k : Res → EF T} {Q : Out → Sg T → Prop} {c : Str} {fs : List (Str × D)} {s : Sg T} : bnQ k Q (.ex c fs) s = Q (.ex c fs) s := (rfl)
def abQ (k : List Res → EF T) (Q : Out → Sg T → Prop) : OutA → Sg T → Prop
  | .ok r, s => wE (k r s) Q
  | .ex c fs, s => Q (.ex c fs) s
theorem w_abnd {k : List Res → EF T} {x : Option (OutA × Sg T)} {Q : Out → Sg T → Prop} : wE (abnd k x) Q = wA x (abQ k Q) := by
  rcases x with _ | ⟨o, s⟩
  · exact propext ⟨fun ⟨_, _, e, _⟩ => (nomatch e), fun ⟨_, _, e, _⟩ => (nomatch e)⟩
  · rw [w_A]
    cases o with
    | ok r => rfl
    | ex c fs => exact w_E
theorem w_abQ {k : List Res → EF T} {Q : Out → Sg T → Prop} {r : List Res} {s : Sg T} : abQ k Q (.ok r) s = wE (k r s) Q := (rfl)
theorem w_abQ_ex {k : List Res → EF T} {Q : Out → Sg T → Prop} {c : Str} {fs : List (Str × D)} {s : Sg T} : abQ k Q (.ex c fs) s = Q (.ex c fs) s := (rfl)
def cn2Q (r : Res) (Q : OutA → Sg T → Prop) : OutA → Sg T → Prop
  | .ok rs, s => Q (.ok (hold r :: rs)) s
  | .ex c fs, s => Q (.ex c fs) s
theorem w_cnsA {r : Res} {x : Option (OutA × Sg T)} {Q : OutA → Sg T → Prop} : wA (cnsA r x) Q = wA x (cn2Q r Q) := by
  rcases x with _ | ⟨o, s⟩
  · exact propext ⟨fun ⟨_, _, e, _⟩ => (nomatch e), fun ⟨_, _, e, _⟩ => (nomatch e)⟩
  · rw [w_A]
    cases o with
    | ok r => exact w_A
    | ex c fs => exact w_A
theorem w_cn2Q {r : Res} {Q : OutA → Sg T → Prop} {rs : List Res} {s : Sg T} : cn2Q r Q (.ok rs) s = Q (.ok (hold r :: rs)) s := (rfl)
theorem w_cn2Q_ex {r : Res} {Q : OutA → Sg T → Prop} {c : Str} {fs : List (Str × D)} {s : Sg T} : cn2Q r Q (.ex c fs) s = Q (.ex c fs) s := (rfl)
def cnQ (g : AF T) (Q : OutA → Sg T → Prop) : Out → Sg T → Prop
  | .ok r, s => wA (cnsA r (g s)) Q
  | .ex c fs, s => Q (.ex c fs) s
theorem w_cnsK {g : AF T} {x : Option (Out × Sg T)} {Q : OutA → Sg T → Prop} : wA (cnsK g x) Q = wE x (cnQ g Q) := by
  rcases x with _ | ⟨o, s⟩
  · exact propext ⟨fun ⟨_, _, e, _⟩ => (nomatch e), fun ⟨_, _, e, _⟩ => (nomatch e)⟩
  · rw [w_E]
    cases o with
    | ok r => rfl
    | ex c fs => exact w_A
theorem w_cnQ {g : AF T} {Q : OutA → Sg T → Prop} {r : Res} {s : Sg T} : cnQ g Q (.ok r) s = wA (cnsA r (g s)) Q := (rfl)
theorem w_cnQ_ex {g : AF T} {Q : OutA → Sg T → Prop} {c : Str} {fs : List (Str × D)} {s : Sg T} : cnQ g Q (.ex c fs) s = Q (.ex c fs) s := (rfl)
theorem w_brB {g h : EF T} {s : Sg T} {b : Bool} {Q : Out → Sg T → Prop} : wE (brB g h s (some (.bl b))) Q = ((b = true → wE (g s) Q) ∧ (b = false → wE (h s) Q)) := by
  cases b
  · exact propext ⟨fun k => ⟨(fun z => nomatch z), fun _ => k⟩, fun k => k.2 rfl⟩
  · exact propext ⟨fun k => ⟨fun _ => k, (fun z => nomatch z)⟩, fun k => k.1 rfl⟩
def foQ (τ : List Sl) (Q : Out → Sg T → Prop) : FOut → T → Prop
  | .ok d fr, t => Q (.ok (resOf (d, fr))) (τ, t)
  | .ex c fs, t => Q (.ex c fs) (τ, t)
theorem w_fOut {τ : List Sl} {x : Option (FOut × T)} {Q : Out → Sg T → Prop} : wE (fOut τ x) Q = wF x (foQ τ Q) := by
  rcases x with _ | ⟨o, s⟩
  · exact propext ⟨fun ⟨_, _, e, _⟩ => (nomatch e), fun ⟨_, _, e, _⟩ => (nomatch e)⟩
  · rw [w_F]
    cases o with
    | ok r => exact w_E
    | ex c fs => exact w_E
theorem w_foQ {τ : List Sl} {Q : Out → Sg T → Prop} {d : D} {fr : Bool} {t : T} : foQ τ Q (.ok d fr) t = Q (.ok (resOf (d, fr))) (τ, t) := (rfl)
theorem w_foQ_ex {τ : List Sl} {Q : Out → Sg T → Prop} {c : Str} {fs : List (Str × D)} {t : T} : foQ τ Q (.ex c fs) t = Q (.ex c fs) (τ, t) := (rfl)
def ouQ (Q : FOut → T → Prop) : SOut → Sg T → Prop
  | .nx, s => Q (.ok .non false) s.2
  | .rt (.d d), s => Q (.ok d false) s.2
  | .rt (.f d), s => Q (.ok d true) s.2
  | .ex c fs, s => Q (.ex c fs) s.2
  | _, _ => False
theorem w_outF {x : Option (SOut × Sg T)} {Q : FOut → T → Prop} : wF (outF x) Q = wS x (ouQ Q) := by
  rcases x with _ | ⟨o, s⟩
  · exact propext ⟨fun ⟨_, _, e, _⟩ => (nomatch e), fun ⟨_, _, e, _⟩ => (nomatch e)⟩
  · rw [w_S]
    rcases o with _ | (_ | _ | _) | _ | _ | _
    · exact w_F
    · exact w_F
    · exact w_F
    · exact propext ⟨fun ⟨_, _, e, _⟩ => (nomatch e), fun e => e.elim⟩
    · exact propext ⟨fun ⟨_, _, e, _⟩ => (nomatch e), fun e => e.elim⟩
    · exact propext ⟨fun ⟨_, _, e, _⟩ => (nomatch e), fun e => e.elim⟩
    · exact w_F
theorem w_ouQ_nx {Q : FOut → T → Prop} {s : Sg T} : ouQ Q .nx s = Q (.ok .non false) s.2 := (rfl)
theorem w_ouQ_d {Q : FOut → T → Prop} {s : Sg T} {d : D} : ouQ Q (.rt (.d d)) s = Q (.ok d false) s.2 := (rfl)
theorem w_ouQ_f {Q : FOut → T → Prop} {s : Sg T} {d : D} : ouQ Q (.rt (.f d)) s = Q (.ok d true) s.2 := (rfl)
theorem w_ouQ_ex {Q : FOut → T → Prop} {s : Sg T} {c : Str} {fs : List (Str × D)} : ouQ Q (.ex c fs) s = Q (.ex c fs) s.2 := (rfl)
theorem w_dnO {s : Sg T} {x : Option (D × Bool)} {Q : Out → Sg T → Prop} : wE (dnO s x) Q = wV x fun d b => Q (.ok (resOf (d, b))) s := by
  rcases x with _ | ⟨d, b⟩
  · exact propext ⟨fun ⟨_, _, e, _⟩ => (nomatch e), fun ⟨_, _, e, _⟩ => (nomatch e)⟩
  · rw [w_V]
    exact w_E
/-! ### what is walked -/
def siQ (Q : OutI → Sg T → Prop) : Out → Sg T → Prop
  | .ok r, s => wI (siB (some (.ok r, s))) Q
  | .ex c fs, s => Q (.ex c fs) s
theorem w_siB {x : Option (Out × Sg T)} {Q : OutI → Sg T → Prop} : wI (siB x) Q = wE x (siQ Q) := by
  rcases x with _ | ⟨o, s⟩
  · exact propext ⟨fun ⟨_, _, e, _⟩ => (nomatch e), fun ⟨_, _, e, _⟩ => (nomatch e)⟩
  · rw [w_E]
    cases o with
    | ok r => rfl
    | ex c fs => exact w_I
theorem w_siQ {Q : OutI → Sg T → Prop} {r : Res} {s : Sg T} : siQ Q (.ok r) s = wI (itO s.2 (sqA (give s.1 r))) Q := (rfl)
theorem w_siQ_ex {Q : OutI → Sg T → Prop} {c : Str} {fs : List (Str × D)} {s : Sg T} : siQ Q (.ex c fs) s = Q (.ex c fs) s := (rfl)
def ciQ (op : List D → Option (List D)) (Q : OutI → Sg T → Prop) : OutA → Sg T → Prop
  | .ok r, s => wI (ciB op (some (.ok r, s))) Q
  | .ex c fs, s => Q (.ex c fs) s
theorem w_ciB {op : List D → Option (List D)} {x : Option (OutA × Sg T)} {Q : OutI → Sg T → Prop} : wI (ciB op x) Q = wA x (ciQ op Q) := by
  rcases x with _ | ⟨o, s⟩
  · exact propext ⟨fun ⟨_, _, e, _⟩ => (nomatch e), fun ⟨_, _, e, _⟩ => (nomatch e)⟩
  · rw [w_A]
    cases o with
    | ok r => rfl
    | ex c fs => exact w_I
theorem w_ciQ {op : List D → Option (List D)} {Q : OutI → Sg T → Prop} {r : List Res} {s : Sg T} : ciQ op Q (.ok r) s = wI (itO s.2 (opI op (giveAll s.1 r))) Q := (rfl)
theorem w_ciQ_ex {op : List D → Option (List D)} {Q : OutI → Sg T → Prop} {c : Str} {fs : List (Str × D)} {s : Sg T} : ciQ op Q (.ex c fs) s = Q (.ex c fs) s := (rfl)
def frQ (g : GF) (b : SF T) (Q : SOut → Sg T → Prop) : OutI → Sg T → Prop
  | .ok ds, s => wS (forL g b ds s) Q
  | .ex c fs, s => Q (.ex c fs) s
theorem w_frO {g : GF} {b : SF T} {x : Option (OutI × Sg T)} {Q : SOut → Sg T → Prop} : wS (frO g b x) Q = wI x (frQ g b Q) := by
  rcases x with _ | ⟨o, s⟩
  · exact propext ⟨fun ⟨_, _, e, _⟩ => (nomatch e), fun ⟨_, _, e, _⟩ => (nomatch e)⟩
  · rw [w_I]
    cases o with
    | ok r => rfl
    | ex c fs => exact w_S
theorem w_frQ {g : GF} {b : SF T} {Q : SOut → Sg T → Prop} {ds : List D} {s : Sg T} : frQ g b Q (.ok ds) s = wS (forL g b ds s) Q := (rfl)
theorem w_frQ_ex {g : GF} {b : SF T} {Q : SOut → Sg T → Prop} {c : Str} {fs : List (Str × D)} {s : Sg T} : frQ g b Q (.ex c fs) s = Q (.ex c fs) s := (rfl)
def lcQ (sh vs : List Nat) (g : GF) (c e : EF T) (Q : Out → Sg T → Prop) : OutI → Sg T → Prop
  | .ok ds, s => ds.length ≤ LEN ∧ wL (lcL g c e (hideFrom vs 0 (shareAll sh s.1)) ds s.2) fun out t => Q (.ok (.f (.lst out))) (shareAll sh s.1, t)
  | .ex c fs, s => Q (.ex c fs) s
theorem w_lcO {sh vs : List Nat} {g : GF} {c e : EF T} {x : Option (OutI × Sg T)} {Q : Out → Sg T → Prop} : wE (lcO sh vs g c e x) Q = wI x (lcQ sh vs g c e Q) := by
  rcases x with _ | ⟨o, s⟩
  · exact propext ⟨fun ⟨_, _, e, _⟩ => (nomatch e), fun ⟨_, _, e, _⟩ => (nomatch e)⟩
  · rw [w_I]
    cases o with
    | ok ds =>
      rw [q_lcO]
      show _ = (ds.length ≤ LEN ∧ _)
      by_cases h : ds.length ≤ LEN
      · rw [if_pos h]
        generalize lcL g c e (hideFrom vs 0 (shareAll sh s.1)) ds s.2 = y
        rcases y with _ | ⟨o, t⟩
        · exact propext ⟨fun ⟨_, _, e, _⟩ => (nomatch e), fun ⟨_, _, _, e, _⟩ => (nomatch e)⟩
        · rw [w_L, q_lcR, w_E]
          exact propext ⟨fun k => ⟨h, k⟩, fun k => k.2⟩
      · rw [if_neg h]
        exact propext ⟨fun ⟨_, _, e, _⟩ => (nomatch e), fun k => absurd k.1 h⟩
    | ex c fs => exact w_E
theorem w_lcQ {sh vs : List Nat} {g : GF} {c e : EF T} {Q : Out → Sg T → Prop} {ds : List D} {s : Sg T} : lcQ sh vs g c e Q (.ok ds) s = (ds.length ≤ LEN ∧ wL (lcL g c e (hideFrom vs 0 (shareAll sh s.1)) ds s.2) fun out t => Q (.ok (.f (.lst out))) (shareAll sh s.1, t)) := (rfl)
theorem w_lcQ_ex {sh vs : List Nat} {g : GF} {c e : EF T} {Q : Out → Sg T → Prop} {k : Str} {fs : List (Str × D)} {s : Sg T} : lcQ sh vs g c e Q (.ex k fs) s = Q (.ex k fs) s := (rfl)
theorem w_lcR {τ : List Sl} {x : Option (List D × T)} {Q : Out → Sg T → Prop} : wE (lcR τ x) Q = wL x fun out t => Q (.ok (.f (.lst out))) (τ, t) := by
  rcases x with _ | ⟨o, t⟩
  · exact propext ⟨fun ⟨_, _, e, _⟩ => (nomatch e), fun ⟨_, _, e, _⟩ => (nomatch e)⟩
  · rw [w_L, q_lcR, w_E]
theorem w_dsp {n : Nat} {x : Option (Out × Sg T)} {Q : Out → Sg T → Prop} : wE (if n ≤ 100000 then x else none) Q = (n ≤ 100000 ∧ wE x Q) := by
  by_cases h : n ≤ 100000
  · rw [if_pos h]
    exact propext ⟨fun k => ⟨h, k⟩, fun k => k.2⟩
  · rw [if_neg h]
    exact propext ⟨fun ⟨_, _, e, _⟩ => (nomatch e), fun k => absurd k.1 h⟩
/-! ### tests, items given -/
def tsQ (Q : Bool → Sg T → Prop) : Out → Sg T → Prop
  | .ok r, s => ∃ b, peek s.1 (hold r) = some (.bl b) ∧ Q b s
  | .ex _ _, _ => False
theorem w_tsQ {Q : Bool → Sg T → Prop} {r : Res} {s : Sg T} : tsQ Q (.ok r) s = ∃ b, peek s.1 (hold r) = some (.bl b) ∧ Q b s := (rfl)
theorem w_tsB {Q : Bool → Prop} {b : Bool} : (∃ c, some (D.bl b) = some (D.bl c) ∧ Q c) = Q b := propext ⟨fun ⟨_, e, h⟩ => by cases e; exact h, fun h => ⟨_, rfl, h⟩⟩
def gvQ (Q : D → T → Prop) : Out → Sg T → Prop
  | .ok r, s => ∃ d τ, give s.1 r = some (d, τ) ∧ Q d s.2
  | .ex _ _, _ => False
theorem w_gvQ {Q : D → T → Prop} {r : Res} {s : Sg T} : gvQ Q (.ok r) s = ∃ d τ, give s.1 r = some (d, τ) ∧ Q d s.2 := (rfl)
theorem w_gvB {Q : D → Prop} {d : D} {τ : List Sl} : (∃ d' τ', some (d, τ) = some (d', τ') ∧ Q d') = Q d := propext ⟨fun ⟨_, _, e, h⟩ => by cases e; exact h, fun h => ⟨_, _, rfl, h⟩⟩
/-! ### loops -/
def flQ (J : Sg T → Prop) (Q : SOut → Sg T → Prop) : SOut → Sg T → Prop
  | .nx, s => J s
  | .ct, s => J s
  | .bk, s => Q .nx s
  | o, s => Q o s
theorem w_flQ_nx {J : Sg T → Prop} {Q : SOut → Sg T → Prop} {s : Sg T} : flQ J Q .nx s = J s := (rfl)
theorem w_flQ_ct {J : Sg T → Prop} {Q : SOut → Sg T → Prop} {s : Sg T} : flQ J Q .ct s = J s := (rfl)
theorem w_flQ_bk {J : Sg T → Prop} {Q : SOut → Sg T → Prop} {s : Sg T} : flQ J Q .bk s = Q .nx s := (rfl)
theorem w_flQ_rt {J : Sg T → Prop} {Q : SOut → Sg T → Prop} {s : Sg T} {r : Res} : flQ J Q (.rt r) s = Q (.rt r) s := (rfl)
theorem w_flQ_ex {J : Sg T → Prop} {Q : SOut → Sg T → Prop} {s : Sg T} {c : Str} {fs : List (Str × D)} : flQ J Q (.ex c fs) s = Q (.ex c fs) s := (rfl)
theorem w_forK {g : GF} {b : SF T} {Q : SOut → Sg T → Prop} (I : Nat → Sg T → Prop) : ∀ (ds : List D) (k : Nat) (s : Sg T),
    (∀ i d s, ds[i]? = some d → I (k + i) s → wG (g d s.1) fun τ => wS (b (τ, s.2)) (flQ (I (k + i + 1)) Q)) → I k s → (∀ s, I (k + ds.length) s → Q .nx s) → wS (forL g b ds s) Q
  | [], k, s, _, h, fin => ⟨_, _, rfl, fin s h⟩
  | d :: ds, k, s, st, h, fin => by
    obtain ⟨τ, e1, o, s1, e2, h1⟩ := st 0 d s rfl h
    rw [q_forL_c, e1, q_flT, e2]
    have next : I (k + 1) s1 → wS (forL g b ds s1) Q := fun h1 => w_forK I ds (k + 1) s1 (fun i d' s e hI => by
      have := st (i + 1) d' s e (by rw [show k + (i + 1) = k + 1 + i by omega]; exact hI)
      rwa [show k + (i + 1) + 1 = k + 1 + i + 1 by omega] at this) h1 (fun s hs => fin s (by rw [List.length_cons, show k + (ds.length + 1) = k + 1 + ds.length by omega]; exact hs))
    cases o with
    | nx => exact next h1
    | ct => exact next h1
    | bk => exact ⟨_, _, rfl, h1⟩
    | rt r => exact ⟨_, _, rfl, h1⟩
    | ex c fs => exact ⟨_, _, rfl, h1⟩
theorem w_for {g : GF} {b : SF T} {Q : SOut → Sg T → Prop} {ds : List D} {s : Sg T} (I : Nat → Sg T → Prop) (h : I 0 s)
    (st : ∀ i d s, ds[i]? = some d → I i s → wG (g d s.1) fun τ => wS (b (τ, s.2)) (flQ (I (i + 1)) Q)) (fin : ∀ s, I ds.length s → Q .nx s) : wS (forL g b ds s) Q :=
  w_forK I ds 0 s (fun i d s e hI => by rw [Nat.zero_add] at hI ⊢; exact st i d s e hI) h (fun s hs => fin s (by rw [Nat.zero_add] at hs; exact hs))
/-- over a list of known things, the state known by what has been walked -/
theorem w_forA {A : Type} {g : GF} {b : SF T} {Q : SOut → Sg T → Prop} {ds : List D} {s : Sg T} (as : List A) (mk : A → D) (he : ds = as.map mk) (I : List A → Sg T → Prop) (h : I [] s)
    (st : ∀ l a r s, as = l ++ a :: r → I l s → wG (g (mk a) s.1) fun τ => wS (b (τ, s.2)) (flQ (I (l ++ [a])) Q)) (fin : ∀ s, I as s → Q .nx s) : wS (forL g b ds s) Q := by
  subst he
  refine w_for (fun i s => I (as.take i) s) (by simpa using h) (fun i d s e hI => ?_) (fun s hs => fin s (by simpa using hs))
  rw [List.getElem?_map] at e
  cases q : as[i]? with
  | none => rw [q] at e; cases e
  | some a =>
    rw [q] at e
    cases e
    have hi : i < as.length := (List.getElem?_eq_some_iff.mp q).1
    have e1 : as = as.take i ++ a :: as.drop (i + 1) := by
      have ha : as[i] = a := (List.getElem?_eq_some_iff.mp q).2
      rw [← ha, ← List.drop_eq_getElem_cons hi, List.take_append_drop]
    have := st (as.take i) a (as.drop (i + 1)) s e1 hI
    have e2 : as.take (i + 1) = as.take i ++ [a] := by rw [List.take_succ, q]; rfl
    rw [e2]
    exact this
/-- a comprehension whose parts leave the state as it is -/
theorem w_fm {A : Type} {g : GF} {c e : EF T} {τ0 : List Sl} {t : T} {ds : List D} {Q : List D → T → Prop} (as : List A) (mk : A → D) (he : ds = as.map mk) (p : A → Bool) (f : A → D)
    (h : ∀ a ∈ as, wG (g (mk a) τ0) fun τ1 => wE (c (τ1, t)) (tsQ fun b s2 => b = p a ∧ s2.2 = t ∧ (b = true → wE (e s2) (gvQ fun d t' => d = f a ∧ t' = t))))
    (k : Q ((as.filter p).map f) t) : wL (lcL g c e τ0 ds t) Q := by
  subst he
  refine ⟨_, _, lcL_fm mk f p as fun a ha => ?_, k⟩
  obtain ⟨τ1, e1, o, s2, e2, q2⟩ := h a ha
  cases o with
  | ex _ _ => exact q2.elim
  | ok rc =>
    obtain ⟨b, e3, hb, ht, k2⟩ := q2
    obtain ⟨τ2, t2⟩ := s2
    simp only at ht
    subst ht hb
    refine ⟨τ1, rc, τ2, e1, e2, e3, fun hp => ?_⟩
    obtain ⟨o3, s3, e4, q3⟩ := k2 hp
    cases o3 with
    | ex _ _ => exact q3.elim
    | ok r =>
      obtain ⟨d, τ4, e5, hd, ht⟩ := q3
      obtain ⟨τ3, t3⟩ := s3
      simp only at ht
      subst ht hd
      exact ⟨r, τ3, τ4, e4, e5⟩
theorem w_map {A : Type} {g : GF} {e : EF T} {τ0 : List Sl} {t : T} {ds : List D} {Q : List D → T → Prop} (as : List A) (mk : A → D) (he : ds = as.map mk) (f : A → D)
    (h : ∀ a ∈ as, wG (g (mk a) τ0) fun τ1 => wE (e (τ1, t)) (gvQ fun d t' => d = f a ∧ t' = t)) (k : Q (as.map f) t) : wL (lcL g yesF e τ0 ds t) Q := by
  refine w_fm as mk he (fun _ => true) f (fun a ha => ?_) (by
    have e : as.filter (fun _ => true) = as := List.filter_eq_self.mpr fun _ _ => rfl
    rw [e]
    exact k)
  obtain ⟨τ1, e1, q⟩ := h a ha
  refine ⟨τ1, e1, ?_⟩
  have y : (yesF : EF T) (τ1, t) = some (.ok (.d (.bl true)), (τ1, t)) := (rfl)
  show wE (yesF (τ1, t)) _
  rw [y, w_E]
  exact ⟨true, rfl, rfl, rfl, fun _ => q⟩
/-- a comprehension that changes the state -/
theorem w_lcI {g : GF} {e : EF T} {τ0 : List Sl} {t : T} {ds : List D} {Q : List D → T → Prop} (I : Nat → T → Prop) (P : Nat → D → Prop) (h : I 0 t)
    (st : ∀ i d t, ds[i]? = some d → I i t → wG (g d τ0) fun τ1 => wE (e (τ1, t)) (gvQ fun v t' => P i v ∧ I (i + 1) t'))
    (fin : ∀ out t', out.length = ds.length → (∀ i v, out[i]? = some v → P i v) → I ds.length t' → Q out t') : wL (lcL g yesF e τ0 ds t) Q := by
  obtain ⟨out, t', e1, l, ps, h2⟩ := lcL_inv (g := g) (e := e) (τ0 := τ0) I P ds 0 t (fun i d t e hI => by
    rw [Nat.zero_add] at hI ⊢
    obtain ⟨τ1, e1, o, s2, e2, q2⟩ := st i d t e hI
    cases o with
    | ex _ _ => exact q2.elim
    | ok r =>
      obtain ⟨v, τ4, e3, p, q⟩ := q2
      exact ⟨τ1, r, s2.1, s2.2, v, τ4, e1, e2, e3, p, q⟩) h
  exact ⟨out, t', e1, fin out t' l (fun i v hv => by have := ps i v hv; rwa [Nat.zero_add] at this) (by rwa [Nat.zero_add] at h2)⟩
/-- while: by a measure -/
theorem w_while {c : EF T} {b : SF T} {Q : SOut → Sg T → Prop} {s : Sg T} (I : Sg T → Prop) (m : Sg T → Nat) (h : I s)
    (st : ∀ s, I s → wE (c s) (tsQ fun k s1 => (k = true → wS (b s1) (flQ (fun s2 => I s2 ∧ m s2 < m s) Q)) ∧ (k = false → Q .nx s1))) : wS (whileF c b s) Q := by
  have key : ∀ n s, I s → m s < n → ∃ o s', whileN c b n s = some (o, s') ∧ Q o s' := by
    intro n
    induction n with
    | zero => intro s _ hn; omega
    | succ n ih =>
      intro s hI hn
      obtain ⟨o, s1, e1, q1⟩ := st s hI
      cases o with
      | ex _ _ => exact q1.elim
      | ok r =>
        obtain ⟨k, e2, k1, k2⟩ := q1
        rw [q_whileN, e1, q_sbnd, q_ifK, e2]
        cases k with
        | false => exact ⟨_, _, rfl, k2 rfl⟩
        | true =>
          obtain ⟨o, s2, e3, q3⟩ := k1 rfl
          rw [q_ifB_t, q_whL, e3]
          cases o with
          | nx => exact ih s2 q3.1 (by have := q3.2; omega)
          | ct => exact ih s2 q3.1 (by have := q3.2; omega)
          | bk => exact ⟨_, _, rfl, q3⟩
          | rt r => exact ⟨_, _, rfl, q3⟩
          | ex c fs => exact ⟨_, _, rfl, q3⟩
  obtain ⟨o, s', e, q⟩ := key (m s + 1) s h (Nat.lt_succ_self _)
  exact ⟨o, s', whileF_of e, q⟩
/-! ### in and out -/
theorem w_eq {x : Option (FOut × T)} {o : FOut} {t : T} (h : wF x fun o' t' => o' = o ∧ t' = t) : x = some (o, t) := by
  obtain ⟨_, _, e, rfl, rfl⟩ := h
  exact e
end
def fwA :=
  And.intro (@w_S) <| And.intro (@w_E) <| And.intro (@w_A) <| And.intro (@w_I) <| And.intro (@w_F) <| And.intro (@w_L) <| And.intro (@w_G) <| And.intro (@w_V) <| And.intro (@w_sqO) <| And.intro (@w_sqQ_nx) <| And.intro (@w_sqQ_rt) <| And.intro (@w_sqQ_bk) <| And.intro (@w_sqQ_ct) <| And.intro (@w_sqQ_ex) <| And.intro (@w_sbnd) <| And.intro (@w_sbQ) <| And.intro (@w_sbQ_ex) <| And.intro (@w_ifB) <| And.intro (@w_bnd) <| And.intro (@w_bnQ) <| And.intro (@w_bnQ_ex) <| And.intro (@w_abnd) <| And.intro (@w_abQ) <| And.intro (@w_abQ_ex) <| And.intro (@w_cnsA) <| And.intro (@w_cn2Q) <| And.intro (@w_cn2Q_ex) <| And.intro (@w_cnsK) <| And.intro (@w_cnQ) <| And.intro (@w_cnQ_ex) <| And.intro (@w_brB) <| And.intro (@w_fOut) <| And.intro (@w_foQ) <| And.intro (@w_foQ_ex) <| And.intro (@w_outF) <| And.intro (@w_ouQ_nx) <| And.intro (@w_ouQ_d) <| And.intro (@w_ouQ_f) <| And.intro (@w_ouQ_ex) <| And.intro (@w_dnO) <| And.intro (@w_siB) <| And.intro (@w_siQ) <| And.intro (@w_siQ_ex) <| And.intro (@w_ciB) <| And.intro (@w_ciQ) <| And.intro (@w_ciQ_ex) <| And.intro (@w_frO) <| And.intro (@w_frQ) <| And.intro (@w_frQ_ex) <| And.intro (@w_lcO) <| And.intro (@w_lcQ) <| And.intro (@w_lcQ_ex) <| And.intro (@w_lcR) <| And.intro (@w_dsp) <| And.intro (@w_tsQ) <| And.intro (@w_tsB) <| And.intro (@w_gvQ) <| And.intro (@w_gvB) <| And.intro (@w_flQ_nx) <| And.intro (@w_flQ_ct) <| And.intro (@w_flQ_bk) <| And.intro (@w_flQ_rt) (@w_flQ_ex)
end FD

/-! F31: several names at once, with own objects for all. -/
namespace FD
open PySem PySem.Spec PyProof.Rows L2
/-- an expression that sees no own objects: its datum, whether it is new -/
def blkV {T : Type} (g : EF T) (τ : List Sl) (t : T) : Option (D × Bool × T) := match g (hideFrom [] 0 τ, t) with
  | some (.ok (.f d), s2) => some (d, true, s2.2)
  | some (.ok r, s2) => match give s2.1 r with
    | some (d, _) => some (d, false, s2.2)
    | none => none
  | _ => none
def slot1 (d : D) (fr : Bool) : Sl := if fr = true then .o d else .v d
/-- a, b = e, f -/
def parBF {T : Type} (i j : Nat) (f g : EF T) : SF T := sbind f fun r s => match blkV g s.1 s.2 with
  | none => none
  | some (d, fr, t2) => match storeAt i s.1 r with
    | none => none
    | some τ1 => some (.nx, (τ1.set j (slot1 d fr), t2))
/-- a, b, c = e, f, [] -/
def parBNF {T : Type} (i j k : Nat) (f g : EF T) : SF T := sbind f fun r s => match blkV g s.1 s.2 with
  | none => none
  | some (d, fr, t2) => match storeAt i s.1 r with
    | none => none
    | some τ1 => some (.nx, ((τ1.set j (slot1 d fr)).set k (.o (.lst [])), t2))
section
variable {Z : Wd} {C : Fx Z} {X : Cx} {ow : Nat → Option Addr} {τ : List Sl} {t : Z.T} {σ : L2.St} {H H' : Hp} {E : Ends}
/-- what a block's expression hands back -/
def Back (Z : Wd) (O : Addr → Prop) (H : Hp) (d : D) (fr : Bool) (t2 : Z.T) (w : V) (H2 : Hp) : Prop :=
  Z.On t2 (fun b => O b ∨ (fr = true ∧ w = .ref b)) H2 ∧ GrowZ Z H H2 ∧ (fr = false → Den Z O H2 w d) ∧ (fr = true → ∃ p o, w = .ref p ∧ H p = none ∧ H2 p = some o ∧ (∀ xs, o ≠ .tup xs) ∧ Cont Z (fun a => O a ∨ a = p) H2 o d)
theorem Rel.block0 (R : C.Rel ow τ t σ H) : (blkFx (Z := Z) (C.Hid ow) H).Rel (fun _ => none) (hideFrom [] 0 τ) t σ H := R.block (vs := [])
theorem den_blk {O : Addr → Prop} {H1 H2 : Hp} {ow2 : Nat → Option Addr} {v : V} {d : D} (h : Den Z ((blkFx (Z := Z) O H1).Hid ow2) H2 v d) : Den Z O H2 v d := h.mono fun a o e n => ⟨e, fun z => n (.inl z)⟩
theorem block_run {g : EF Z.T} {d : D} {fr : Bool} {t2 : Z.T} (R : C.Rel ow τ t σ H) (e : blkV g τ t = some (d, fr, t2)) : tF (blkFx (Z := Z) (C.Hid ow) H) g σ H (Back Z (C.Hid ow) H d fr t2) := by
  have RB := R.block0
  unfold blkV at e
  have gz : ∀ {ow2 : Nat → Option Addr} {τ2 : List Sl} {t' : Z.T} {σ2 : L2.St} {H2 : Hp}, (blkFx (Z := Z) (C.Hid ow) H).Rel ow2 τ2 t' σ2 H2 → GrowZ Z H H2 := fun R2 a o e n => R2.grow a o e n
  split at e
  · rename_i d' s2 p
    cases e
    refine ⟨_, _, _, _, _, RB, rfl, p, fun ow' v H2 R2 r2 x2 => ?_⟩
    obtain ⟨a, o, h1, rfl, h3, c⟩ := r2
    obtain ⟨hn, u, e4, nt⟩ := R2.new _ a h1
    rw [h3] at e4
    cases e4
    exact ⟨Wd.less R2.on fun b z => z.elim (fun z => .inl z) fun z => .inr ⟨0, by have := z.2; cases this; exact h1⟩, gz R2, (fun z => nomatch z), fun _ => ⟨a, o, rfl, hn, h3, nt, c.mono fun b u e n => ⟨e, fun z => n (z.elim (fun z => .inl z) fun z => by subst z; exact .inr ⟨0, h1⟩)⟩⟩⟩
  · rename_i r s2 nf p
    split at e
    · rename_i d' τ2 p2
      cases e
      refine ⟨_, _, _, _, _, RB, rfl, p, fun ow' v H2 R2 r2 x2 => ?_⟩
      obtain ⟨ow3, R3, z3, d3, x3⟩ := r2.give R2 p2
      exact ⟨Wd.less R2.on fun b z => z.elim (fun z => .inl z) fun z => (nomatch z.1), gz R2, fun _ => den_blk d3, (fun z => nomatch z)⟩
    · cases e
  · cases e
/-- the slots behind: i holds the first value, j the second -/
theorem store_back {r : Res} {v w : V} {τ1 : List Sl} {i j : Nat} {d : D} {fr : Bool} {t2 : Z.T} {H2 : Hp} (R : C.Rel ow τ t σ H) (r1 : ResOk C ow τ σ H v r) (e : storeAt i τ r = some τ1) (b : Back Z (C.Hid ow) H d fr t2 w H2) :
    ∃ ow', C.Rel ow' (τ1.set j (slot1 d fr)) t2 ((σ.set i (some v)).set j (some w)) H2 ∧ ow' 0 = none ∧ Ext (C.Hid ow) H (C.Hid ow') H2 := by
  obtain ⟨ow1, R1, z1, x1⟩ := R.store r1 e
  obtain ⟨on, gr, b1, b2⟩ := b
  have see : ∀ {H3 : Hp} (a : Addr) (o : HO), H3 a = some o → ¬ C.Hid ow a → ¬ C.Hid ow1 a := fun a o _ n q => by
    rcases x1.hid a q with h | h
    · exact n h
    · obtain ⟨u, e, _⟩ := R1.track q
      rw [h] at e
      cases e
  unfold slot1
  cases fr with
  | false =>
    rw [if_neg (by decide)]
    have R2 := R1.called (Z.loc t2 _ _ H2 H2 on (fun a o e n => ⟨e, see (H3 := H2) a o e fun z => n (.inl z)⟩) fun _ _ _ e => e) gr
    have d1 : Den Z (C.Hid ow1) H2 w d := (b1 rfl).mono fun a o e n => ⟨e, see (H3 := H2) a o e n⟩
    exact ⟨_, R2.set d1, drop_zero z1, (x1.trans (ext_grow R1 gr)).trans ext_drop⟩
  | true =>
    rw [if_pos rfl]
    obtain ⟨p, o, rfl, hn, e2, nt, c⟩ := b2 rfl
    have R2 := R1.adopt (Z.loc t2 _ _ H2 H2 on (fun a o e n => ⟨e, fun q => q.elim (see (H3 := H2) a o e fun z => n (.inl z)) fun z => n (.inr ⟨rfl, by rw [z]⟩)⟩) fun _ _ _ e => e) gr hn e2 nt
    have c1 : Cont Z (C.Hid (put ow1 0 p)) H2 o d := by
      refine c.mono fun a u e n => ⟨e, fun q => ?_⟩
      rcases hid_put q with q | q
      · exact see (H3 := H2) a u e (fun z => n (.inl z)) q
      · exact n (.inr q)
    refine ⟨_, R2.setOwn put_same e2 c1, ?_, (x1.trans (ext_adopt R1 gr hn)).trans ext_move⟩
    unfold move
    rw [if_neg (by omega), if_pos rfl]
/-- the two values, then the names -/
theorem parB_of {i j : Nat} {f g : EF Z.T} {K : V → V → Hp → Prop} (h : tS C (parBF i j f g) E σ H) (k : ∀ v w ow' τ' t' H', C.Rel ow' τ' t' ((σ.set i (some v)).set j (some w)) H' → ow' 0 = none → (∀ H2 ow2 τ2 t2, C.Rel ow2 τ2 t2 ((σ.set i (some v)).set j (some w)) H2 → ow2 0 = none → Ext (C.Hid ow') H' (C.Hid ow2) H2 → (τ2, t2) = (τ', t') → E.nx ((σ.set i (some v)).set j (some w)) H2) → K v w H') :
    tF C f σ H fun v H1 => tFx Z g σ H1 fun w H2 => K v w H2 := by
  obtain ⟨ow, τ, t, R, z, kn⟩ := h
  refine tF_mono (tS_bind ⟨ow, τ, t, R, z, kn⟩) fun v H1 ⟨ow1, τ1, t1, r, R1, r1, k1⟩ => ?_
  obtain ⟨o1, s1, e1, k1⟩ := k1
  simp only at e1
  split at e1
  · cases e1
  · rename_i d fr t2 p1
    split at e1
    · cases e1
    · rename_i τ2 p2
      cases e1
      refine ⟨_, rfl, tF_mono (block_run R1 p1) fun w H2 b => ?_⟩
      obtain ⟨ow3, R3, z3, x3⟩ := store_back (j := j) R1 r1 p2 b
      exact k v w ow3 _ _ H2 R3 z3 fun H3 ow4 τ4 t4 R4 z4 x4 e => by
        cases e
        exact k1 ow4 _ H3 R4 z4 (x3.trans x4)
theorem sv_parB {i j : Nat} {x y : Str} {a b : Expr} {f g : EF Z.T} {px py pt pos : Pos} {kt k2 pt2} (hc : X.calm = true) (hN : X.N.Nodup) (hi : X.N[i]? = some x) (hj : X.N[j]? = some y) (hij : i ≠ j)
    (hx : X.env.scope.names.lookup x = some .local) (hy : X.env.scope.names.lookup y = some .local) (ha : PE X a (tF C f)) (hb : ∀ C : Fx Z, C.W = dead → PE X b (tF C g))
    (hw : swappedStores [.Tuple [.Name x px, .Name y py] kt pt] (.Tuple [a, b] k2 pt2) X.env = pure (some [x, y]))
    (hs : swapsWithSole [.Tuple [.Name x px, .Name y py] kt pt] (.Tuple [a, b] k2 pt2) pos.line X.env = pure false := by rfl)
    (h1 : starEach [a, b] X.env = (false, eval a X.env) :: starEach [b] X.env := by rfl) (h2 : starEach [b] X.env = (false, eval b X.env) :: starEach [] X.env := by rfl) :
    PS X (.Assign [.Tuple [.Name x px, .Name y py] kt pt] (.Tuple [a, b] k2 pt2) pos) (tS C (parBF i j f g)) :=
  ⟨fun pins s σ H E I h => (ps_par hc hN hi hj hij hx hy (pa_cons ha (pa_cons (ex_F hb) pa_nil h2) h1) hw hs).run pins s σ H E I
    (parB_of (K := fun v w H2 => ∃ v' w', [v, w] = [v', w'] ∧ E.nx ((σ.set i (some v')).set j (some w')) H2) h fun v w ow' τ' t' H' R z k => ⟨v, w, rfl, k H' ow' τ' t' R z .refl rfl⟩)⟩
end
/-- a, b, c = e, constant, constant -/
def par3CF {T : Type} (i j l : Nat) (f : EF T) (d1 d2 : D) : SF T := sbind f fun r s => match storeAt i s.1 r with
  | none => none
  | some τ1 => some (.nx, ((τ1.set j (.v d1)).set l (.v d2), s.2))
section
variable {Z : Wd} {C : Fx Z} {X : Cx}
def p3K {T : Type} (i j l : Nat) (d1 d2 : D) (t : T) : Option (List Sl) → Option (SOut × Sg T)
  | none => none
  | some τ1 => some (.nx, ((τ1.set j (.v d1)).set l (.v d2), t))
def p3R {T : Type} (i j l : Nat) (d1 d2 : D) (r : Res) : SF T := fun s => p3K i j l d1 d2 s.2 (storeAt i s.1 r)
theorem q_par3C {T : Type} {i j l : Nat} {f : EF T} {d1 d2 : D} {s : Sg T} : par3CF i j l f d1 d2 s = sbnd (p3R i j l d1 d2) (f s) := (rfl)
theorem q_p3R {T : Type} {i j l : Nat} {d1 d2 : D} {r : Res} {s : Sg T} : p3R i j l d1 d2 r s = p3K i j l d1 d2 s.2 (storeAt i s.1 r) := (rfl)
theorem q_p3K {T : Type} {i j l : Nat} {d1 d2 : D} {t : T} {τ1 : List Sl} : p3K i j l d1 d2 t (some τ1) = some (.nx, ((τ1.set j (.v d1)).set l (.v d2), t)) := (rfl)
end
/-! ### run by simp -/
section
variable {T : Type}
def bvG (t : T) : Option (D × List Sl) → Option (D × Bool × T)
  | some (d, _) => some (d, false, t)
  | none => none
def bvO : Option (Out × Sg T) → Option (D × Bool × T)
  | some (.ok (.f d), s2) => some (d, true, s2.2)
  | some (.ok (.d d), s2) => some (d, false, s2.2)
  | some (.ok (.s i), s2) => bvG s2.2 (give s2.1 (.s i))
  | _ => none
theorem q_blkV {g : EF T} {τ : List Sl} {t : T} : blkV g τ t = bvO (g (hideFrom [] 0 τ, t)) := by
  unfold blkV bvO bvG
  rcases g (hideFrom [] 0 τ, t) with _ | ⟨(_ | _ | _) | _, _⟩ <;> rfl
theorem q_bvO_f {d : D} {s : Sg T} : bvO (some (.ok (.f d), s)) = some (d, true, s.2) := (rfl)
theorem q_bvO_d {d : D} {s : Sg T} : bvO (some (.ok (.d d), s)) = some (d, false, s.2) := (rfl)
theorem q_bvO_s {i : Nat} {s : Sg T} : bvO (some (.ok (.s i), s)) = bvG s.2 (give s.1 (.s i)) := (rfl)
theorem q_bvG {d : D} {τ : List Sl} {t : T} : bvG t (some (d, τ)) = some (d, false, t) := (rfl)
theorem q_slot1_t {d : D} : slot1 d true = .o d := (rfl)
theorem q_slot1_f {d : D} : slot1 d false = .v d := (rfl)
def pb1 (j : Nat) (d : D) (fr : Bool) (t2 : T) : Option (List Sl) → Option (SOut × Sg T)
  | none => none
  | some τ1 => some (.nx, (τ1.set j (slot1 d fr), t2))
def pbO (i j : Nat) (r : Res) (τ : List Sl) : Option (D × Bool × T) → Option (SOut × Sg T)
  | none => none
  | some (d, fr, t2) => pb1 j d fr t2 (storeAt i τ r)
def pbK (i j : Nat) (g : EF T) (r : Res) : SF T := fun s => pbO i j r s.1 (blkV g s.1 s.2)
theorem q_parB {i j : Nat} {f g : EF T} {s : Sg T} : parBF i j f g s = sbnd (pbK i j g) (f s) := by
  unfold parBF sbind sbnd pbK pbO pb1
  rcases f s with _ | ⟨_ | _, _⟩ <;> rfl
theorem q_pbK {i j : Nat} {g : EF T} {r : Res} {s : Sg T} : pbK i j g r s = pbO i j r s.1 (blkV g s.1 s.2) := (rfl)
theorem q_pbO {i j : Nat} {r : Res} {τ : List Sl} {d : D} {fr : Bool} {t2 : T} : pbO i j r τ (some (d, fr, t2)) = pb1 j d fr t2 (storeAt i τ r) := (rfl)
theorem q_pb1 {j : Nat} {d : D} {fr : Bool} {t2 : T} {τ1 : List Sl} : pb1 j d fr t2 (some τ1) = some (.nx, (τ1.set j (slot1 d fr), t2)) := (rfl)
def pb2 (j k : Nat) (d : D) (fr : Bool) (t2 : T) : Option (List Sl) → Option (SOut × Sg T)
  | none => none
  | some τ1 => some (.nx, ((τ1.set j (slot1 d fr)).set k (.o (.lst [])), t2))
def pnO (i j k : Nat) (r : Res) (τ : List Sl) : Option (D × Bool × T) → Option (SOut × Sg T)
  | none => none
  | some (d, fr, t2) => pb2 j k d fr t2 (storeAt i τ r)
def pnK3 (i j k : Nat) (g : EF T) (r : Res) : SF T := fun s => pnO i j k r s.1 (blkV g s.1 s.2)
theorem q_parBN {i j k : Nat} {f g : EF T} {s : Sg T} : parBNF i j k f g s = sbnd (pnK3 i j k g) (f s) := by
  unfold parBNF sbind sbnd pnK3 pnO pb2
  rcases f s with _ | ⟨_ | _, _⟩ <;> rfl
theorem q_pnK3 {i j k : Nat} {g : EF T} {r : Res} {s : Sg T} : pnK3 i j k g r s = pnO i j k r s.1 (blkV g s.1 s.2) := (rfl)
theorem q_pnO {i j k : Nat} {r : Res} {τ : List Sl} {d : D} {fr : Bool} {t2 : T} : pnO i j k r τ (some (d, fr, t2)) = pb2 j k d fr t2 (storeAt i τ r) := (rfl)
theorem q_pb2 {j k : Nat} {d : D} {fr : Bool} {t2 : T} {τ1 : List Sl} : pb2 j k d fr t2 (some τ1) = some (.nx, ((τ1.set j (slot1 d fr)).set k (.o (.lst [])), t2)) := (rfl)
/-! what holds behind -/
def pbQ (i j : Nat) (r : Res) (τ : List Sl) (Q : SOut → Sg T → Prop) : Out → Sg T → Prop
  | .ok r2, s2 => wS (pbO i j r τ (bvO (some (.ok r2, s2)))) Q
  | .ex _ _, _ => False
theorem w_pbO {i j : Nat} {r : Res} {τ : List Sl} {x : Option (Out × Sg T)} {Q : SOut → Sg T → Prop} : wS (pbO i j r τ (bvO x)) Q = wE x (pbQ i j r τ Q) := by
  rcases x with _ | ⟨o, s⟩
  · exact propext ⟨fun ⟨_, _, e, _⟩ => (nomatch e), fun ⟨_, _, e, _⟩ => (nomatch e)⟩
  · rw [w_E]
    cases o with
    | ok r => rfl
    | ex c fs => exact propext ⟨fun ⟨_, _, e, _⟩ => (nomatch e), fun e => e.elim⟩
theorem w_pbQ {i j : Nat} {r r2 : Res} {τ : List Sl} {s : Sg T} {Q : SOut → Sg T → Prop} : pbQ i j r τ Q (.ok r2) s = wS (pbO i j r τ (bvO (some (.ok r2, s)))) Q := (rfl)
def pnQ (i j k : Nat) (r : Res) (τ : List Sl) (Q : SOut → Sg T → Prop) : Out → Sg T → Prop
  | .ok r2, s2 => wS (pnO i j k r τ (bvO (some (.ok r2, s2)))) Q
  | .ex _ _, _ => False
theorem w_pnO {i j k : Nat} {r : Res} {τ : List Sl} {x : Option (Out × Sg T)} {Q : SOut → Sg T → Prop} : wS (pnO i j k r τ (bvO x)) Q = wE x (pnQ i j k r τ Q) := by
  rcases x with _ | ⟨o, s⟩
  · exact propext ⟨fun ⟨_, _, e, _⟩ => (nomatch e), fun ⟨_, _, e, _⟩ => (nomatch e)⟩
  · rw [w_E]
    cases o with
    | ok r => rfl
    | ex c fs => exact propext ⟨fun ⟨_, _, e, _⟩ => (nomatch e), fun e => e.elim⟩
theorem w_pnQ {i j k : Nat} {r r2 : Res} {τ : List Sl} {s : Sg T} {Q : SOut → Sg T → Prop} : pnQ i j k r τ Q (.ok r2) s = wS (pnO i j k r τ (bvO (some (.ok r2, s)))) Q := (rfl)
end
/-! ### chains -/
section
variable {T : Type}
def chR (op' : D → D → Option (D × Bool)) (rb : Res) (rc : Res) : EF T := fun s => dnO s (op2 op' (peek s.1 (hold rb)) (peek s.1 (hold rc)))
def chB (op' : D → D → Option (D × Bool)) (h : EF T) (rb : Res) (s : Sg T) : Option (D × Bool) → Option (Out × Sg T)
  | some (.bl true, false) => bnd (chR op' rb) (h s)
  | some (.bl false, false) => some (.ok (.d (.bl false)), s)
  | _ => none
def chK2 (op op' : D → D → Option (D × Bool)) (h : EF T) (ra rb : Res) : EF T := fun s => chB op' h rb s (op2 op (peek s.1 (hold ra)) (peek s.1 (hold rb)))
def chK (op op' : D → D → Option (D × Bool)) (g h : EF T) (ra : Res) : EF T := fun s => bnd (chK2 op op' h ra) (g s)
theorem bind_bnd {f : EF T} {k : Res → EF T} {s : Sg T} : bindF f k s = bnd k (f s) := by
  unfold bindF bnd
  rcases f s with _ | ⟨_ | _, _⟩ <;> rfl
theorem q_chain {op op' : D → D → Option (D × Bool)} {f g h : EF T} {s : Sg T} : chainF op op' f g h s = bnd (chK op op' g h) (f s) := by
  unfold chainF
  rw [bind_bnd]
  congr 1
  funext ra s1
  rw [bind_bnd]
  unfold chK
  congr 1
  funext rb s2
  unfold chK2 op2
  cases peek s2.1 (hold ra) with
  | none => rfl
  | some x =>
    cases peek s2.1 (hold rb) with
    | none => rfl
    | some y =>
      simp only
      rcases op x y with _ | ⟨_ | (_ | _) | _ | _ | _ | _ | _ | _ | _ | _, _ | _⟩ <;> try rfl
theorem q_chK {op op' : D → D → Option (D × Bool)} {g h : EF T} {ra : Res} {s : Sg T} : chK op op' g h ra s = bnd (chK2 op op' h ra) (g s) := (rfl)
theorem q_chK2 {op op' : D → D → Option (D × Bool)} {h : EF T} {ra rb : Res} {s : Sg T} : chK2 op op' h ra rb s = chB op' h rb s (op2 op (peek s.1 (hold ra)) (peek s.1 (hold rb))) := (rfl)
theorem q_chB_t {op' : D → D → Option (D × Bool)} {h : EF T} {rb : Res} {s : Sg T} : chB op' h rb s (some (.bl true, false)) = bnd (chR op' rb) (h s) := (rfl)
theorem q_chB_f {op' : D → D → Option (D × Bool)} {h : EF T} {rb : Res} {s : Sg T} : chB op' h rb s (some (.bl false, false)) = some (.ok (.d (.bl false)), s) := (rfl)
theorem q_chR {op' : D → D → Option (D × Bool)} {rb rc : Res} {s : Sg T} : chR op' rb rc s = dnO s (op2 op' (peek s.1 (hold rb)) (peek s.1 (hold rc))) := (rfl)
theorem w_chB {op' : D → D → Option (D × Bool)} {h : EF T} {rb : Res} {s : Sg T} {b : Bool} {Q : Out → Sg T → Prop} : wE (chB op' h rb s (some (.bl b, false))) Q = ((b = true → wE (bnd (chR op' rb) (h s)) Q) ∧ (b = false → Q (.ok (.d (.bl false))) s)) := by
  cases b
  · exact propext ⟨fun k => ⟨(fun z => nomatch z), fun _ => by rw [q_chB_f, w_E] at k; exact k⟩, fun k => by rw [q_chB_f, w_E]; exact k.2 rfl⟩
  · exact propext ⟨fun k => ⟨fun _ => k, (fun z => nomatch z)⟩, fun k => k.1 rfl⟩
end
def fxA := And.intro (@q_blkV) <| And.intro (@q_bvO_f) <| And.intro (@q_bvO_d) <| And.intro (@q_bvO_s) <| And.intro (@q_bvG) <| And.intro (@q_slot1_t) <| And.intro (@q_slot1_f) <| And.intro (@q_parB) <| And.intro (@q_pbK) <| And.intro (@q_pbO) <| And.intro (@q_pb1) <| And.intro (@q_parBN) <| And.intro (@q_pnK3) <| And.intro (@q_pnO) <| And.intro (@q_pb2) <| And.intro (@q_chain) <| And.intro (@q_chK) <| And.intro (@q_chK2) <| And.intro (@q_chB_t) <| And.intro (@q_chB_f) <| And.intro (@q_chR) <| And.intro (@q_par3C) <| And.intro (@q_p3R) (@q_p3K)
def fyA := And.intro (@w_pbO) <| And.intro (@w_pbQ) <| And.intro (@w_pnO) <| And.intro (@w_pnQ) (@w_chB)
end FD

/-! F32: own classes: fields read, objects made, fields of own objects stored. -/
namespace FD
open PySem PySem.Spec PyProof.Rows L2
def fldD (c f : Str) : D → Option (D × Bool)
  | .obj c' fs => if c' = c then (match fs.lookup f with | some d => some (d, false) | none => none) else none
  | _ => none
def fldF {T : Type} (c f : Str) (fa : EF T) : EF T := unF (fldD c f) fa
def putD (f : Str) (d : D) : List (Str × D) → List (Str × D)
  | [] => [(f, d)]
  | (g, x) :: r => if g = f then (g, d) :: r else (g, x) :: putD f d r
def stFld (i : Nat) (c f : Str) (t : Sg T → Sg T) (d : D) (τ : List Sl) : Option Sl → Option (List Sl)
  | some (.o (.obj c' fs)) => if c' = c ∧ fs.length < 1000 then some (τ.set i (.o (.obj c (putD f d fs)))) else none
  | _ => none
/-- x.f = e, where x's object is no one else's -/
def setFldF {T : Type} (i : Nat) (c f : Str) (fv : EF T) : SF T := sbind fv fun r s => match give s.1 r with
  | none => none
  | some (d, τ1) => match stFld (T := T) i c f id d τ1 τ1[i]? with
    | none => none
    | some τ2 => some (.nx, (τ2, s.2))
section
variable {Z : Wd} {C : Fx Z} {X : Cx} {ow : Nat → Option Addr} {τ : List Sl} {t : Z.T} {σ : L2.St} {H H' : Hp}
theorem DenF.put {O : Addr → Prop} {f : Str} {v : V} {d : D} (h : Den Z O H v d) : ∀ {vs : List (Str × V)} {ds : List (Str × D)}, DenF Z O H vs ds → DenF Z O H (putF f v vs) (putD f d ds)
  | _, _, .nil => .cons h .nil
  | (k, w) :: vs, (_, e) :: ds, .cons hw r => by
    unfold putF putD
    split
    · exact .cons h r
    · exact .cons hw (DenF.put h r)
theorem DenF.len {O : Addr → Prop} : ∀ {vs : List (Str × V)} {ds : List (Str × D)}, DenF Z O H vs ds → vs.length = ds.length
  | _, _, .nil => rfl
  | _, _, .cons _ r => by rw [List.length_cons, List.length_cons, DenF.len r]
/-! ### objects made -/
end
/-! ### run by simp -/
section
variable {T : Type}
theorem q_fld {c f : Str} {fa : EF T} {s : Sg T} : fldF c f fa s = unF (fldD c f) fa s := (rfl)
def sfO (s : Sg T) : Option (List Sl) → Option (SOut × Sg T)
  | none => none
  | some τ2 => some (.nx, (τ2, s.2))
def sfG (i : Nat) (c f : Str) (s : Sg T) : Option (D × List Sl) → Option (SOut × Sg T)
  | none => none
  | some (d, τ1) => sfO s (stFld (T := T) i c f id d τ1 τ1[i]?)
def sfK (i : Nat) (c f : Str) (r : Res) : SF T := fun s => sfG i c f s (give s.1 r)
theorem q_setFld {i : Nat} {c f : Str} {fv : EF T} {s : Sg T} : setFldF i c f fv s = sbnd (sfK i c f) (fv s) := by
  unfold setFldF sbind sbnd sfK sfG sfO
  rcases fv s with _ | ⟨_ | _, _⟩ <;> rfl
theorem q_sfK {i : Nat} {c f : Str} {r : Res} {s : Sg T} : sfK i c f r s = sfG i c f s (give s.1 r) := (rfl)
theorem q_sfG {i : Nat} {c f : Str} {s : Sg T} {d : D} {τ1 : List Sl} : sfG i c f s (some (d, τ1)) = sfO s (stFld (T := T) i c f id d τ1 τ1[i]?) := (rfl)
theorem q_sfO {s : Sg T} {τ2 : List Sl} : sfO s (some τ2) = some (.nx, (τ2, s.2)) := (rfl)
end
end FD

/-! F33: __init__: the fields of self, one after the other. -/
namespace FD
open PySem PySem.Spec PyProof.Rows L2
/-- x holds the fields fs -/
structure IS (Z : Wd) (O : Addr → Prop) (H0 : Hp) (t : Z.T) (c : Str) (x dx : Addr) (fs : List (Str × D)) (H : Hp) : Prop where
  on : Z.On t (fun b => O b ∨ b = x) H
  gr : GrowZ Z H0 H
  at_ : ∃ vs, H x = some (.ins (Z.ca c) dx vs) ∧ DenF Z (fun b => O b ∨ b = x) H vs fs
  nx : H0 x = none
  hid : ∀ a, Z.hid a → O a
  old : ∀ a, O a → ∃ o, H0 a = some o ∧ ∀ xs, o ≠ .tup xs
section
variable {Z : Wd} {O : Addr → Prop} {H0 H : Hp} {t : Z.T} {c : Str} {x dx : Addr} {fs : List (Str × D)}
theorem IS.hidx (S : IS Z O H0 t c x dx fs H) {a : Addr} (h : O a) : a ≠ x := fun e => by
  obtain ⟨o, e1, _⟩ := S.old a h
  rw [e, S.nx] at e1
  cases e1
theorem IS.put {f : Str} {v : V} {d : D} {vs : List (Str × V)} (S : IS Z O H0 t c x dx fs H) (e : H x = some (.ins (Z.ca c) dx vs)) (q : DenF Z (fun b => O b ∨ b = x) H vs fs) (dv : Den Z (fun b => O b ∨ b = x) H v d) :
    IS Z O H0 t c x dx (putD f d fs) (upd H x (.ins (Z.ca c) dx (putF f v vs))) where
  on := Z.loc t _ _ H _ S.on (fun a o e1 n => ⟨(upd_ne fun z => n (.inr z)).trans e1, n⟩) fun a o h e1 => by
    rw [upd_ne (fun z => ?_)]
    · exact e1
    · rcases h with h | ⟨φ, rfl⟩
      · exact S.hidx (S.hid a h) z
      · rw [z, e] at e1
        cases e1
  gr := fun a o e n => by
    rw [upd_ne (ne_of_none e S.nx)]
    exact S.gr a o e n
  at_ := ⟨_, upd_same, (DenF.put dv q).mono fun a o e n => ⟨by rw [upd_ne fun z => n (.inr z)]; exact e, n⟩⟩
  nx := S.nx
  hid := S.hid
  old := S.old
theorem IS.new {p : Addr} {o : HO} (S : IS Z O H0 t c x dx fs H) (h : H p = none) : IS Z O H0 t c x dx fs (upd H p o) where
  on := Z.loc t _ _ H _ S.on (fun a u e n => ⟨Grow.new h a u e, n⟩) fun a u _ e => Grow.new h a u e
  gr := fun a u e n => Grow.new h a u (S.gr a u e n)
  at_ := by
    obtain ⟨vs, e, q⟩ := S.at_
    exact ⟨vs, Grow.new h _ _ e, q.mono fun a u e n => ⟨Grow.new h a u e, n⟩⟩
  nx := S.nx
  hid := S.hid
  old := S.old
variable {X : Cx} {σ : L2.St} {E : Ends}
/-- where __init__ begins -/
theorem IS.begin (nx : H0 x = none) (ndx : H0 dx = none) (ne : dx ≠ x) (h1 : ∀ a, Z.hid a → O a) (h2 : ∀ a, O a → ∃ o, H0 a = some o ∧ ∀ xs, o ≠ .tup xs) (on : Z.On t O H0) : IS Z O H0 t c x dx [] (upd (upd H0 dx (.own x)) x (.ins (Z.ca c) dx [])) where
  on := Z.loc t _ _ H0 _ on (fun a o e n => ⟨by rw [upd_ne (ne_of_none e nx), upd_ne (ne_of_none e ndx)]; exact e, fun q => q.elim n (ne_of_none e nx)⟩) fun a o _ e => by rw [upd_ne (ne_of_none e nx), upd_ne (ne_of_none e ndx)]; exact e
  gr := fun a o e _ => by rw [upd_ne (ne_of_none e nx), upd_ne (ne_of_none e ndx)]; exact e
  at_ := ⟨[], upd_same, .nil⟩
  nx := nx
  hid := h1
  old := h2
end
end FD

/-! F34: own exceptions raised. -/
namespace FD
open PySem PySem.Spec PyProof.Rows L2
/-- raise X(e) -/
def raiseF {T : Type} (x f : Str) (fa : EF T) : SF T := sbind fa fun r s => match give s.1 r with
  | none => none
  | some (d, τ1) => some (.ex x [(f, d)], (τ1, s.2))
def raise0F {T : Type} (x : Str) : SF T := fun s => some (.ex x [], s)
section
variable {Z : Wd} {C : Fx Z} {X : Cx} {ow : Nat → Option Addr} {τ : List Sl} {t : Z.T} {σ : L2.St} {H H' : Hp}
end
/-! ### run by simp -/
section
variable {T : Type}
def raO (x f : Str) (s : Sg T) : Option (D × List Sl) → Option (SOut × Sg T)
  | none => none
  | some (d, τ1) => some (.ex x [(f, d)], (τ1, s.2))
def raK (x f : Str) (r : Res) : SF T := fun s => raO x f s (give s.1 r)
theorem q_raise {x f : Str} {fa : EF T} {s : Sg T} : raiseF x f fa s = sbnd (raK x f) (fa s) := by
  unfold raiseF sbind sbnd raK raO
  rcases fa s with _ | ⟨_ | _, _⟩ <;> rfl
theorem q_raK {x f : Str} {r : Res} {s : Sg T} : raK x f r s = raO x f s (give s.1 r) := (rfl)
theorem q_raO {x f : Str} {s : Sg T} {d : D} {τ1 : List Sl} : raO x f s (some (d, τ1)) = some (.ex x [(f, d)], (τ1, s.2)) := (rfl)
theorem q_raise0 {x : Str} {s : Sg T} : raise0F x s = some (.ex x [], s) := (rfl)
end
end FD

/-! F35: try, except, what the suite sees of the exception. -/
namespace FD
open PySem PySem.Spec PyProof.Rows L2
/-- behind a body's exception that a clause may catch: m says whether the named class catches it -/
def tryF {T : Type} (m : Str → Option Bool) (f : SF T) (g : SF T) : SF T := fun s => match f s with
  | some (.ex c fs, s1) => match m c with
    | some true => match g s1 with
      | some (.ex _ _, _) => none
      | r => r
    | some false => some (.ex c fs, s1)
    | none => none
  | r => r
def noX (τ : List Sl) : Bool := τ.all fun s => match s with
  | .x => false
  | _ => true
/-- the exception's name goes -/
def unX {T : Type} (i : Nat) : Option (SOut × Sg T) → Option (SOut × Sg T)
  | some (.nx, s) => if noX (s.1.set i .no) = true then some (.nx, (s.1.set i .no, s.2)) else none
  | some (.rt (.d d), s) => if noX (s.1.set i .no) = true then some (.rt (.d d), (s.1.set i .no, s.2)) else none
  | some (.rt (.f d), s) => if noX (s.1.set i .no) = true then some (.rt (.f d), (s.1.set i .no, s.2)) else none
  | _ => none
/-- .. as n, n in slot i -/
def tryAsF {T : Type} (i : Nat) (m : Str → Option Bool) (f : SF T) (g : Str → List (Str × D) → SF T) : SF T := fun s => match f s with
  | some (.ex c fs, s1) => match m c with
    | some true => if noX s1.1 = true then unX i (g c fs (s1.1.set i .x, s1.2)) else none
    | some false => some (.ex c fs, s1)
    | none => none
  | r => r
/-- n.f -/
def exfF {T : Type} (i : Nat) (k f : Str) (c : Str) (fs : List (Str × D)) : EF T := fun s => match s.1[i]? with
  | some .x => if c = k then (match fs.lookup f with
    | some d => some (.ok (.d d), s)
    | none => none) else none
  | _ => none
/-- isinstance(n, ..) -/
def exiF {T : Type} (i : Nat) (b : Option Bool) : EF T := fun s => match s.1[i]?, b with
  | some .x, some b => some (.ok (.d (.bl b)), s)
  | _, _ => none
abbrev Fx.suite {Z : Wd} (C : Fx Z) (a : Addr) (d : Option Addr) (fs : List (Str × D)) : Fx Z := ⟨C.O, C.H, dead, ⟨.ref a, d, fs⟩⟩
section
variable {Z : Wd} {C : Fx Z} {X : Cx} {ow : Nat → Option Addr} {τ : List Sl} {t : Z.T} {σ : L2.St} {H H' : Hp} {E : Ends}
/-! ### with the exception's name -/
theorem noX_at {τ : List Sl} (h : noX τ = true) {i : Nat} (e : τ[i]? = some .x) : False := by
  have := List.all_eq_true.mp h _ (List.mem_of_getElem? e)
  cases this
/-- the name is set -/
theorem Rel.named {i : Nat} {a : Addr} {d : Option Addr} {fs : List (Str × D)} (R : C.Rel ow τ t σ H) (hn : noX τ = true) (eo : ExOk Z (C.Hid ow) H d fs) : ∃ ow', (C.suite a d fs).Rel ow' (τ.set i .x) t (σ.set i (some (.ref a))) H ∧ (ow 0 = none → ow' 0 = none) ∧ Ext (C.Hid ow) H (C.Hid ow') H := by
  refine ⟨drop ow (i + 1), ⟨Wd.less R.on fun b q => q.imp id fun ⟨j, h⟩ => ⟨j, (drop_some h).1⟩, R.hid, R.hidT, R.grow, by rw [List.length_set, List.length_set]; exact R.len, fun j s q => ?_, fun i j a h1 h2 => R.inj i j a (drop_some h1).1 (drop_some h2).1, fun i a h => R.new i a (drop_some h).1⟩, fun z => drop_zero z, ext_drop⟩
  by_cases e : j = i
  · subst e
    have hl : j < τ.length := by
      have := (List.getElem?_eq_some_iff.mp q).1
      rwa [List.length_set] at this
    rw [List.getElem?_set_self hl] at q
    cases q
    exact ⟨List.getElem?_set_self (by rw [← R.len]; exact hl), eo.mono ext_drop.see⟩
  · rw [List.getElem?_set_ne (Ne.symm e)] at q
    have := (R.slot j s q).ext (ow' := drop ow (i + 1)) (ext_drop (i := i + 1)) fun a h => ⟨by rw [drop_ne (by omega)]; exact h, rfl⟩
    cases s with
    | no => trivial
    | x => exact (noX_at hn q).elim
    | v d =>
      obtain ⟨v', e1, e2⟩ := this
      exact ⟨v', by rw [List.getElem?_set_ne (Ne.symm e)]; exact e1, e2⟩
    | o d =>
      obtain ⟨a, o, e1, e2, e3, c⟩ := this
      exact ⟨a, o, e1, by rw [List.getElem?_set_ne (Ne.symm e)]; exact e2, e3, c⟩
/-! ### in the suite -/
end
end FD

/-! F36: comprehensions over two walks. -/
namespace FD
open PySem PySem.Spec PyProof.Rows L2
def lc2L {T : Type} (g : GF) (it1 : IF T) (vs1 : List Nat) (g1 : GF) (c1 e : EF T) (τ0 : List Sl) : List D → T → Option (List D × T)
  | [], t => some ([], t)
  | d :: ds, t => match g d τ0 with
    | none => none
    | some τ1 => match it1 (τ1, t) with
      | some (.ok ds1, s3) => match lcL g1 c1 e (hideFrom vs1 0 s3.1) ds1 s3.2 with
        | some (out1, t1) => match lc2L g it1 vs1 g1 c1 e τ0 ds t1 with
          | some (rest, t') => some (out1 ++ rest, t')
          | none => none
        | none => none
      | _ => none
def lc2F {T : Type} (sh vs : List Nat) (it : IF T) (g : GF) (it1 : IF T) (vs1 : List Nat) (g1 : GF) (c1 e : EF T) : EF T := fun s => match it s with
  | none => none
  | some (.ex k fs, s1) => some (.ex k fs, s1)
  | some (.ok ds, s1) => match lc2L g it1 vs1 g1 c1 e (hideFrom vs 0 (shareAll sh s1.1)) ds s1.2 with
      | none => none
      | some (out, t) => if out.length ≤ LEN then some (.ok (.f (.lst out)), (shareAll sh s1.1, t)) else none
section
variable {Z : Wd} {C : Fx Z} {X : Cx} {ow ow1 : Nat → Option Addr} {τ : List Sl} {t : Z.T} {σ : L2.St} {H H1 H' : Hp}
/-- the slots of a block, later -/
structure Seen (Z : Wd) (O : Addr → Prop) (τ : List Sl) (σ : L2.St) (H : Hp) : Prop where
  len : τ.length = σ.length
  slot : ∀ (i : Nat) (s : Sl), τ[i]? = some s → SlotOk Z noEv O H (fun _ => none) σ i s
theorem Seen.ext {O O' : Addr → Prop} (S : Seen Z O τ σ H) (x : Ext O H O' H') : Seen Z O' τ σ H' := ⟨S.len, fun i s e => (S.slot i s e).ext x fun a z => by cases z⟩
theorem Rel.seen {O : Addr → Prop} {Hb : Hp} (R : (blkFx (Z := Z) O Hb).Rel (fun _ => none) τ t σ H) : Seen Z O τ σ H :=
  ⟨R.len, fun i s e => (R.slot i s e).ext ⟨fun a o e _ => e, fun a h => .inl (.inl h)⟩ fun a z => by cases z⟩
end
end FD

/-! F37: how many different ints, the different ints in order. -/
namespace FD
open PySem PySem.Spec PyProof.Rows L2
def insA (x : Int) : List Int → List Int
  | [] => [x]
  | y :: r => if x < y then x :: y :: r else if x = y then y :: r else y :: insA x r
/-- the different ones, ascending -/
def ascL : List Int → List Int
  | [] => []
  | x :: r => insA x (ascL r)
theorem mem_insA {x k : Int} : ∀ {l : List Int}, k ∈ insA x l ↔ k = x ∨ k ∈ l
  | [] => by simp [insA]
  | y :: r => by
    unfold insA
    split
    · simp
    · split
      · rename_i e
        subst e
        simp
      · simp only [List.mem_cons, mem_insA (l := r)]
        constructor
        · rintro (h | h | h)
          · exact .inr (.inl h)
          · exact .inl h
          · exact .inr (.inr h)
        · rintro (h | h | h)
          · exact .inr (.inl h)
          · exact .inl h
          · exact .inr (.inr h)
theorem insA_asc {x : Int} : ∀ {l : List Int}, l.Pairwise (· < ·) → (insA x l).Pairwise (· < ·)
  | [], _ => by simp [insA]
  | y :: r, h => by
    unfold insA
    have h2 := List.pairwise_cons.mp h
    split
    · rename_i q
      refine List.pairwise_cons.mpr ⟨fun z m => ?_, h⟩
      rcases List.mem_cons.mp m with rfl | m
      · exact q
      · have := h2.1 z m
        omega
    · split
      · exact h
      · rename_i q1 q2
        refine List.pairwise_cons.mpr ⟨fun z m => ?_, insA_asc h2.2⟩
        rcases mem_insA.mp m with rfl | m
        · omega
        · exact h2.1 z m
theorem ascL_asc : ∀ {l : List Int}, (ascL l).Pairwise (· < ·)
  | [] => .nil
  | x :: r => insA_asc ascL_asc
theorem mem_ascL {k : Int} : ∀ {l : List Int}, k ∈ ascL l ↔ k ∈ l
  | [] => Iff.rfl
  | x :: r => by rw [ascL, mem_insA, mem_ascL (l := r), List.mem_cons]
theorem asc_ext : ∀ {a b : List Int}, a.Pairwise (· < ·) → b.Pairwise (· < ·) → (∀ k, k ∈ a ↔ k ∈ b) → a = b
  | [], [], _, _, _ => rfl
  | [], y :: r, _, _, h => by have := (h y).mpr (List.mem_cons_self ..); cases this
  | x :: r, [], _, _, h => by have := (h x).mp (List.mem_cons_self ..); cases this
  | x :: a, y :: b, ha, hb, h => by
    have h1 := List.pairwise_cons.mp ha
    have h2 := List.pairwise_cons.mp hb
    have e : x = y := by
      rcases List.mem_cons.mp ((h x).mp (List.mem_cons_self ..)) with e | m
      · exact e
      · have c1 := h2.1 x m
        rcases List.mem_cons.mp ((h y).mpr (List.mem_cons_self ..)) with e | m2
        · exact e.symm
        · have c2 := h1.1 y m2
          omega
    subst e
    rw [asc_ext h1.2 h2.2 fun k => by
      constructor
      · intro m
        rcases List.mem_cons.mp ((h k).mp (List.mem_cons_of_mem _ m)) with e | m2
        · have := h1.1 k m
          omega
        · exact m2
      · intro m
        rcases List.mem_cons.mp ((h k).mpr (List.mem_cons_of_mem _ m)) with e | m2
        · have := h2.1 k m
          omega
        · exact m2]
section
variable {Z : Wd} {C : Fx Z} {X : Cx} {O : Addr → Prop} {H : Hp}
end
end FD

/-! F38: F32 to F37 run by simp, and what holds behind them. -/
namespace FD
open PySem PySem.Spec PyProof.Rows L2
section
variable {T : Type}
/-! ### try -/
def tyS : Option (SOut × Sg T) → Option (SOut × Sg T)
  | some (.ex _ _, _) => none
  | r => r
def tyM (g : SF T) (c : Str) (fs : List (Str × D)) (s1 : Sg T) : Option Bool → Option (SOut × Sg T)
  | some true => tyS (g s1)
  | some false => some (.ex c fs, s1)
  | none => none
def tyO (m : Str → Option Bool) (g : SF T) : Option (SOut × Sg T) → Option (SOut × Sg T)
  | some (.ex c fs, s1) => tyM g c fs s1 (m c)
  | r => r
theorem q_try {m : Str → Option Bool} {f g : SF T} {s : Sg T} : tryF m f g s = tyO m g (f s) := by
  unfold tryF tyO
  rcases f s with _ | ⟨_ | _ | _ | _ | ⟨c, fs⟩, s1⟩ <;> rfl
theorem q_tyO_nx {m : Str → Option Bool} {g : SF T} {s : Sg T} : tyO m g (some (.nx, s)) = some (.nx, s) := (rfl)
theorem q_tyO_rt {m : Str → Option Bool} {g : SF T} {s : Sg T} {r : Res} : tyO m g (some (.rt r, s)) = some (.rt r, s) := (rfl)
theorem q_tyO_ex {m : Str → Option Bool} {g : SF T} {s : Sg T} {c : Str} {fs : List (Str × D)} : tyO m g (some (.ex c fs, s)) = tyM g c fs s (m c) := (rfl)
theorem q_tyM_t {g : SF T} {s : Sg T} {c : Str} {fs : List (Str × D)} : tyM g c fs s (some true) = tyS (g s) := (rfl)
theorem q_tyM_f {g : SF T} {s : Sg T} {c : Str} {fs : List (Str × D)} : tyM g c fs s (some false) = some (.ex c fs, s) := (rfl)
theorem q_tyS_nx {s : Sg T} : tyS (some (.nx, s)) = some (.nx, s) := (rfl)
theorem q_tyS_rt {s : Sg T} {r : Res} : tyS (some (.rt r, s)) = some (.rt r, s) := (rfl)
def tyQ (m : Str → Option Bool) (g : SF T) (Q : SOut → Sg T → Prop) : SOut → Sg T → Prop
  | .ex c fs, s => wS (tyM g c fs s (m c)) Q
  | o, s => Q o s
theorem w_tyO {m : Str → Option Bool} {g : SF T} {x : Option (SOut × Sg T)} {Q : SOut → Sg T → Prop} : wS (tyO m g x) Q = wS x (tyQ m g Q) := by
  rcases x with _ | ⟨o, s⟩
  · exact propext ⟨fun ⟨_, _, e, _⟩ => (nomatch e), fun ⟨_, _, e, _⟩ => (nomatch e)⟩
  · rw [w_S]
    cases o with
    | nx => exact w_S
    | rt r => exact w_S
    | bk => exact w_S
    | ct => exact w_S
    | ex c fs => rfl
theorem w_tyQ_nx {m : Str → Option Bool} {g : SF T} {Q : SOut → Sg T → Prop} {s : Sg T} : tyQ m g Q .nx s = Q .nx s := (rfl)
theorem w_tyQ_rt {m : Str → Option Bool} {g : SF T} {Q : SOut → Sg T → Prop} {s : Sg T} {r : Res} : tyQ m g Q (.rt r) s = Q (.rt r) s := (rfl)
theorem w_tyQ_ex {m : Str → Option Bool} {g : SF T} {Q : SOut → Sg T → Prop} {s : Sg T} {c : Str} {fs : List (Str × D)} : tyQ m g Q (.ex c fs) s = wS (tyM g c fs s (m c)) Q := (rfl)
def tySQ (Q : SOut → Sg T → Prop) : SOut → Sg T → Prop
  | .ex _ _, _ => False
  | o, s => Q o s
theorem w_tyS {x : Option (SOut × Sg T)} {Q : SOut → Sg T → Prop} : wS (tyS x) Q = wS x (tySQ Q) := by
  rcases x with _ | ⟨o, s⟩
  · exact propext ⟨fun ⟨_, _, e, _⟩ => (nomatch e), fun ⟨_, _, e, _⟩ => (nomatch e)⟩
  · rw [w_S]
    cases o with
    | nx => exact w_S
    | rt r => exact w_S
    | bk => exact w_S
    | ct => exact w_S
    | ex c fs => exact propext ⟨fun ⟨_, _, e, _⟩ => (nomatch e), fun e => e.elim⟩
theorem w_tySQ_nx {Q : SOut → Sg T → Prop} {s : Sg T} : tySQ Q .nx s = Q .nx s := (rfl)
theorem w_tySQ_rt {Q : SOut → Sg T → Prop} {s : Sg T} {r : Res} : tySQ Q (.rt r) s = Q (.rt r) s := (rfl)
/-! ### try .. as -/
theorem noX_nil : noX [] = true := (rfl)
theorem noX_no {τ : List Sl} : noX (.no :: τ) = noX τ := by simp [noX]
theorem noX_v {τ : List Sl} {d : D} : noX (.v d :: τ) = noX τ := by simp [noX]
theorem noX_o {τ : List Sl} {d : D} : noX (.o d :: τ) = noX τ := by simp [noX]
def taB (i : Nat) (g : Str → List (Str × D) → SF T) (c : Str) (fs : List (Str × D)) (s1 : Sg T) (b : Bool) : Option (SOut × Sg T) := if b = true then unX i (g c fs (s1.1.set i .x, s1.2)) else none
def taM (i : Nat) (g : Str → List (Str × D) → SF T) (c : Str) (fs : List (Str × D)) (s1 : Sg T) : Option Bool → Option (SOut × Sg T)
  | some true => taB i g c fs s1 (noX s1.1)
  | some false => some (.ex c fs, s1)
  | none => none
def taO (i : Nat) (m : Str → Option Bool) (g : Str → List (Str × D) → SF T) : Option (SOut × Sg T) → Option (SOut × Sg T)
  | some (.ex c fs, s1) => taM i g c fs s1 (m c)
  | r => r
theorem q_tryAs {i : Nat} {m : Str → Option Bool} {f : SF T} {g : Str → List (Str × D) → SF T} {s : Sg T} : tryAsF i m f g s = taO i m g (f s) := by
  unfold tryAsF taO
  rcases f s with _ | ⟨_ | _ | _ | _ | ⟨c, fs⟩, s1⟩ <;> rfl
theorem q_taO_nx {i : Nat} {m : Str → Option Bool} {g : Str → List (Str × D) → SF T} {s : Sg T} : taO i m g (some (.nx, s)) = some (.nx, s) := (rfl)
theorem q_taO_rt {i : Nat} {m : Str → Option Bool} {g : Str → List (Str × D) → SF T} {s : Sg T} {r : Res} : taO i m g (some (.rt r, s)) = some (.rt r, s) := (rfl)
theorem q_taO_ex {i : Nat} {m : Str → Option Bool} {g : Str → List (Str × D) → SF T} {s : Sg T} {c : Str} {fs : List (Str × D)} : taO i m g (some (.ex c fs, s)) = taM i g c fs s (m c) := (rfl)
theorem q_taM_t {i : Nat} {g : Str → List (Str × D) → SF T} {s : Sg T} {c : Str} {fs : List (Str × D)} : taM i g c fs s (some true) = taB i g c fs s (noX s.1) := (rfl)
theorem q_taM_f {i : Nat} {g : Str → List (Str × D) → SF T} {s : Sg T} {c : Str} {fs : List (Str × D)} : taM i g c fs s (some false) = some (.ex c fs, s) := (rfl)
theorem q_taB {i : Nat} {g : Str → List (Str × D) → SF T} {s : Sg T} {c : Str} {fs : List (Str × D)} : taB i g c fs s true = unX i (g c fs (s.1.set i .x, s.2)) := (rfl)
def unB (o : SOut) (τ : List Sl) (t : T) (b : Bool) : Option (SOut × Sg T) := if b = true then some (o, (τ, t)) else none
theorem q_unX_nx {i : Nat} {s : Sg T} : unX i (some (.nx, s)) = unB .nx (s.1.set i .no) s.2 (noX (s.1.set i .no)) := (rfl)
theorem q_unX_d {i : Nat} {s : Sg T} {d : D} : unX i (some (.rt (.d d), s)) = unB (.rt (.d d)) (s.1.set i .no) s.2 (noX (s.1.set i .no)) := (rfl)
theorem q_unX_f {i : Nat} {s : Sg T} {d : D} : unX i (some (.rt (.f d), s)) = unB (.rt (.f d)) (s.1.set i .no) s.2 (noX (s.1.set i .no)) := (rfl)
theorem q_unB {o : SOut} {τ : List Sl} {t : T} : unB o τ t true = some (o, (τ, t)) := (rfl)
def taQ (i : Nat) (m : Str → Option Bool) (g : Str → List (Str × D) → SF T) (Q : SOut → Sg T → Prop) : SOut → Sg T → Prop
  | .ex c fs, s => wS (taM i g c fs s (m c)) Q
  | o, s => Q o s
theorem w_taO {i : Nat} {m : Str → Option Bool} {g : Str → List (Str × D) → SF T} {x : Option (SOut × Sg T)} {Q : SOut → Sg T → Prop} : wS (taO i m g x) Q = wS x (taQ i m g Q) := by
  rcases x with _ | ⟨o, s⟩
  · exact propext ⟨fun ⟨_, _, e, _⟩ => (nomatch e), fun ⟨_, _, e, _⟩ => (nomatch e)⟩
  · rw [w_S]
    cases o with
    | nx => exact w_S
    | rt r => exact w_S
    | bk => exact w_S
    | ct => exact w_S
    | ex c fs => rfl
theorem w_taQ_nx {i : Nat} {m : Str → Option Bool} {g : Str → List (Str × D) → SF T} {Q : SOut → Sg T → Prop} {s : Sg T} : taQ i m g Q .nx s = Q .nx s := (rfl)
theorem w_taQ_rt {i : Nat} {m : Str → Option Bool} {g : Str → List (Str × D) → SF T} {Q : SOut → Sg T → Prop} {s : Sg T} {r : Res} : taQ i m g Q (.rt r) s = Q (.rt r) s := (rfl)
theorem w_taQ_ex {i : Nat} {m : Str → Option Bool} {g : Str → List (Str × D) → SF T} {Q : SOut → Sg T → Prop} {s : Sg T} {c : Str} {fs : List (Str × D)} : taQ i m g Q (.ex c fs) s = wS (taM i g c fs s (m c)) Q := (rfl)
def unQ (i : Nat) (Q : SOut → Sg T → Prop) : SOut → Sg T → Prop
  | .nx, s => wS (unB .nx (s.1.set i .no) s.2 (noX (s.1.set i .no))) Q
  | .rt (.d d), s => wS (unB (.rt (.d d)) (s.1.set i .no) s.2 (noX (s.1.set i .no))) Q
  | .rt (.f d), s => wS (unB (.rt (.f d)) (s.1.set i .no) s.2 (noX (s.1.set i .no))) Q
  | _, _ => False
theorem w_unX {i : Nat} {x : Option (SOut × Sg T)} {Q : SOut → Sg T → Prop} : wS (unX i x) Q = wS x (unQ i Q) := by
  rcases x with _ | ⟨o, s⟩
  · exact propext ⟨fun ⟨_, _, e, _⟩ => (nomatch e), fun ⟨_, _, e, _⟩ => (nomatch e)⟩
  · rw [w_S]
    rcases o with _ | (_ | _ | _) | _ | _ | _
    · rfl
    · rfl
    · rfl
    · exact propext ⟨fun ⟨_, _, e, _⟩ => (nomatch e), fun e => e.elim⟩
    · exact propext ⟨fun ⟨_, _, e, _⟩ => (nomatch e), fun e => e.elim⟩
    · exact propext ⟨fun ⟨_, _, e, _⟩ => (nomatch e), fun e => e.elim⟩
    · exact propext ⟨fun ⟨_, _, e, _⟩ => (nomatch e), fun e => e.elim⟩
theorem w_unQ_nx {i : Nat} {Q : SOut → Sg T → Prop} {s : Sg T} : unQ i Q .nx s = wS (unB .nx (s.1.set i .no) s.2 (noX (s.1.set i .no))) Q := (rfl)
theorem w_unQ_d {i : Nat} {Q : SOut → Sg T → Prop} {s : Sg T} {d : D} : unQ i Q (.rt (.d d)) s = wS (unB (.rt (.d d)) (s.1.set i .no) s.2 (noX (s.1.set i .no))) Q := (rfl)
theorem w_unQ_f {i : Nat} {Q : SOut → Sg T → Prop} {s : Sg T} {d : D} : unQ i Q (.rt (.f d)) s = wS (unB (.rt (.f d)) (s.1.set i .no) s.2 (noX (s.1.set i .no))) Q := (rfl)
/-! ### in the suite -/
def exO (s : Sg T) : Option D → Option (Out × Sg T)
  | some d => some (.ok (.d d), s)
  | none => none
def exC (f : Str) (fs : List (Str × D)) (s : Sg T) (b : Bool) : Option (Out × Sg T) := if b = true then exO s (fs.lookup f) else none
def exS (k f c : Str) (fs : List (Str × D)) (s : Sg T) : Option Sl → Option (Out × Sg T)
  | some .x => exC f fs s (decide (c = k))
  | _ => none
theorem q_exf {i : Nat} {k f c : Str} {fs : List (Str × D)} {s : Sg T} : exfF i k f c fs s = exS k f c fs s s.1[i]? := by
  unfold exfF exS exC exO
  rcases s.1[i]? with _ | _ | _ | _ | _ <;> try rfl
  by_cases q : c = k
  · rw [if_pos q, if_pos (decide_eq_true q)]
    all_goals rfl
  · rw [if_neg q, if_neg (by simpa using q)]
theorem q_exS {f c : Str} {fs : List (Str × D)} {s : Sg T} : exS c f c fs s (some .x) = exO s (fs.lookup f) := by simp [exS, exC]
theorem q_exO {s : Sg T} {d : D} : exO s (some d) = some (.ok (.d d), s) := (rfl)
def eiS (b : Option Bool) (s : Sg T) : Option Sl → Option (Out × Sg T)
  | some .x => match b with
    | some b => some (.ok (.d (.bl b)), s)
    | none => none
  | _ => none
theorem q_exi {i : Nat} {b : Option Bool} {s : Sg T} : exiF i b s = eiS b s s.1[i]? := by
  unfold exiF eiS
  rcases s.1[i]? with _ | _ | _ | _ | _ <;> rcases b with _ | b <;> rfl
theorem q_eiS {b : Bool} {s : Sg T} : eiS (some b) s (some .x) = some (.ok (.d (.bl b)), s) := (rfl)
theorem q_lk1 {f : Str} {d : D} : List.lookup f [(f, d)] = some d := by
  rw [List.lookup_cons]
  simp
/-! ### comprehensions over two walks -/
def l2R (τ : List Sl) : Option (List D × T) → Option (Out × Sg T)
  | none => none
  | some (out, t) => if out.length ≤ LEN then some (.ok (.f (.lst out)), (τ, t)) else none
def l2O (sh vs : List Nat) (g : GF) (it1 : IF T) (vs1 : List Nat) (g1 : GF) (c1 e : EF T) : Option (OutI × Sg T) → Option (Out × Sg T)
  | none => none
  | some (.ex k fs, s1) => some (.ex k fs, s1)
  | some (.ok ds, s1) => l2R (shareAll sh s1.1) (lc2L g it1 vs1 g1 c1 e (hideFrom vs 0 (shareAll sh s1.1)) ds s1.2)
theorem q_lc2 {sh vs vs1 : List Nat} {it it1 : IF T} {g g1 : GF} {c1 e : EF T} {s : Sg T} : lc2F sh vs it g it1 vs1 g1 c1 e s = l2O sh vs g it1 vs1 g1 c1 e (it s) := by
  unfold lc2F l2O l2R
  rcases it s with _ | ⟨_ | _, _⟩ <;> rfl
def l2Q (sh vs : List Nat) (g : GF) (it1 : IF T) (vs1 : List Nat) (g1 : GF) (c1 e : EF T) (Q : Out → Sg T → Prop) : OutI → Sg T → Prop
  | .ok ds, s => wL (lc2L g it1 vs1 g1 c1 e (hideFrom vs 0 (shareAll sh s.1)) ds s.2) fun out t => out.length ≤ 100000 ∧ Q (.ok (.f (.lst out))) (shareAll sh s.1, t)
  | .ex k fs, s => Q (.ex k fs) s
theorem w_l2O {sh vs vs1 : List Nat} {it1 : IF T} {g g1 : GF} {c1 e : EF T} {x : Option (OutI × Sg T)} {Q : Out → Sg T → Prop} : wE (l2O sh vs g it1 vs1 g1 c1 e x) Q = wI x (l2Q sh vs g it1 vs1 g1 c1 e Q) := by
  rcases x with _ | ⟨o, s⟩
  · exact propext ⟨fun ⟨_, _, e, _⟩ => (nomatch e), fun ⟨_, _, e, _⟩ => (nomatch e)⟩
  · rw [w_I]
    cases o with
    | ok ds =>
      show wE (l2R (shareAll sh s.1) (lc2L g it1 vs1 g1 c1 e (hideFrom vs 0 (shareAll sh s.1)) ds s.2)) Q = wL (lc2L g it1 vs1 g1 c1 e (hideFrom vs 0 (shareAll sh s.1)) ds s.2) fun out t => out.length ≤ 100000 ∧ Q (.ok (.f (.lst out))) (shareAll sh s.1, t)
      rcases lc2L g it1 vs1 g1 c1 e (hideFrom vs 0 (shareAll sh s.1)) ds s.2 with _ | ⟨out, t⟩
      · exact propext ⟨fun ⟨_, _, e, _⟩ => (nomatch e), fun ⟨_, _, e, _⟩ => (nomatch e)⟩
      · rw [w_L]
        show wE (if out.length ≤ 100000 then some (Out.ok (Res.f (D.lst out)), (shareAll sh s.1, t)) else none) Q = _
        rw [w_dsp, w_E]
    | ex c fs => exact w_E
theorem w_l2Q {sh vs vs1 : List Nat} {it1 : IF T} {g g1 : GF} {c1 e : EF T} {Q : Out → Sg T → Prop} {ds : List D} {s : Sg T} : l2Q sh vs g it1 vs1 g1 c1 e Q (.ok ds) s = wL (lc2L g it1 vs1 g1 c1 e (hideFrom vs 0 (shareAll sh s.1)) ds s.2) fun out t => out.length ≤ 100000 ∧ Q (.ok (.f (.lst out))) (shareAll sh s.1, t) := (rfl)
def itQ (Q : List D → List Sl → T → Prop) : OutI → Sg T → Prop
  | .ok ds, s => Q ds s.1 s.2
  | .ex _ _, _ => False
theorem w_itQ {Q : List D → List Sl → T → Prop} {ds : List D} {s : Sg T} : itQ Q (.ok ds) s = Q ds s.1 s.2 := (rfl)
/-! ### sets -/
def lrD : D → Option (D × Bool)
  | .int n => if n ≤ LEN ∧ small n = true then some (.lst (rngL 0 n), true) else none
  | _ => none
def trD : D → Option (D × Bool)
  | .int n => if n ≤ LEN ∧ small n = true then some (.tup (rngL 0 n), false) else none
  | _ => none
theorem q_lrng1 {f : EF T} {s : Sg T} : lrng1F f s = unF lrD f s := by
  unfold lrng1F unF
  congr 1
  funext r
  congr 1
  funext τ
  rcases peek τ (hold r) with _ | d
  · rfl
  · cases d <;> rfl
theorem q_trng1 {f : EF T} {s : Sg T} : trng1F f s = unF trD f s := by
  unfold trng1F unF
  congr 1
  funext r
  congr 1
  funext τ
  rcases peek τ (hold r) with _ | d
  · rfl
  · cases d <;> rfl
theorem v_lr {n : Int} (h1 : n ≤ 100000) (h2 : -100000 ≤ n) : lrD (.int n) = some (.lst (rngL 0 n), true) := if_pos ⟨h1, small_of (by omega)⟩
end
def fzA := And.intro (@q_lrng1) <| And.intro (@q_trng1) <| And.intro (@q_fld) <| And.intro (@q_setFld) <| And.intro (@q_sfK) <| And.intro (@q_sfG) <| And.intro (@q_sfO) <| And.intro (@q_raise) <| And.intro (@q_raK) <| And.intro (@q_raO) <| And.intro (@q_raise0) <| And.intro (@q_try) <| And.intro (@q_tyO_nx) <| And.intro (@q_tyO_rt) <| And.intro (@q_tyO_ex) <| And.intro (@q_tyM_t) <| And.intro (@q_tyM_f) <| And.intro (@q_tyS_nx) <| And.intro (@q_tyS_rt) <| And.intro (@noX_nil) <| And.intro (@noX_no) <| And.intro (@noX_v) <| And.intro (@noX_o) <| And.intro (@q_tryAs) <| And.intro (@q_taO_nx) <| And.intro (@q_taO_rt) <| And.intro (@q_taO_ex) <| And.intro (@q_taM_t) <| And.intro (@q_taM_f) <| And.intro (@q_taB) <| And.intro (@q_unX_nx) <| And.intro (@q_unX_d) <| And.intro (@q_unX_f) <| And.intro (@q_unB) <| And.intro (@q_exf) <| And.intro (@q_exS) <| And.intro (@q_exO) <| And.intro (@q_exi) <| And.intro (@q_eiS) <| And.intro (@q_lk1) (@q_lc2)
def fzW := And.intro (@w_tyO) <| And.intro (@w_tyQ_nx) <| And.intro (@w_tyQ_rt) <| And.intro (@w_tyQ_ex) <| And.intro (@w_tyS) <| And.intro (@w_tySQ_nx) <| And.intro (@w_tySQ_rt) <| And.intro (@w_taO) <| And.intro (@w_taQ_nx) <| And.intro (@w_taQ_rt) <| And.intro (@w_taQ_ex) <| And.intro (@w_unX) <| And.intro (@w_unQ_nx) <| And.intro (@w_unQ_d) <| And.intro (@w_unQ_f) <| And.intro (@w_l2O) <| And.intro (@w_l2Q) (@w_itQ)
end FD

/-! F39: isinstance of a handled exception. -/
namespace FD
open PySem PySem.Spec PyProof.Rows L2
section
variable {Z : Wd} {C : Fx Z} {X : Cx} {a : Addr} {oe : Obj} {cls : Value} {d : Option Addr} {pn : List (Addr × Obj)}
end
end FD

set_option maxHeartbeats 2000000
/-! F40: a lambda of one parameter, made and called; sorted(range(..), key=lambda ..). -/
namespace FD
open PySem PySem.Spec PyProof.Rows L2 LamX
/-! ### the lambda is made -/
section
variable {X : Cx} {pins : List (Addr × Obj)} {σ : L2.St} {H : Hp} {s : Shared}
end
/-! ### the lambda is called -/
section
variable {X : Cx} {pins : List (Addr × Obj)} {σ : L2.St} {H : Hp} {s : Shared}
end
end FD

set_option maxHeartbeats 2000000
/-! F41: sorted(range(..), key=lambda ..), by the machine. -/
namespace FD
open PySem PySem.Spec PyProof.Rows L2 LamX
/-! ### a stable order by keys -/
def insK (y : Int × Int) : List (Int × Int) → List (Int × Int)
  | [] => [y]
  | x :: r => if y.1 < x.1 then y :: x :: r else x :: insK y r
def sortK (l : List (Int × Int)) : List (Int × Int) := l.foldl (fun acc y => insK y acc) []
/-! ### the end of a sort by keys -/
section
variable {prog : Program} {w : World} {A : Around} {E : Value → Shared → Prop} {s : Shared}
end
/-! ### the heap while it sorts -/
section
variable {X : Cx} {pins : List (Addr × Obj)} {σ : L2.St} {H : Hp} {s : Shared}
end
end FD

set_option maxHeartbeats 2000000
/-! F42: sorted(range(..), key=lambda ..) by data; worlds that keep a table of code objects. -/
namespace FD
open PySem PySem.Spec PyProof.Rows L2 LamX
section
variable {Z : Wd} {C : Fx Z} {X : Cx} {ow : Nat → Option Addr} {τ : List Sl} {t : Z.T} {σ : L2.St} {H H1 : Hp} {P : Addr} {q : Str}
end
end FD

set_option maxHeartbeats 2000000
/-! F43: a world and a table of code objects beside it. -/
namespace FD
open PySem PySem.Spec PyProof.Rows L2 LamX
section
variable {Z Z' : Wd} {O : Addr → Prop} {H : Hp}
end
end FD

/-! F19: the end of a law. -/
namespace FD
open PySem PySem.Spec PyProof.Rows L2
/-- as FnOk, where it is called with no guard around -/
def FnG (P : Program) (w : World) (K : PySem.W.Frag) (mg : Str → Option Value) (base : Heap) (CX : CXT) (k : Nat) (f : Addr) (fd : FuncData) (ps : List Str) (sp : Sp) : Prop :=
  ∀ (B : Around) (outer : List Env) (s : Shared) (H : Hp) (args : Args) (us : List Value) (vs : List V) (Q : VK) (E : XK), B.guards = some [] → Room k B → Env0 P w K mg base B outer s H → BindsTo s fd args (ps.zip us) → Vals vs us → sp vs H Q E →
    codeAny (model P w) B (.call (.ref f) args) (CR CX outer P w H s Q E) s
theorem fun_okG {CX : CXT} {P : Program} {w : World} {K : PySem.W.Frag} {mg : Str → Option Value} {base : Heap} {x qual : Str} {st : Stmt} {f : Addr} {fd : FuncData} {N ps : List Str} {k : Nat} {sp : Sp} (F : Fun K x qual st f fd) (S : FnScope N ps (defScope st))
    (len : ∀ vs H Q E, sp vs H Q E → vs.length = ps.length)
    (body : ∀ (cdv : Value) (B : Around) (outer : List Env) (s : Shared) (H : Hp) (vs : List V) (Q : VK) (E : XK), B.guards = some [] → Room k (B.deeper (envOfC qual (defScope st) s.heap.objs.size f cdv)) → sp vs H Q E →
      ∃ t, PSs (cxOf CX P w K mg base N qual (defScope st) f cdv B outer s H E) (defBody st) t ∧ t { nx := fun _ H' => Q .non H', rt := Q } (start N vs) H) : FnG P w K mg base CX (k + 1) f fd ps sp := by
  intro B outer s H args us vs Q E gd hr env hb rel hsp
  obtain ⟨oc, od, kV, doc, pm, an, cdv, ct, osl, rfl, look, isCode⟩ := F.ex
  have many := len _ _ _ _ hsp
  have inK : K.In s.heap := env.mod.kin.keeps fun b o e => (env.bs b o e).1
  have noLim : s.heap.NoLimit := env.mod.nolimit.keeps fun b o e => (env.bs b o e).1
  have kinds : ∀ y ∈ ps.zip us, (defScope st).names.lookup y.1 = some .local ∨ ((defScope st).names.lookup y.1 = some .cell ∧ ((cellsFrom (s.heap.objs.size + 1) (defScope st).names []).lookup y.1).isSome = true) := by
    rintro ⟨n, v⟩ hy
    rcases S.par n (List.of_mem_zip hy).1 with q | q
    · exact .inl q
    · exact .inr ⟨q, PySem.W.cellsFrom_some _ _ _ (.inl q)⟩
  refine codeAny_call_function hr.depth (inK _ _ look) rfl S.co S.gen rfl (PySem.W.codeRec_of inK isCode) (hb _ _ _ _ (wpAny_newFunctionEnv_cells S.kind kinds ?_))
  intro env' he s1 ic
  subst he
  obtain ⟨t, derived, asked⟩ := body cdv B outer s H vs Q E gd (hr.deeper _) hsp
  have I : Inv (cxOf CX P w K mg base N qual (defScope st) f cdv B outer s H E) [] (start N vs) H s1 := inv_start S hr.hd env many rel ic
  refine ⟨noLim.keeps ic.toInCall.keep, codeAny_func (wpAny_mono (derived.run [] s1 (start N vs) H _ I asked) (fun fl s' end_ => ?_) fun e s' z => z)⟩
  cases fl with
  | ret u =>
    obtain ⟨v, σ', H', J, rv, q⟩ := end_
    exact ⟨v, H', J.os, J.bare, J.base, J.hok, rv, q⟩
  | next =>
    obtain ⟨σ', H', J, q⟩ := end_
    exact ⟨V.non, H', J.os, J.bare, J.base, J.hok, (rfl : RelV V.non Value.none), q⟩
  | brk => exact (end_.choose_spec.choose_spec.2 : False).elim
  | cont => exact (end_.choose_spec.choose_spec.2 : False).elim
/-- the law's own call, behind the top -/
theorem callG {P : Program} {w : World} {K : PySem.W.Frag} {mg mb : Str → Option Value} {CX : CXT} {k : Nat} {fa sc : Addr} {fd : FuncData} {x : Str} {sp : Sp} {s₁ : Shared} {us : List Value} {ns : List Int}
    (inK : K.In s₁.heap) (nsG : s₁.heap.Ns mainGlobals mg) (nsB : s₁.heap.Ns builtinsNs mb) (isB : ∀ x : Str, x ≠ "__name__" → mb x = bootBuiltins x) (noLim : s₁.heap.NoLimit) (noGen : s₁.gens = #[])
    (hsc : s₁.heap.get? sc = some { cls := .type "list", data := .seq us.toArray }) (hints : IntsAre us ns) (short : ns.length ≤ sizeLine) (room : Room k callerA)
    (F : ∀ base : Heap, K.In base → base.Ns mainGlobals mg → FnG P w K mg base CX k fa fd [x] sp) (hbind : ∀ (s : Shared) (u : Value), BindsTo s fd ⟨[u], []⟩ [(x, u)])
    (hsp : ∀ H : Hp, SqL K H sc (ns.map V.int) → sp [.ref sc] H (fun v _ => v = .bl true) fun _ _ _ => False) (noE : ∀ H e s', CX [] H s₁ (fun _ _ _ => False) e s' → False) :
    codeAny (model P w) callerA (.call (.ref fa) ⟨[.ref sc], []⟩) (fun r s' => r = .ok (.ret (.bool true)) ∧ OldK s₁.heap s'.heap ∧ s'.os = s₁.os ∧ AllBare s'.gens) s₁ := by
  have rel := vals_ints hints
  have same := hints.length
  -- H tracks at most the script, locked
  have main : ∀ H : Hp, (∀ b, H b = none ∨ (b = sc ∧ K.lookup sc = none ∧ ∃ o xs, H b = some (.frz o (.lst xs)))) → SqL K H sc (ns.map V.int) → HOk P w H s₁.heap →
      codeAny (model P w) callerA (.call (.ref fa) ⟨[.ref sc], []⟩) (fun r s' => r = .ok (.ret (.bool true)) ∧ OldK s₁.heap s'.heap ∧ s'.os = s₁.os ∧ AllBare s'.gens) s₁ := by
    intro H only held ok
    have low : ∀ {b : Addr} {o : Obj}, s₁.heap.get? b = some o → H b = none → (hidT s₁.heap H).get? b = some o := fun e n => hidT_get e n
    have notDict : ∀ {b : Addr} {o : Obj} {es : Array DictEntry} {ep : Nat}, s₁.heap.get? b = some o → o.data = .dict es ep → H b = none := by
      intro b o es ep e d
      rcases only b with z | ⟨z, _, _⟩
      · exact z
      · subst z
        rw [hsc] at e
        cases e
        cases (show Data.seq us.toArray _ = Data.dict es ep from d)
    have nsLow : ∀ {b : Addr} {m : Str → Option Value}, s₁.heap.Ns b m → (hidT s₁.heap H).Ns b m := by
      rintro b m ⟨o, es, ep, e, d, r⟩
      exact ⟨o, es, ep, low e (notDict e d), d, r⟩
    have inLow : K.In (hidT s₁.heap H) := by
      intro b o e
      refine low (inK b o e) ?_
      rcases only b with z | ⟨z, n, _⟩
      · exact z
      · subst z
        rw [n] at e
        cases e
    have md : Mod K mg (hidT s₁.heap H) := ⟨inLow, nsLow nsG, ⟨mb, nsLow nsB, isB⟩, let ⟨mc, q1, q2⟩ := noLim; ⟨mc, nsLow q1, q2⟩⟩
    have env : Env0 P w K mg (hidT s₁.heap H) callerA [] s₁ H := ⟨rfl, md, fun b o e => of_hidT e, Nat.le_of_eq (hidT_size _ _), trivial, fun b hb => absurd (show b ∈ ([] : List Addr) from hb) (by simp), ok, .of_eq noGen⟩
    refine codeAny_mono (F _ inLow (nsLow nsG) callerA [] s₁ H ⟨[.ref sc], []⟩ [.ref sc] [.ref sc] _ _ rfl room env (hbind s₁ (.ref sc)) (.cons rfl .nil) (hsp H held)) ?_
    intro r s' h
    cases r with
    | error e => exact (noE H e s' h).elim
    | ok fl =>
      cases fl with
      | next => exact (h : False).elim
      | brk => exact (h : False).elim
      | cont => exact (h : False).elim
      | ret u =>
        obtain ⟨v, H', os, bare, un, ok', ru, q⟩ := h
        obtain rfl : v = .bl true := q
        obtain rfl : u = Value.bool true := ru
        refine ⟨rfl, OldK.of_keep fun b o e => ?_, os, bare⟩
        rcases only b with z | ⟨_, _, ob, xs, z⟩
        · exact un.keep b o e z (fun y => absurd (show b ∈ ([] : List Addr) from y) (by simp)) (by simp)
        · obtain ⟨e1, _⟩ := ok b _ z
          obtain ⟨e2, _⟩ := ok' b _ (un.frzs b ob _ z)
          rw [e] at e1
          cases e1
          exact e2
  cases hk : K.lookup sc with
  | some o =>
    have e := inK sc o hk
    rw [hsc] at e
    cases e
    exact main (fun _ => none) (fun _ => .inl rfl) (.inr ⟨_, us.toArray, _, hk, rfl, rfl, rfl, by rw [List.size_toArray, same]; exact short, by simpa using rel⟩) (fun b u z => by cases (show (none : Option HO) = some u from z))
  | none =>
    refine main (fun b => if b = sc then some (.frz { cls := .type "list", data := .seq us.toArray } (.lst (ns.map V.int))) else none) (fun b => ?_) (.inl (.inr ⟨{ cls := .type "list", data := .seq us.toArray }, if_pos rfl⟩)) (fun b u z => ?_)
    · by_cases hb : b = sc
      · exact .inr ⟨hb, hk, _, _, if_pos hb⟩
      · exact .inl (if_neg hb)
    · by_cases hb : b = sc
      · cases (if_pos hb).symm.trans z
        subst hb
        exact ⟨hsc, by rw [List.length_map]; exact short, us, _, rel, hsc⟩
      · cases (if_neg hb).symm.trans z
/-- the goal that k_head leaves -/
theorem walkG {l : PySem.W.OpenLaw} {n k : Nat} {q : Program} {loose : List Str} {XP : (Str → Option Value) → Heap → Prop} {YP : World → Heap → Prop} {d : DefRec} {K : Params → PySem.W.Frag} {CX : World → CXT} {sp : World → Sp} {x : Str}
    (most : l.most = some n) (fits : n ≤ sizeLine) (plain : d.params.defaults = []) (room : Room k callerA) (inK : ∀ (w : World) (h : Heap), YP w h → (K w.params).In h)
    (F : ∀ (w : World) (mg : Str → Option Value) (fa : Addr) (h : Heap), (K w.params).In h → h.Ns mainGlobals mg → mg d.name = some (.ref fa) → ∃ fd : FuncData, (∀ (s : Shared) (u : Value), BindsTo s fd ⟨[u], []⟩ [(x, u)]) ∧
      ∀ base : Heap, (K w.params).In base → base.Ns mainGlobals mg → FnG l.prog w (K w.params) mg base (CX w) k fa fd [x] (sp w))
    (hsp : ∀ (w : World) (H : Hp) (a : Addr) (ns : List Int), ns.length ≤ n → SqL (K w.params) H a (ns.map V.int) → sp w [.ref a] H (fun v _ => v = .bl true) fun _ _ _ => False)
    (noE : ∀ (w : World) (H : Hp) (s : Shared) (e : Value) (s' : Shared), CX w [] H s (fun _ _ _ => False) e s' → False) : PySem.W.WalkO q loose XP YP l.row.toRowW d [] (fun f vs => PySem.call f vs) := by
  refine Att.attach_call most plain ?_
  intro w s₀ s₁ mg mb fa o pm cd doc a vs ns G Y ho hd hcd hmg hobj hints len gens
  have KX := inK w _ Y
  obtain ⟨fd, hb, hF⟩ := F w mg fa _ KX G.T.g hmg
  exact callG KX G.T.g G.T.b G.T.builtins G.T.nolimit gens hobj hints (Nat.le_trans len fits) room hF hb (fun H hS => hsp w H a ns len hS) fun H e s' => noE w H s₁ e s'
end FD

namespace FD
open PySem PySem.Spec PyProof.Rows L2
theorem noCX {P : Program} {w : World} (H : Hp) (s : Shared) (e : Value) (s' : Shared) (h : L2N.CX P w [] H s (fun _ _ _ => False) e s') : False := by
  obtain ⟨_, _, _, _, _, _, _, _, _, _, _, _, z⟩ := h
  exact z
def sp_law (K : PySem.W.Frag) : Sp := fun vs H Q _ => ∃ (a : Addr) (ns : List Int), vs = [.ref a] ∧ SqL K H a (ns.map V.int) ∧ ns.length ≤ 63 ∧ ∀ H', Q (.bl true) H'
def sp_q_deck (K : PySem.W.Frag) : Sp := fun vs H Q _ => ∃ (a : Addr) (ns : List Int), vs = [.ref a] ∧ SqL K H a (ns.map V.int) ∧ ns.length ≤ 63 ∧
  ∀ (H' : Hp) (D : Dk) (big cells : List Int), Same H H' → H D.a = none → H D.l1 = none → H D.l2 = none → D.At H' 0 big cells → Q (.ref D.a) H'
theorem same_new {H : Hp} {p : Addr} {o : HO} (h : H p = none) : Same H (upd H p o) := fun b x e => upd_keep h e
theorem same_set {H H' : Hp} {p : Addr} {o : HO} (k : Same H H') (h : H p = none) : Same H (upd H' p o) := fun b x e => by
  rw [upd_ne (ne_of_none e h)]
  exact k b x e
def absI (n : Int) : Int := if n < 0 then -n else n
def bigs (ns : List Int) : List Int := ns.filter fun n => decide ((1000000000000000000 : Int) ≤ n)
theorem bigs_take {ns : List Int} {i : Nat} {n : Int} (h : ns[i]? = some n) : bigs (ns.take (i + 1)) = bigs (ns.take i) ++ (if (1000000000000000000 : Int) ≤ n then [n] else []) := by
  unfold bigs
  rw [List.take_add_one, h, List.filter_append]
  by_cases c : (1000000000000000000 : Int) ≤ n
  · simp [c]
  · simp [c]
theorem small1000 {n : Nat} (h : n ≤ 1000) : n < sizeLine := by rw [sizeLine_eq]; omega
theorem le_line {n : Nat} (h : n ≤ 1000) : n ≤ sizeLine := Nat.le_of_lt (small1000 h)
/-- the first state behind the deck -/
def lawS (n : Nat) : List Sl := .no :: .v (.hnd 0) :: List.replicate (n - 2) .no
/-- behind the deck: the rest of the law, by data -/
theorem law_rest {D : Dk} {ca : Str → Addr} {fv : Nat → V} {f : SF DS} {n : Nat} {H : Hp} {σ : L2.St} {big cells : List Int} {Q : VK} {C : Fx (Zdk D ca fv)}
    (hC : C = ⟨(Zdk D ca fv).hid, H, dead, noEv⟩) (hn : 2 ≤ n) (hl : σ.length = n) (h1 : σ[1]? = some (some (.ref D.a))) (at_ : D.At H 0 big cells) (q : ∀ H', Q (.bl true) H')
    (pure_ : ∀ t : DS, t.c = 0 → ∃ s', f (lawS n, t) = some (.rt (.d (.bl true)), s')) : tS C f { nx := fun _ H' => Q .non H', rt := Q } σ H := by
  subst hC
  obtain ⟨s', e⟩ := pure_ ⟨0, big, cells⟩ rfl
  refine ⟨fun _ => none, lawS n, ⟨0, big, cells⟩, ?_, rfl, _, s', e, fun ow' σ' v H' R r x => ?_⟩
  · refine ⟨at_, fun a h => h, fun a h => (Zdk D ca fv).trk ⟨0, big, cells⟩ (fun _ => False) H a at_ h, fun _ _ e _ => e, ?_, fun i s h => ?_, fun _ _ _ z => (nomatch z), fun _ _ z => (nomatch z)⟩
    · unfold lawS
      simp only [List.length_cons, List.length_replicate]
      omega
    · match i, h with
      | 0, h => cases h; trivial
      | 1, h => cases h; exact ⟨_, h1, .hnd (Z := Zdk D ca fv) 0⟩
      | i + 2, h =>
        unfold lawS at h
        simp only [List.getElem?_cons_succ] at h
        rw [List.getElem?_replicate] at h
        split at h
        · cases h; trivial
        · cases h
  · rw [(Shows.den r.2).bl]
    exact q H'
theorem ex_S {X : Cx} {f : SF DS} {st : List Stmt} {ca0 : Str → Addr} {fv : Nat → V} (h : ∀ (Dx : Dk) (C : Fx (Zdk Dx ca0 fv)), C.W = dead → PSs X st (tS C f)) :
    PSs X st (fun E σ H => ∃ (Dx : Dk) (C : Fx (Zdk Dx ca0 fv)), C.W = dead ∧ tS C f E σ H) := ⟨fun pins s σ H E I ⟨Dx, C, w, q⟩ => (h Dx C w).run pins s σ H E I q⟩
end FD

set_option maxHeartbeats 2000000
/-! F44: the end of a law whose program makes lambdas in one def. -/
namespace FD
open PySem PySem.Spec PyProof.Rows L2 LamX
end FD

set_option maxHeartbeats 2000000
/-! F45: bodies of defs that make lambdas: the code object is known. -/
namespace FD
open PySem PySem.Spec PyProof.Rows L2 LamX
section
variable {P : Program} {w : World} {K : PySem.W.Frag} {mg : Str → Option Value} {base : Heap} {Z : Wd}
end
end FD

set_option maxHeartbeats 2000000
/-! F46: a star in a display. -/
namespace FD
open PySem PySem.Spec PyProof.Rows L2 LamX StX
section
variable {Z : Wd} {C : Fx Z} {X : Cx} {ow ow' : Nat → Option Addr} {τ : List Sl} {t : Z.T} {σ : L2.St} {H H' : Hp} {f : EF Z.T} {g : AF Z.T}
end
end FD

/-! F47: what the top leaves of one def. -/
namespace FD
open PySem PySem.Spec PyProof.Rows L2
structure Df (K : PySem.W.Frag) (mg : Str → Option Value) (x : Str) (st : Stmt) (ps : List Str) where
  a : Addr
  d : FuncData
  F : Fun K x x st a d
  b : Binds K d ps []
  g : mg x = some (.ref a)
end FD

/-! F48: running a star in a display. -/
namespace FD
open PySem PySem.Spec PyProof.Rows L2
section
variable {T : Type}
end
end FD

/-! F49: sorted of pairs of ints. -/
namespace FD
open PySem PySem.Spec PyProof.Rows L2
section
variable {α : Type} {lt : α → α → Bool}
end
section
variable {Z : Wd} {X : Cx} {O : Addr → Prop} {H : Hp}
end
end FD

/-! F50: list(range(a, b)). -/
namespace FD
open PySem PySem.Spec PyProof.Rows L2
section
variable {Z : Wd} {C : Fx Z} {X : Cx}
end
end FD

set_option maxHeartbeats 4000000
/-! F51: the different ints of a list, in order. -/
namespace FD
open PySem PySem.Spec PyProof.Rows L2
abbrev set0 (w : World) : Obj := { cls := .type "set", dict := none, data := .set #[] 0 (.fresh 0 0 (!w.params.followText "set-order")) }
section
variable {P : Program} {w : World} {A : Around} {E : Value → Shared → Prop} {s : Shared}
end
section
variable {Z : Wd} {C : Fx Z} {X : Cx}
end
end FD

set_option maxHeartbeats 4000000
/-! F52: what two sets of ints have in common. -/
namespace FD
open PySem PySem.Spec PyProof.Rows L2
section
variable {P : Program} {w : World} {A : Around} {E : Value → Shared → Prop} {s : Shared}
end
end FD

set_option maxHeartbeats 4000000
/-! F53: how many ints two tuples have in common. -/
namespace FD
open PySem PySem.Spec PyProof.Rows L2
section
variable {Z : Wd} {C : Fx Z} {X : Cx}
end
/-! ### tuple(range(a, b)) -/
section
variable {Z : Wd} {C : Fx Z} {X : Cx}
end
end FD

set_option maxHeartbeats 4000000
/-! F54: comparisons with three signs; repr of any datum. -/
namespace FD
open PySem PySem.Spec PyProof.Rows L2
section
variable {Z : Wd} {C : Fx Z} {X : Cx} {σ : L2.St}
end
/-! ### repr of any datum -/
def reprXD : List D → Option (D × Bool)
  | [.non] => some (.str (Str.ofString "None"), false)
  | [.bl b] => some (.str (if b then "True" else "False"), false)
  | [.int i] => if i.natAbs.log2 < 1920 then some (.str (toString i), false) else none
  | [.str x] => if (reprText x).length ≤ sizeLine then some (.str (reprText x), false) else none
  | [.dct []] => some (.str (dictText []), false)
  | ds => reprD ds
theorem cD_reprX {Z : Wd} {X : Cx} (hG : X.A.guards = some []) (hu : X.A.units + 64 < cLine) : CallD Z X (.builtin "repr") reprXD := by
  intro pins s σ H xs us Q I r h
  obtain ⟨O, ds, z, hO, sh, e, q⟩ := h
  unfold reprXD at e
  split at e
  · cases e
    cases sh with
    | cons sx sr =>
      cases sr
      obtain rfl := sx.non
      obtain ⟨u, rfl, ru⟩ := vals1 r
      cases (show u = Value.none from ru)
      exact PySem.P.repr_of_none ⟨.str _, H, I.tok _, ⟨_, rfl⟩, q _ _ (.same (.str _))⟩
  · cases e
    rename_i b
    cases sh with
    | cons sx sr =>
      cases sr
      obtain rfl := sx.bl
      obtain ⟨u, rfl, ru⟩ := vals1 r
      cases (show u = Value.bool b from ru)
      exact PySem.P.repr_of_bool ⟨.str _, H, I.tok _, ⟨_, rfl⟩, q _ _ (.same (.str _))⟩
  · rename_i i
    split at e
    · rename_i hi
      cases e
      cases sh with
      | cons sx sr =>
        cases sr
        obtain rfl := sx.int
        obtain ⟨u, rfl, t, rfl⟩ := vals1 r
        exact PySem.P.repr_of_int hi ⟨.str _, H, I.tok _, ⟨_, rfl⟩, q _ _ (.same (.str _))⟩
    · cases e
  · rename_i x
    split at e
    · rename_i hx
      cases e
      cases sh with
      | cons sx sr =>
        cases sr
        obtain rfl := sx.str
        obtain ⟨u, rfl, t, rfl⟩ := vals1 r
        exact PySem.P.repr_of_str ⟨.str _, H, I.tok _, ⟨_, rfl⟩, q _ _ (.same (.str _))⟩ hx
    · cases e
  · cases e
    cases sh with
    | cons sx sr =>
      cases sr
      obtain ⟨a, xs, rfl, h1, c1⟩ := sx.dct
      cases c1
      obtain ⟨u, rfl, ru⟩ := vals1 r
      cases (show u = Value.ref a from ru)
      obtain ⟨ns, o, n, ho, hc, hd⟩ := dict0 I h1
      refine call_repr_slot (by omega) ⟨_, ho, hc⟩ PySem.F.slot_dict_repr ?_
      exact call_dict_reprK (A := X.A.in1) (as := []) (d := 0) ho hc hd ns (by simp) (ReprEntriesK.of_two [] [] [] .nil .nil) hG (fun b _ => Clear.nil b) (by show X.A.units + 1 + _ < cLine; omega) (fun _ _ z => z)
        (fun h' u' tk hk => ⟨_, _, rfl, .str _, H, I.kept hk, ⟨_, rfl⟩, q _ _ (.same (.str _))⟩)
  · exact cD_repr hG hu pins s σ H xs us Q I r ⟨O, _, z, hO, sh, e, q⟩
end FD

set_option maxHeartbeats 4000000
/-! F55: functions as values. -/
namespace FD
open PySem PySem.Spec PyProof.Rows L2
section
variable {Z : Wd} {C : Fx Z} {X : Cx}
end
/-! ### run by simp -/
end FD

set_option maxHeartbeats 4000000
/-! F56: x[k] op= e on an own list of ints. -/
namespace FD
open PySem PySem.Spec PyProof.Rows L2
section
variable {Z : Wd} {C : Fx Z} {X : Cx}
end
section
variable {T : Type}
end
end FD

set_option maxHeartbeats 4000000
/-! F57: count and index of a list of truth values; isinstance of a handled exception and a class of Python's own. -/
namespace FD
open PySem PySem.Spec PyProof.Rows L2
section
variable {X : Cx}
end
section
variable {Z : Wd} {C : Fx Z} {X : Cx} {O : Addr → Prop} {H : Hp}
end
/-! ### isinstance(n, ValueError) -/
section
variable {Z : Wd} {C : Fx Z} {X : Cx} {a : Addr} {oe : Obj} {cls : Value} {d : Option Addr} {pn : List (Addr × Obj)}
end
end FD

set_option maxHeartbeats 4000000
/-! F58: texts: their methods, parts, signs. -/
namespace FD
open PySem PySem.Spec PyProof.Rows L2
/-! ### what they say -/
section
variable {Z : Wd} {C : Fx Z} {X : Cx}
/-! ### methods -/
/-! ### signs -/
/-! ### parts -/
/-! ### the signs walked -/
end
end FD

set_option maxHeartbeats 4000000
/-! F59: a, *rest = a list; a text's partition; f-strings. -/
namespace FD
open PySem PySem.Spec PyProof.Rows L2
/-! ### a walk that has begun -/
section
variable {prog : Program} {w : World} {A : Around} {I : Addr} {fp wr : List Addr} {G : Array GenState → Array GenState → Prop} {n : Nat} {P : Nat → Value → Prop} {St : Nat → Shared → Prop}
end
section
variable {prog : Program} {w : World} {A : Around} {E : Value → Shared → Prop} {s : Shared}
end
/-! ### a, *rest = a list -/
section
variable {X : Cx} {pos : Pos}
end
section
variable {Z : Wd} {C : Fx Z} {X : Cx}
end
/-! ### a text's partition -/
section
variable {Z : Wd} {C : Fx Z} {X : Cx}
/-! ### f-strings -/
end
section
variable {Z : Wd} {C : Fx Z} {X : Cx}
/-! ### run by simp -/
variable {T : Type}
end
/-! ### x.pop() of an own list -/
theorem DenA.init {Z : Wd} {O : Addr → Prop} {H : Hp} : ∀ {vs : List V} {ds : List D}, DenA Z O H vs ds → DenA Z O H vs.dropLast ds.dropLast
  | _, _, .nil => .nil
  | _, _, .cons _ .nil => .nil
  | _, _, .cons r (.cons r2 t) => .cons r (DenA.init (.cons r2 t))
section
variable {Z : Wd} {C : Fx Z} {X : Cx}
end
/-! ### starred displays of any expression -/
section
variable {T : Type}
end
/-! ### three names at once, run by simp -/
section
variable {T : Type}
end
end FD

/-! F60: own dicts with ints as keys: d[k], d.get(k, n), d[k] = e, sorted(d, reverse=b). -/
namespace FD
open PySem PySem.Spec PyProof.Rows L2
def valD : List (Key × D) → Key → Option D
  | [], _ => none
  | (j, d) :: r, k => if j = k then some d else valD r k
def hasD (kvs : List (Key × D)) (k : Key) : Bool := kvs.any fun kv => decide (kv.1 = k)
def putKD (kvs : List (Key × D)) (k : Key) (d : D) : List (Key × D) :=
  if hasD kvs k = true then kvs.map (fun kv => if kv.1 = k then (kv.1, d) else kv) else kvs ++ [(k, d)]
section
variable {Z : Wd} {O : Addr → Prop} {H : Hp}
theorem DenK.val {k : Key} : ∀ {vs : List (Key × V)} {ds : List (Key × D)}, DenK Z O H vs ds → (∀ d, valD ds k = some d → ∃ v, valV vs k = some v ∧ Den Z O H v d) ∧ (valD ds k = none → valV vs k = none)
  | _, _, .nil => ⟨(fun d e => nomatch e), fun _ => rfl⟩
  | (j, v) :: vs, (_, d) :: ds, .cons h r => by
    have ih := DenK.val (k := k) r
    unfold valD
    by_cases q : j = k
    · rw [if_pos q, valV_pos (p := (j, v)) q]
      exact ⟨fun d e => by cases e; exact ⟨v, rfl, h⟩, fun e => nomatch e⟩
    · rw [if_neg q, valV_neg (p := (j, v)) q]
      exact ih
theorem DenK.keys : ∀ {vs : List (Key × V)} {ds : List (Key × D)}, DenK Z O H vs ds → vs.map (·.1) = ds.map (·.1)
  | _, _, .nil => rfl
  | _, _, .cons _ r => by rw [List.map_cons, List.map_cons, DenK.keys r]
theorem DenK.len {vs : List (Key × V)} {ds : List (Key × D)} (h : DenK Z O H vs ds) : vs.length = ds.length := by
  have := congrArg List.length h.keys
  simpa using this
theorem DenK.has {k : Key} : ∀ {vs : List (Key × V)} {ds : List (Key × D)}, DenK Z O H vs ds → (vs.any fun kv => decide (kv.1 = k)) = hasD ds k
  | _, _, .nil => rfl
  | _, _, .cons _ r => by
    unfold hasD
    rw [List.any_cons, List.any_cons, DenK.has r]
    rfl
theorem DenK.app : ∀ {vs ws : List (Key × V)} {ds es : List (Key × D)}, DenK Z O H vs ds → DenK Z O H ws es → DenK Z O H (vs ++ ws) (ds ++ es)
  | _, _, _, _, .nil, k => k
  | _, _, _, _, .cons h r, k => .cons h (DenK.app r k)
theorem DenK.repl {k : Key} {v : V} {d : D} (h0 : Den Z O H v d) : ∀ {vs : List (Key × V)} {ds : List (Key × D)}, DenK Z O H vs ds → DenK Z O H (vs.map (fun kv => if kv.1 = k then (kv.1, v) else kv)) (ds.map (fun kv => if kv.1 = k then (kv.1, d) else kv))
  | _, _, .nil => .nil
  | (j, u) :: vs, (_, e) :: ds, .cons h r => by
    rw [List.map_cons, List.map_cons]
    by_cases q : j = k
    · simp only [q, if_true]
      exact .cons h0 (DenK.repl h0 r)
    · simp only [q, if_false]
      exact .cons h (DenK.repl h0 r)
theorem DenK.put {k : Key} {v : V} {d : D} {vs : List (Key × V)} {ds : List (Key × D)} (h : DenK Z O H vs ds) (h0 : Den Z O H v d) : DenK Z O H (putK vs k v) (putKD ds k d) := by
  unfold putK putKD
  rw [h.has]
  split
  · exact h.repl h0
  · exact h.app (.cons h0 .nil)
end
/-! ### d[k] -/
section
variable {Z : Wd} {C : Fx Z} {X : Cx} {a b : Expr} {fa fb : EF Z.T} {pos : Pos}
/-! ### d.get(k, n) -/
def dctAt (τ : List Sl) (i : Nat) : Option (List (Key × D)) := match τ[i]? with
  | some (.o (.dct kvs)) => some kvs
  | some (.v (.dct kvs)) => some kvs
  | _ => none
theorem Rel.dct {ow : Nat → Option Addr} {τ : List Sl} {t : Z.T} {σ : L2.St} {H : Hp} {i : Nat} {kvs : List (Key × D)} (R : C.Rel ow τ t σ H) (e : dctAt τ i = some kvs) : ∃ a xs, σ[i]? = some (some (.ref a)) ∧ H a = some (.dK xs) ∧ DenK Z (C.Hid ow) H xs kvs := by
  unfold dctAt at e
  split at e
  · rename_i p
    cases e
    obtain ⟨a, o, e1, e2, e3, c⟩ := R.slot i _ p
    cases c with
    | dct c => exact ⟨a, _, e2, e3, c⟩
  · rename_i p
    cases e
    obtain ⟨v, e1, d⟩ := R.slot i _ p
    obtain ⟨a, xs, rfl, h1, c⟩ := (Shows.den d).dct
    exact ⟨a, xs, e1, h1, c⟩
  · cases e
/-! ### d[k] = e -/
end
/-! ### sorted(d, reverse=b) -/
section
variable {Z : Wd} {C : Fx Z} {X : Cx}
end
/-! ### run by simp -/
section
variable {T : Type}
end
end FD

/-! F61: calls that lend an own object: a flat datum handed back can hold none. -/
namespace FD
open PySem PySem.Spec PyProof.Rows L2
mutual
def flatD : D → Bool
  | .tup ds => flatA ds
  | .lst _ => false
  | .dct _ => false
  | .obj _ _ => false
  | .fn _ => false
  | .hnd _ => false
  | .non => true
  | .bl _ => true
  | .int _ => true
  | .str _ => true
  | .ty _ => true
def flatA : List D → Bool
  | [] => true
  | d :: ds => flatD d && flatA ds
end
section
variable {Z : Wd} {O O' : Addr → Prop} {H : Hp}
theorem den_flat' (h : ∀ a, O' a → ∃ o, H a = some o ∧ ∀ xs, o ≠ .tup xs) (n : Nat) : (∀ v d, sizeOf d < n → Den Z O H v d → flatD d = true → Den Z O' H v d) ∧ (∀ vs ds, sizeOf ds < n → DenA Z O H vs ds → flatA ds = true → DenA Z O' H vs ds) := by
  induction n with
  | zero => exact ⟨fun _ _ h => by omega, fun _ _ h => by omega⟩
  | succ n ih =>
    constructor
    · intro v d hn hd f
      cases hd with
      | non => exact .non
      | bl b => exact .bl b
      | int i => exact .int i
      | str x => exact .str x
      | ty x => exact .ty x
      | hnd n => simp [flatD] at f
      | fn n => simp [flatD] at f
      | ref e no c =>
        cases c with
        | tup c =>
          refine .ref e (fun z => ?_) (.tup (ih.2 _ _ (by simp at hn; omega) c (by simpa [flatD] using f)))
          obtain ⟨o, e1, n1⟩ := h _ z
          rw [e] at e1
          cases e1
          exact n1 _ rfl
        | lst c => simp [flatD] at f
        | dct c => simp [flatD] at f
        | obj c => simp [flatD] at f
    · intro vs ds hn hd f
      cases hd with
      | nil => exact .nil
      | cons d r =>
        simp only [flatA, Bool.and_eq_true] at f
        simp at hn
        exact .cons (ih.1 _ _ (by omega) d f.1) (ih.2 _ _ (by omega) r f.2)
theorem Den.flat (h : ∀ a, O' a → ∃ o, H a = some o ∧ ∀ xs, o ≠ .tup xs) {v : V} {d : D} (hd : Den Z O H v d) (f : flatD d = true) : Den Z O' H v d := (den_flat' h (sizeOf d + 1)).1 v d (by omega) hd f
end
section
variable {Z : Wd} {C : Fx Z} {X : Cx} {ow : Nat → Option Addr} {τ : List Sl} {t t' : Z.T} {σ : L2.St} {H H' : Hp}
end
/-! ### run by simp -/
section
variable {T : Type}
end
end FD

/-! F62: tuples of integers in order. -/
namespace FD
open PySem PySem.Spec PyProof.Rows L2
section
variable {Z : Wd} {X : Cx}
end
end FD

/-! F63: defs that are called with no guard around: repr inside them. -/
namespace FD
open PySem PySem.Spec PyProof.Rows L2
section
variable {X : Cx} {CX : CXT} {k : Nat} {f : Addr} {fd : FuncData} {ps : List Str} {sp : Sp} {E : L2.St → XK} {x : Str} {p pos : Pos} {e : Expr} {es : List Expr} {t : TA}
end
section
variable {Z : Wd} {C : Fx Z} {X : Cx}
end
section
variable {Z : Wd} {P : Program} {w : World} {K : PySem.W.Frag} {mg : Str → Option Value} {base : Heap}
end
end FD

/-! F64: the truth of a list. -/
namespace FD
open PySem PySem.Spec PyProof.Rows L2
section
variable {T : Type}
end
section
variable {Z : Wd} {C : Fx Z} {X : Cx} {f : EF Z.T} {e : Expr}
variable {a b c d : Expr} {pos : Pos} {ta tb tc td : TE} {σ : L2.St}
end
end FD

/-! F65: an exception that a suite handles, handed to a def as the last argument. -/
namespace FD
open PySem PySem.Spec PyProof.Rows L2
theorem _root_.L2H.RoomH.units {k : Nat} {A : Around} (r : L2H.RoomH k A) : A.units + 64 < cLine := by
  have := r.un
  omega
section
variable {Z : Wd} {C : Fx Z} {X : Cx} {a : Addr} {oe : Obj} {cls : Value} {d : Option Addr} {pn : List (Addr × Obj)}
end
/-! ### the def -/
section
variable {Z : Wd} {P : Program} {w : World} {K : PySem.W.Frag} {mg : Str → Option Value} {base : Heap}
end
/-! ### its calls -/
section
variable {Z : Wd} {C : Fx Z} {X : Cx} {a : Addr} {oe : Obj} {d : Option Addr} {pn : List (Addr × Obj)} {k n : Nat} {f : Addr} {fd : FuncData} {ps : List Str} {F : Str → List (Str × D) → FF Z.T} {cl : Str} {fs : List (Str × D)} {E : L2.St → XK} {x : Str} {p pos : Pos} {e : Expr} {es : List Expr} {t : TA}
end
end FD

/-! F66: running a def that takes an exception. -/
namespace FD
open PySem PySem.Spec PyProof.Rows L2
section
variable {T : Type}
end
end FD

/-! F67: zip of a tuple and a list. -/
namespace FD
open PySem PySem.Spec PyProof.Rows L2
section
variable {Z : Wd} {C : Fx Z} {X : Cx} {e e2 : Expr} {p pos : Pos} {H : Hp}
end
end FD

/-! F68: reversed(range(n)); calls without arguments. -/
namespace FD
open PySem PySem.Spec PyProof.Rows L2
section
variable {Z : Wd} {C : Fx Z} {X : Cx} {tg e : Expr} {H : Hp}
end
end FD

/-! F69: a > b of tuples of integers. -/
namespace FD
open PySem PySem.Spec PyProof.Rows L2
section
variable {Z : Wd} {X : Cx}
end
end FD

set_option maxHeartbeats 4000000
/-! F70: a method that changes nothing, of a list that may be shared: index. -/
namespace FD
open PySem PySem.Spec PyProof.Rows L2
section
variable {T : Type}
end
section
variable {Z : Wd} {C : Fx Z} {X : Cx} {ow : Nat → Option Addr} {τ : List Sl} {t : Z.T} {σ : L2.St} {H : Hp}
end
end FD

/-! F71: a def with a star parameter only: all arguments as one tuple. -/
namespace FD
open PySem PySem.Spec PyProof.Rows L2
/-- the state with one more tuple -/
abbrev tupS (s : Shared) (us : List Value) : Shared := { s with heap := s.heap.push { cls := .type "tuple", data := .seq us.toArray } }
/-- how the arguments of such a def are bound -/
def BindsV (fd : FuncData) (p : Str) : Prop := ∀ (us : List Value) (s : Shared) (M : Model) (A : Around) (E : Value → Shared → Prop) (Q : List (Str × Value) → Shared → Prop), us.length ≤ sizeLine → Q [(p, .ref s.heap.objs.size)] (tupS s us) → wpAny M A (bindArgs fd ⟨us, []⟩) Q E s
theorem BindsV.of {fd : FuncData} {p : Str} (h : ∀ us : List Value, bindArgs fd ⟨us, []⟩ = (newTuple us >>= fun v => pure [(p, v)])) : BindsV fd p := fun us s M A E Q hl q => by
  rw [h]
  exact wpAny_bind (wpAny_newTuple (wpAny_pure q) hl)
section
variable {Z : Wd} {P : Program} {w : World} {K : PySem.W.Frag} {mg : Str → Option Value} {base : Heap}
end
/-! ### calls -/
section
variable {Z : Wd} {C : Fx Z} {X : Cx} {k : Nat} {f : Addr} {fd : FuncData} {F : FF Z.T} {x : Str} {p pos : Pos} {e : Expr} {es : List Expr} {σ : L2.St} {H : Hp}
end
end FD

/-! F72: a list extended by a tuple. -/
namespace FD
open PySem PySem.Spec PyProof.Rows L2
section
variable {X : Cx}
end
section
variable {Z : Wd} {C : Fx Z} {X : Cx}
end
end FD

/-! F73: an except clause of two classes. -/
namespace FD
open PySem PySem.Spec PyProof.Rows L2
section
variable {X : Cx} {x y : Str} {c1 c2 : Value} {body suite : List Stmt} {b₀ : Stmt} {p1 p2 tp pos pos' : Pos} {kt : Nat} {tb : WX → TS} {ts : Addr → Value → Option Addr → TS} {Wo : WX}
end
section
variable {Z : Wd} {C : Fx Z} {X : Cx} {ow : Nat → Option Addr} {τ : List Sl} {t : Z.T} {σ : L2.St} {H H' : Hp} {E : Ends}
end
end FD

/-! F74: what is walked while an exception is handled: the ends of walks. -/
namespace FD
open PySem PySem.Spec PyProof.Rows L2
section
variable {P : Program} {w : World} {A : Around} {E : Value → Shared → Prop} {s : Shared} {x1 it : Addr}
/-! ### walks -/
end

/-! ### turns -/
section
variable {P : Program} {w : World} {K : PySem.W.Frag} {tg : Expr}
end
section
variable {Z : Wd} {C : Fx Z} {X : Cx} {S : List Nat} {tg e : Expr}
end
end FD

/-! F75: a list comprehension while an exception is handled. -/
namespace FD
open PySem PySem.Spec PyProof.Rows L2
section
variable {X : Cx} {pins : List (Addr × Obj)} {σ : L2.St} {H : Hp} {s : Shared}
end
section
variable {Z : Wd} {C : Fx Z} {X : Cx} {S : List Nat}
/-! ### targets -/
end
end FD

/-! F76: sum, set, sorted(set) and len(set) while an exception is handled. -/
namespace FD
open PySem PySem.Spec PyProof.Rows L2
section
variable {P : Program} {w : World} {A : Around} {E : Value → Shared → Prop} {s : Shared} {x1 : Addr}
/-! ### set(..) -/
/-! ### the members of a set -/
variable {a it I : Addr} {es : Array (Int × Value)} {ep : Nat} {t : SetTable} {i sl : Nat}
/-- a set's members walked: out, in some order -/
def SetItH (P : Program) (w : World) (A : Around) (x1 : Addr) (s : Shared) (a : Addr) (es : Array (Int × Value)) (s₂ : Shared) (I : Addr) : Prop :=
  ∃ (fp : List Addr) (St : Nat → Heap → Prop) (out : List Value) (Pv : Nat → Value → Prop), (∀ b o, s.heap.get? b = some o → s₂.heap.get? b = some o) ∧ s₂.gens = s.gens ∧ s₂.os = s.os ∧ s.heap.objs.size ≤ I ∧ (∀ b ∈ fp, b = a ∨ b = x1 ∨ s.heap.objs.size ≤ b) ∧ out.Perm (es.toList.map (·.2)) ∧
    PySem.Walks P w A I fp [I] out.length Pv St ∧ (∀ j v, Pv j v → out[j]? = some v) ∧ St 0 s₂.heap
theorem SetItH.of {s₂ : Shared} {fp : List Addr} {St : Nat → Heap → Prop} {out : List Value} {Pv : Nat → Value → Prop} {n : Nat} (W : PySem.Walks P w A I fp [I] n Pv St) (hn : out.length = n) (k : ∀ b o, s.heap.get? b = some o → s₂.heap.get? b = some o) (g : s₂.gens = s.gens) (ho : s₂.os = s.os) (hI : s.heap.objs.size ≤ I)
    (hp : out.Perm (es.toList.map (·.2))) (st : St 0 s₂.heap) (hfp : ∀ b ∈ fp, b = a ∨ b = x1 ∨ s.heap.objs.size ≤ b) (hPv : ∀ j v, Pv j v → out[j]? = some v) : SetItH P w A x1 s a es s₂ I := by
  subst hn
  exact ⟨fp, St, out, Pv, k, g, ho, hI, hfp, hp, W, hPv, st⟩
end
end FD

/-! F77: sum, sorted(set(..)), len(set(..)) as functions of data, while an exception is handled. -/
namespace FD
open PySem PySem.Spec PyProof.Rows L2
section
variable {P : Program} {w : World} {A : Around} {E : Value → Shared → Prop} {s : Shared} {x1 a : Addr} {es : Array (Int × Value)} {ep : Nat} {t : SetTable}
end
section
variable {Z : Wd} {C : Fx Z} {X : Cx} {O : Addr → Prop} {H : Hp}
end
end FD

/-! F78: defs that are called while an exception is handled. -/
namespace FD
open PySem PySem.Spec PyProof.Rows L2
section
variable {Z : Wd} {C : Fx Z} {X : Cx} {tg e : Expr}
end
section
variable {P : Program} {w : World} {K : PySem.W.Frag} {mg : Str → Option Value} {base : Heap} {Z : Wd}
end
end FD

namespace FD
open PySem PySem.Spec PyProof.Rows L2
def topS (i : Nat) : Stmt := PySem.Challenge.pw_groupcaps_k35_whole_distances.main.body.getD i (.Pass ⟨0, 0, 0, 0⟩)
abbrev s_distance : Stmt := topS 1
abbrev n_distance : List Str := ["one", "other", "more", "less", "start", "end"]
abbrev p_distance : List Str := ["one", "other"]
theorem sc_distance : FnScope n_distance p_distance (defScope s_distance) := ⟨rfl, rfl, rfl, by decide +kernel, rfl, by decide +kernel, by decide +kernel⟩
abbrev s_q_deck : Stmt := topS 3
abbrev n_q_deck : List Str := ["_law_script", "_law_cells", "_law_cell"]
abbrev p_q_deck : List Str := ["_law_script"]
theorem sc_q_deck : FnScope n_q_deck p_q_deck (defScope s_q_deck) := ⟨rfl, rfl, rfl, by decide +kernel, rfl, by decide +kernel, by decide +kernel⟩
abbrev s_q_next : Stmt := topS 4
abbrev n_q_next : List Str := ["_law_deck_here", "_law_many", "_law_rest", "_law_cell", "_law_pick"]
abbrev p_q_next : List Str := ["_law_deck_here", "_law_many"]
theorem sc_q_next : FnScope n_q_next p_q_next (defScope s_q_next) := ⟨rfl, rfl, rfl, by decide +kernel, rfl, by decide +kernel, by decide +kernel⟩
abbrev s_q_one : Stmt := topS 5
abbrev n_q_one : List Str := ["_law_deck_here", "_law_some"]
abbrev p_q_one : List Str := ["_law_deck_here", "_law_some"]
theorem sc_q_one : FnScope n_q_one p_q_one (defScope s_q_one) := ⟨rfl, rfl, rfl, by decide +kernel, rfl, by decide +kernel, by decide +kernel⟩
abbrev s_q_same : Stmt := topS 6
abbrev n_q_same : List Str := ["_law_found", "_law_due", "_law_k"]
abbrev p_q_same : List Str := ["_law_found", "_law_due"]
theorem sc_q_same : FnScope n_q_same p_q_same (defScope s_q_same) := ⟨rfl, rfl, rfl, by decide +kernel, rfl, by decide +kernel, by decide +kernel⟩
abbrev s_q_changed : Stmt := topS 7
abbrev n_q_changed : List Str := ["_law_plan", "_law_less", "_law_more", "_law_found"]
abbrev p_q_changed : List Str := ["_law_plan", "_law_less", "_law_more"]
theorem sc_q_changed : FnScope n_q_changed p_q_changed (defScope s_q_changed) := ⟨rfl, rfl, rfl, by decide +kernel, rfl, by decide +kernel, by decide +kernel⟩
abbrev s_q_distance : Stmt := topS 8
abbrev n_q_distance : List Str := ["_law_one_here", "_law_other", "_law_up", "_law_before", "_law_after"]
abbrev p_q_distance : List Str := ["_law_one_here", "_law_other"]
theorem sc_q_distance : FnScope n_q_distance p_q_distance (defScope s_q_distance) := ⟨rfl, rfl, rfl, by decide +kernel, rfl, by decide +kernel, by decide +kernel⟩
abbrev s_q_units : Stmt := topS 9
abbrev n_q_units : List Str := ["_law_deck_here", "_law_count", "_law_great", "_law_k"]
abbrev p_q_units : List Str := ["_law_deck_here", "_law_count", "_law_great"]
theorem sc_q_units : FnScope n_q_units p_q_units (defScope s_q_units) := ⟨rfl, rfl, rfl, by decide +kernel, rfl, by decide +kernel, by decide +kernel⟩
abbrev s_q_near : Stmt := topS 10
abbrev n_q_near : List Str := ["_law_plan", "_law_names", "_law_found", "_law_less", "_law_one_here", "_law_more"]
abbrev p_q_near : List Str := ["_law_plan"]
theorem sc_q_near : FnScope n_q_near p_q_near (defScope s_q_near) := ⟨rfl, rfl, rfl, by decide +kernel, rfl, by decide +kernel, by decide +kernel⟩
abbrev s_q_three_right : Stmt := topS 11
abbrev n_q_three_right : List Str := ["_law_one_here", "_law_other", "_law_third", "_law_sides"]
abbrev p_q_three_right : List Str := ["_law_one_here", "_law_other", "_law_third"]
theorem sc_q_three_right : FnScope n_q_three_right p_q_three_right (defScope s_q_three_right) := ⟨rfl, rfl, rfl, by decide +kernel, rfl, by decide +kernel, by decide +kernel⟩
abbrev s_q_reached_right : Stmt := topS 12
abbrev n_q_reached_right : List Str := ["_law_one_here", "_law_other", "_law_reached", "_law_steps", "_law_further", "_law_plan", "_law_near_here"]
abbrev p_q_reached_right : List Str := ["_law_one_here", "_law_other"]
theorem sc_q_reached_right : FnScope n_q_reached_right p_q_reached_right (defScope s_q_reached_right) := ⟨rfl, rfl, rfl, by decide +kernel, rfl, by decide +kernel, by decide +kernel⟩
abbrev s_law : Stmt := topS 13
abbrev n_law : List Str := ["_law_script", "_law_deck_here", "_law_turn", "_law_count", "_law_great", "_law_one_here", "_law_other", "_law_third", "_law_near_here", "_law_kept", "_law_k"]
abbrev p_law : List Str := ["_law_script"]
theorem sc_law : FnScope n_law p_law (defScope s_law) := ⟨rfl, rfl, rfl, by decide +kernel, rfl, by decide +kernel, by decide +kernel⟩
set_option maxHeartbeats 4000000 in
/-- what the top leaves -/
structure Txt (K : PySem.W.Frag) (mg : Str → Option Value) where
  f_distance : Df K mg "distance" s_distance p_distance
  f_q_deck : Df K mg "_law_deck" s_q_deck p_q_deck
  f_q_next : Df K mg "_law_next" s_q_next p_q_next
  f_q_one : Df K mg "_law_one" s_q_one p_q_one
  f_q_same : Df K mg "_law_same" s_q_same p_q_same
  f_q_changed : Df K mg "_law_changed" s_q_changed p_q_changed
  f_q_distance : Df K mg "_law_distance" s_q_distance p_q_distance
  f_q_units : Df K mg "_law_units" s_q_units p_q_units
  f_q_near : Df K mg "_law_near" s_q_near p_q_near
  f_q_three_right : Df K mg "_law_three_right" s_q_three_right p_q_three_right
  f_q_reached_right : Df K mg "_law_reached_right" s_q_reached_right p_q_reached_right
  f_law : Df K mg "law" s_law p_law
  m_sum : mg "sum" = none
  m_max : mg "max" = none
  m_isinstance : mg "isinstance" = none
  m_dict : mg "dict" = none
  m_str : mg "str" = none
  m_list : mg "list" = none
  m_tuple : mg "tuple" = none
  m_range : mg "range" = none
  m_abs : mg "abs" = none
  m_int : mg "int" = none
  m_repr : mg "repr" = none
  m_len : mg "len" = none
  m_bool : mg "bool" = none
  m_sorted : mg "sorted" = none
  m_zip : mg "zip" = none
  m_min : mg "min" = none
  m_set : mg "set" = none
section
variable {K : PySem.W.Frag} {mg : Str → Option Value}
abbrev Txt.a_distance (T : Txt K mg) : Addr := T.f_distance.a
abbrev Txt.d_distance (T : Txt K mg) : FuncData := T.f_distance.d
theorem Txt.F_distance (T : Txt K mg) : Fun K "distance" "distance" s_distance T.a_distance T.d_distance := T.f_distance.F
theorem Txt.b_distance (T : Txt K mg) : Binds K T.d_distance p_distance [] := T.f_distance.b
theorem Txt.g_distance (T : Txt K mg) : mg "distance" = some (.ref T.a_distance) := T.f_distance.g
abbrev Txt.a_q_deck (T : Txt K mg) : Addr := T.f_q_deck.a
abbrev Txt.d_q_deck (T : Txt K mg) : FuncData := T.f_q_deck.d
theorem Txt.F_q_deck (T : Txt K mg) : Fun K "_law_deck" "_law_deck" s_q_deck T.a_q_deck T.d_q_deck := T.f_q_deck.F
theorem Txt.b_q_deck (T : Txt K mg) : Binds K T.d_q_deck p_q_deck [] := T.f_q_deck.b
theorem Txt.g_q_deck (T : Txt K mg) : mg "_law_deck" = some (.ref T.a_q_deck) := T.f_q_deck.g
abbrev Txt.a_q_next (T : Txt K mg) : Addr := T.f_q_next.a
abbrev Txt.d_q_next (T : Txt K mg) : FuncData := T.f_q_next.d
theorem Txt.F_q_next (T : Txt K mg) : Fun K "_law_next" "_law_next" s_q_next T.a_q_next T.d_q_next := T.f_q_next.F
theorem Txt.b_q_next (T : Txt K mg) : Binds K T.d_q_next p_q_next [] := T.f_q_next.b
theorem Txt.g_q_next (T : Txt K mg) : mg "_law_next" = some (.ref T.a_q_next) := T.f_q_next.g
abbrev Txt.a_q_one (T : Txt K mg) : Addr := T.f_q_one.a
abbrev Txt.d_q_one (T : Txt K mg) : FuncData := T.f_q_one.d
theorem Txt.F_q_one (T : Txt K mg) : Fun K "_law_one" "_law_one" s_q_one T.a_q_one T.d_q_one := T.f_q_one.F
theorem Txt.b_q_one (T : Txt K mg) : Binds K T.d_q_one p_q_one [] := T.f_q_one.b
theorem Txt.g_q_one (T : Txt K mg) : mg "_law_one" = some (.ref T.a_q_one) := T.f_q_one.g
abbrev Txt.a_q_same (T : Txt K mg) : Addr := T.f_q_same.a
abbrev Txt.d_q_same (T : Txt K mg) : FuncData := T.f_q_same.d
theorem Txt.F_q_same (T : Txt K mg) : Fun K "_law_same" "_law_same" s_q_same T.a_q_same T.d_q_same := T.f_q_same.F
theorem Txt.b_q_same (T : Txt K mg) : Binds K T.d_q_same p_q_same [] := T.f_q_same.b
theorem Txt.g_q_same (T : Txt K mg) : mg "_law_same" = some (.ref T.a_q_same) := T.f_q_same.g
abbrev Txt.a_q_changed (T : Txt K mg) : Addr := T.f_q_changed.a
abbrev Txt.d_q_changed (T : Txt K mg) : FuncData := T.f_q_changed.d
theorem Txt.F_q_changed (T : Txt K mg) : Fun K "_law_changed" "_law_changed" s_q_changed T.a_q_changed T.d_q_changed := T.f_q_changed.F
theorem Txt.b_q_changed (T : Txt K mg) : Binds K T.d_q_changed p_q_changed [] := T.f_q_changed.b
theorem Txt.g_q_changed (T : Txt K mg) : mg "_law_changed" = some (.ref T.a_q_changed) := T.f_q_changed.g
abbrev Txt.a_q_distance (T : Txt K mg) : Addr := T.f_q_distance.a
abbrev Txt.d_q_distance (T : Txt K mg) : FuncData := T.f_q_distance.d
theorem Txt.F_q_distance (T : Txt K mg) : Fun K "_law_distance" "_law_distance" s_q_distance T.a_q_distance T.d_q_distance := T.f_q_distance.F
theorem Txt.b_q_distance (T : Txt K mg) : Binds K T.d_q_distance p_q_distance [] := T.f_q_distance.b
theorem Txt.g_q_distance (T : Txt K mg) : mg "_law_distance" = some (.ref T.a_q_distance) := T.f_q_distance.g
abbrev Txt.a_q_units (T : Txt K mg) : Addr := T.f_q_units.a
abbrev Txt.d_q_units (T : Txt K mg) : FuncData := T.f_q_units.d
theorem Txt.F_q_units (T : Txt K mg) : Fun K "_law_units" "_law_units" s_q_units T.a_q_units T.d_q_units := T.f_q_units.F
theorem Txt.b_q_units (T : Txt K mg) : Binds K T.d_q_units p_q_units [] := T.f_q_units.b
theorem Txt.g_q_units (T : Txt K mg) : mg "_law_units" = some (.ref T.a_q_units) := T.f_q_units.g
abbrev Txt.a_q_near (T : Txt K mg) : Addr := T.f_q_near.a
abbrev Txt.d_q_near (T : Txt K mg) : FuncData := T.f_q_near.d
theorem Txt.F_q_near (T : Txt K mg) : Fun K "_law_near" "_law_near" s_q_near T.a_q_near T.d_q_near := T.f_q_near.F
theorem Txt.b_q_near (T : Txt K mg) : Binds K T.d_q_near p_q_near [] := T.f_q_near.b
theorem Txt.g_q_near (T : Txt K mg) : mg "_law_near" = some (.ref T.a_q_near) := T.f_q_near.g
abbrev Txt.a_q_three_right (T : Txt K mg) : Addr := T.f_q_three_right.a
abbrev Txt.d_q_three_right (T : Txt K mg) : FuncData := T.f_q_three_right.d
theorem Txt.F_q_three_right (T : Txt K mg) : Fun K "_law_three_right" "_law_three_right" s_q_three_right T.a_q_three_right T.d_q_three_right := T.f_q_three_right.F
theorem Txt.b_q_three_right (T : Txt K mg) : Binds K T.d_q_three_right p_q_three_right [] := T.f_q_three_right.b
theorem Txt.g_q_three_right (T : Txt K mg) : mg "_law_three_right" = some (.ref T.a_q_three_right) := T.f_q_three_right.g
abbrev Txt.a_q_reached_right (T : Txt K mg) : Addr := T.f_q_reached_right.a
abbrev Txt.d_q_reached_right (T : Txt K mg) : FuncData := T.f_q_reached_right.d
theorem Txt.F_q_reached_right (T : Txt K mg) : Fun K "_law_reached_right" "_law_reached_right" s_q_reached_right T.a_q_reached_right T.d_q_reached_right := T.f_q_reached_right.F
theorem Txt.b_q_reached_right (T : Txt K mg) : Binds K T.d_q_reached_right p_q_reached_right [] := T.f_q_reached_right.b
theorem Txt.g_q_reached_right (T : Txt K mg) : mg "_law_reached_right" = some (.ref T.a_q_reached_right) := T.f_q_reached_right.g
abbrev Txt.a_law (T : Txt K mg) : Addr := T.f_law.a
abbrev Txt.d_law (T : Txt K mg) : FuncData := T.f_law.d
theorem Txt.F_law (T : Txt K mg) : Fun K "law" "law" s_law T.a_law T.d_law := T.f_law.F
end
/-- the classes' addresses by name -/
structure CaOk {K : PySem.W.Frag} {mg : Str → Option Value} (T : Txt K mg) (ca : Str → Addr) : Prop where
  one : True
end FD

namespace FD
open PySem PySem.Spec PyProof.Rows L2
section
variable {P : Program} {w : World} {K : PySem.W.Frag} {mg : Str → Option Value} {base : Heap} {D : Dk} {ca : Str → Addr} {fv : Nat → V}
theorem G_q_next (T : Txt K mg) : FnOk P w K mg base (L2N.CX P w) 1 T.a_q_next T.d_q_next p_q_next (spF (Zdk D ca fv) 2 FF_q_next) := by
  refine okN T.F_q_next sc_q_next (fun vs H Q E h => h.1) (fun cdv A outer s H vs Q E hr h => ?_)
  · obtain ⟨hvl, O, ds0, ds, o, t', hO1, hO2, dAt, dn, e, q0⟩ := h
    obtain ⟨m, n, rfl, hm, hm2, hc, rfl, rfl⟩ : ∃ m n, ds = [.hnd n, .int m] ∧ 0 < m ∧ m < 2 ^ 64 ∧ ds0.c < 2 ^ 40 ∧ o = .ok (.int (ds0.draw m)) false ∧ t' = ds0.step m := by
      unfold FF_q_next at e
      split at e
      · split at e
        · rename_i hh
          cases e
          exact ⟨_, _, rfl, hh.1, hh.2.1, hh.2.2, rfl, rfl⟩
        · cases e
      · cases e
    have hvs : vs = [.ref D.a, .int m] := by
      cases dn with
      | cons d1 r => cases r with
        | cons d2 r =>
          cases r
          rw [den_hnd d1, den_int d2]
    subst hvs
    obtain ⟨c0, big0, cells⟩ := ds0
    have dAt : D.At H c0 big0 cells := dAt
    have hc : c0 < 2 ^ 40 := hc
    have q : ∀ H' r c' big' , r = DS.draw m ⟨c0, big0, cells⟩ → DS.step m ⟨c0, big0, cells⟩ = ⟨c', big', cells⟩ → Keep D H H' → D.At H' c' big' cells → Q (.int r) H' := fun H' r c' big' h1 h2 kp d => by
      rw [h1]
      refine q0 _ H' ?_ (fun b o e n => kp b o e (fun z => n (.inl z)) fun z => n (.inr (.inl z))) (.int _)
      rw [h2]
      exact d
    refine ⟨_, PSs.nox (pss_cons (ps_while PassesOwn.never (pt_cmpR (op_neD hr.units) (pe_ix ix_list (pv 0) pe_int (fun _ _ => rfl)) (pe_lst pa_nil) (nomark _))
(pss_cons (ps_set (i := 2) sc_q_next.nd rfl (.inl rfl) (pe_ix ix_list (pe_ix ix_list (pv 0) pe_int (fun _ _ => rfl)) pe_int (fun _ _ => rfl)))
(pss_cons (ps_if (pt_cmpR op_gt (pv 2) pe_int (nomark _))
(pss_cons (ps_asg (pe_op op_fdivW (pv 2) (pv 1)) (pg_sub (pe_ix ix_list (pv 0) pe_int (fun _ _ => rfl)) pe_int set_list))
(pss_one (ps_ret (pe_op op_mod (pv 2) (pv 1)))))
pss_nil)
(pss_one (ps_expr (pe_bm PySem.F.plainAttrs_list PySem.F.slot_list_pop PySem.F.type_list_pop mt_popAt (pe_ix ix_list (pv 0) pe_int (fun _ _ => rfl)) (pa_cons pe_int pa_nil)))))))
(pss_cons (ps_asg (pe_op op_add (pe_ix ix_list (pv 0) pe_int (fun _ _ => rfl)) pe_int) (pg_sub (pv 0) pe_int set_list))
(pss_cons (ps_set (i := 3) sc_q_next.nd rfl (.inl rfl) (pe_op op_mod (pe_ix ix_list (pe_ix ix_list (pv 0) pe_int (fun _ _ => rfl)) (pe_op op_mod (pe_ix ix_list (pv 0) pe_int (fun _ _ => rfl)) (pe_callB (call_len_seq) (by rfl) T.m_len PySem.boot_len (pa_cons (pe_ix ix_list (pv 0) pe_int (fun _ _ => rfl)) pa_nil))) (fun _ _ => rfl)) pe_int))
(pss_cons (ps_set (i := 4) sc_q_next.nd rfl (.inl rfl) (pe_op op_add (pe_op op_add (pe_op op_mul (pv 3) (pe_op op_add pe_int (pe_op op_mul pe_int (pe_ix ix_list (pv 0) pe_int (fun _ _ => rfl))))) (pe_op op_mul (pe_op op_mul pe_int (pe_ix ix_list (pv 0) pe_int (fun _ _ => rfl))) (pe_ix ix_list (pv 0) pe_int (fun _ _ => rfl)))) pe_int))
(pss_cons (ps_set (i := 4) sc_q_next.nd rfl (.inl rfl) (pe_op op_mod (pv 4) pe_int))
(pss_one (ps_ret (pe_op op_mod (pe_op op_fdiv (pe_op op_mod (pe_op op_mul (pv 4) (pv 4)) pe_int) pe_int) (pv 1))))))))), ?_⟩
    refine while_by (fun σ H' => ∃ y2 big, σ = [some (.ref D.a), some (.int m), y2, none, none] ∧ D.At H' c0 big cells ∧ Keep D H H' ∧ drawB big m = drawB big0 m)
      (fun σ H' => match H' D.l1 with | some (.lst xs) => xs.length | _ => 0) ⟨_, big0, rfl, dAt, Keep.rfl', rfl⟩ (fun σ H1 hP => ?_) (fun σ H Q Q' f h => ?_)
    · obtain ⟨y2, big, rfl, d, kp, hbig⟩ := hP
      refine ⟨_, rfl, D.a, _, 0, .ref D.l1, rfl, rfl, .inl (.inl d.top), at0, Nat.zero_le _, fun p np => ?_⟩
      have d1 : D.At (upd H1 p (.lst [])) c0 big cells := d.new np
      have kp1 : Keep D H (upd H1 p (.lst [])) := kp.trans (Keep.new np)
      refine ⟨.list (big.map PyData.int), .list [], .lst (.inl (.inl d1.one)) (dp_ints big), .lst (.inl (.inl upd_same)) .nil, shaped_ints big, shaped_ints [], _, rfl, ?_⟩
      rw [eqv_nil]
      cases big with
      | nil =>
        refine iteF ?_
        -- the mixed draw
        refine ⟨_, rfl, D.a, _, 2, .int c0, rfl, rfl, .inl (.inl d1.top), at2, _, _, rfl, rfl, _, rfl, D.a, _, 2, 2, rfl, rfl, d1.top, ix2 (by simp), ?_⟩
        generalize hH2 : upd (upd H1 p (.lst [])) D.a _ = H2
        have d2 : D.At H2 (c0 + 1) [] cells := by
          subst hH2
          exact ⟨by rw [upd_same]; rfl, by rw [upd_ne d.ne1.symm]; exact d1.one, by rw [upd_ne d.ne2.symm]; exact d1.two, d.pos, d.ne1, d.ne2, d.ne3⟩
        have kp2 : Keep D H H2 := by
          subst hH2
          intro b x e n1 n2
          rw [upd_ne n1]
          exact kp1 b x e n1 n2
        have top : SqL K H2 D.a [.ref D.l1, .ref D.l2, .int (c0 + 1 : Nat)] := .inl (.inl d2.top)
        have two : SqL K H2 D.l2 (cells.map V.int) := .inl (.inl d2.two)
        have hl : 0 < (cells.length : Int) := by have := d.pos; omega
        have hj0 : 0 ≤ ((c0 + 1 : Nat) : Int) % (cells.length : Int) := Int.emod_nonneg _ (by omega)
        have hj1 : ((c0 + 1 : Nat) : Int) % (cells.length : Int) < cells.length := Int.emod_lt_of_pos _ hl
        obtain ⟨j, hj⟩ : ∃ j : Nat, ((c0 + 1 : Nat) : Int) % (cells.length : Int) = j := ⟨_, (Int.toNat_of_nonneg hj0).symm⟩
        have hjl : j < cells.length := by omega
        have gj : (cells.map V.int)[j]? = some (.int cells[j]) := by
          rw [List.getElem?_map, List.getElem?_eq_getElem hjl]
          rfl
        refine ⟨_, rfl, D.a, _, 1, .ref D.l2, rfl, rfl, top, at1, _, rfl, D.a, _, 2, .int (c0 + 1 : Nat), rfl, rfl, top, at2, _, rfl, D.a, _, 1, .ref D.l2, rfl, rfl, top, at1, D.l2, _, rfl, .inl two, _, _, rfl, rfl, by rw [List.length_map]; exact hl, ?_⟩
        refine ⟨D.l2, _, _, .int cells[j], rfl, rfl, two, by rw [List.length_map, hj]; exact atI_nat gj, _, _, rfl, rfl, (by show (0 : Int) < 2147483647; decide), ?_⟩
        have hx0 : 0 ≤ cells[j] % 2147483647 := Int.emod_nonneg _ (by decide)
        have hx1 : cells[j] % 2147483647 < 2147483647 := Int.emod_lt_of_pos _ (by decide)
        generalize hx : cells[j] % 2147483647 = x at hx0 hx1
        refine ⟨_, rfl, _, rfl, D.a, _, 2, .int (c0 + 1 : Nat), rfl, rfl, top, at2, _, _, rfl, rfl, .inl ⟨by decide, by decide⟩, _, _, rfl, rfl, _, _, rfl, rfl, .inl ⟨by omega, by omega⟩, ?_⟩
        refine ⟨_, rfl, D.a, _, 2, .int (c0 + 1 : Nat), rfl, rfl, top, at2, _, _, rfl, rfl, .inl ⟨by decide, by decide⟩, _, rfl, D.a, _, 2, .int (c0 + 1 : Nat), rfl, rfl, top, at2, _, _, rfl, rfl, .inl ⟨by omega, by omega⟩, _, _, rfl, rfl, _, _, rfl, rfl, ?_⟩
        refine ⟨_, rfl, _, _, rfl, rfl, (by show (0 : Int) < 2147483629; decide), ?_⟩
        generalize hy : (x * (16807 + 39373 * ((c0 + 1 : Nat) : Int)) + 40692 * ((c0 + 1 : Nat) : Int) * ((c0 + 1 : Nat) : Int) + 97) % (2147483629 : Int) = y
        have hy0 : 0 ≤ y := by rw [← hy]; exact Int.emod_nonneg _ (by decide)
        have hy1 : y < 2147483629 := by rw [← hy]; exact Int.emod_lt_of_pos _ (by decide)
        refine ⟨_, rfl, _, rfl, _, _, rfl, rfl, .inl ⟨by omega, by omega⟩, _, _, rfl, rfl, (by show (0 : Int) < 2147483587; decide), _, _, rfl, rfl, ⟨by decide, by decide⟩, _, rfl, _, _, rfl, rfl, hm, ?_⟩
        have hb : drawB big0 m = none := hbig.symm
        refine q H2 _ (c0 + 1) [] ?_ ?_ kp2 d2
        · unfold DS.draw
          simp only [hb]
          unfold mixed
          rw [hj, Int.toNat_natCast, List.getElem?_eq_getElem hjl, Option.getD_some]
        · unfold DS.step
          simp only [hb]
      | cons b rest =>
        refine iteT ?_
        have top : SqL K (upd H1 p (.lst [])) D.a [.ref D.l1, .ref D.l2, .int c0] := .inl (.inl d1.top)
        have one : SqL K (upd H1 p (.lst [])) D.l1 ((b :: rest).map V.int) := .inl (.inl d1.one)
        refine ⟨_, rfl, D.a, _, 0, .ref D.l1, rfl, rfl, top, at0, D.l1, _, 0, .int b, rfl, rfl, one, at0, ?_⟩
        refine ⟨_, rfl, _, _, rfl, rfl, _, rfl, ite2 (fun e => ?_) (fun e => ?_)⟩
        · refine ⟨_, rfl, _, rfl, _, _, rfl, rfl, wide_div (b := 64) hm (by omega) (by decide) (by decide), ?_⟩
          refine ⟨_, rfl, D.a, _, 0, .ref D.l1, rfl, rfl, top, at0, D.l1, _, 0, 0, rfl, rfl, d1.one, ix0 (by simp), ?_⟩
          refine ⟨_, rfl, _, rfl, _, _, rfl, rfl, hm, ?_⟩
          have hb : drawB big0 m = some (b % m, (b / m) :: rest) := by
            rw [← hbig]
            unfold drawB
            rw [if_pos (of_decide_eq_true e)]
          refine q _ _ c0 ((b / m) :: rest) ?_ ?_ ?_ ?_
          · unfold DS.draw
            simp only [hb]
          · unfold DS.step
            simp only [hb]
          · intro z x e n1 n2
            rw [upd_ne n2]
            exact kp1 z x e n1 n2
          · exact ⟨by rw [upd_ne d.ne1]; exact d1.top, by rw [upd_same]; rfl, by rw [upd_ne d.ne3]; exact d1.two, d.pos, d.ne1, d.ne2, d.ne3⟩
        · refine ⟨_, rfl, D.a, _, 0, .ref D.l1, rfl, rfl, top, at0, .inl ⟨rfl, _, one⟩, D.l1, _, 0, 0, .int b, rfl, rfl, d1.one, by decide, by decide, seq0 (by simp), rfl, ?_⟩
          refine ⟨⟨_, rest, rfl, ⟨by rw [upd_ne d.ne1]; exact d1.top, by rw [upd_same]; rfl, by rw [upd_ne d.ne3]; exact d1.two, d.pos, d.ne1, d.ne2, d.ne3⟩, ?_, ?_⟩, ?_⟩
          · intro z x e n1 n2
            rw [upd_ne n2]
            exact kp1 z x e n1 n2
          · rw [← hbig]
            conv => rhs; unfold drawB
            rw [if_neg (fun z => e (decide_eq_true z))]
          · have e1 := d.one
            simp only [upd_same, e1]
            simp
    · obtain ⟨v, hv, p, xs, i, z, e1, e2, hs, ha, hl, h⟩ := h
      refine ⟨v, hv, p, xs, i, z, e1, e2, hs, ha, hl, fun p2 n2 => ?_⟩
      obtain ⟨d, e, a1, a2, a3, a4, k, e5, q⟩ := h p2 n2
      exact ⟨d, e, a1, a2, a3, a4, k, e5, f _ _ q⟩
end
end FD

set_option maxHeartbeats 4000000
/-! F79: the different pairs of a long list, in order. -/
namespace FD
open PySem PySem.Spec PyProof.Rows L2
/-- however rows are taken, those with keys of their own are few -/
def FewKeys (ks : List (Addr × List Int)) : Prop := ∀ L : List (Addr × List Int), (∀ p ∈ L, p ∈ ks) → (L.map (·.2)).Nodup → L.length ≤ 62
section
variable {P : Program} {w : World} {A : Around} {E : Value → Shared → Prop} {s : Shared}
theorem update_keys {I S : Addr} {fp wr : List Addr} {G : Array GenState → Array GenState → Prop} {n : Nat} {Pv : Nat → Value → Prop} {St : Nat → Shared → Prop} {R : Result → Shared → Prop} {ks : List (Addr × List Int)} {h0 : Heap}
    (W : WalksS P w A.in1 I fp wr G n Pv St) (nS : S ∉ fp) (len : n = ks.length) (few : FewKeys ks) (val : ∀ i v, Pv i v → ∃ p, ks[i]? = some p ∧ v = .ref p.1)
    (is0 : ∀ p ∈ ks, IsT P w h0 p.2 p.1) (S0 : h0.get? S = none) (w0 : ∀ b ∈ wr, h0.get? b = none) (room : A.in1.units < cLine) :
    ∀ (r i : Nat) (s : Shared), i + r = n → St i s → (∀ b o, h0.get? b = some o → s.heap.get? b = some o) → (∃ L es ep t, SetTR P w s.heap S L es ep t ∧ Got ks i L) →
      (∀ s' L es ep t, Moved (S :: wr) G s s' → SetTR P w s'.heap S L es ep t → Got ks n L → (∀ b o, h0.get? b = some o → s'.heap.get? b = some o) → R (.ok (.ret .none)) s') →
      codeAny (model P w) A (.builtin "set.update.loop" ⟨[.ref S, .ref I], []⟩) R s := by
  have wS : S ∉ wr := fun m => nS (W.sub _ m)
  have up : ∀ b ∈ wr, b ∈ S :: wr := fun b m => List.mem_cons_of_mem _ m
  have moved : ∀ {u u' : Shared}, Moved wr G u u' → (∀ b o, h0.get? b = some o → u.heap.get? b = some o) → ∀ b o, h0.get? b = some o → u'.heap.get? b = some o := fun m k b o e =>
    m.heap b o (fun z => by rw [w0 b z] at e; cases e) (k b o e)
  intro r
  induction r with
  | zero =>
    rintro i s e st k ⟨L, es, ep, t, hS, g⟩ fin
    obtain rfl : i = n := e
    refine codeAny_builtin F.entry_set_update_loop ?_
    rw [Around.under_plainId F.plain_set_update_loop _]
    show wpAny _ A.in1 (pyNext (.ref I) >>= _) _ _ s
    refine wpAny_bind (W.done s _ _ st fun s' m => ?_)
    show wpAny _ A.in1 (ret Value.none) _ _ s'
    have k' := moved m k
    exact wpAny_pure (fin s' L es ep t (m.mono up) (hS.keep (fun o e => m.heap S o wS e) fun p mp => isT_keep (is0 p (List.mem_of_mem_take (g.sub p mp))) k') g k')
  | succ r ih =>
    rintro i s e st k ⟨L, es, ep, t, hS, g⟩ fin
    refine codeAny_builtin F.entry_set_update_loop ?_
    rw [Around.under_plainId F.plain_set_update_loop _]
    show wpAny _ A.in1 (pyNext (.ref I) >>= _) _ _ s
    refine wpAny_bind (W.item i s _ _ (by omega) st fun v s' pv st' m => ?_)
    obtain ⟨p, hp, rfl⟩ := val i v pv
    have k' := moved m k
    have mem : ∀ q ∈ L, q ∈ ks := fun q mq => List.mem_of_mem_take (g.sub q mq)
    have hS' : SetTR P w s'.heap S L es ep t := hS.keep (fun o e => m.heap S o wS e) fun q mq => isT_keep (is0 q (mem q mq)) k'
    have hx : IsT P w s'.heap p.2 p.1 := isT_keep (is0 p (List.mem_of_getElem? hp)) k'
    have le := few L mem hS.nd
    show wpAny _ A.in1 (holding [Value.ref p.1] (setAdd S (.ref p.1)) >>= _) _ _ s'
    refine wpAny_bind (wpAny_holding ?_)
    unfold setAdd
    refine wpAny_holding (wpAny_bind (wpAny_pyHash_tuple room hx ?_))
    refine add_at (s := { s' with toks := s'.toks + (p.2.length + 1) }) hS' hx room (by omega) fun b h' L' es' ep' t' sb hS2 c1 c2 => ?_
    have g' : Got ks (i + 1) L' := by
      by_cases c : p.2 ∈ L.map (·.2)
      · rw [c1 c]
        exact g.same hp c
      · exact g.more hp (c2 c)
    refine wpAny_pure ⟨plainId_quiet F.plain_set_update_loop _, ih (i + 1) _ (by omega) (W.frame _ s' _ _ st' (Nat.le_add_right _ _) fun b mb o e => ?_) (fun b o e => ?_) ⟨L', es', ep', t', hS2, g'⟩ fun s'' L2 es2 ep2 t2 m2 hS3 g2 k2 => ?_⟩
    · rw [sb.2 b fun z => nS (by rw [← z]; exact mb)]
      exact e
    · exact (sb.2 b fun z => by rw [z, S0] at e; cases e).trans (k' b o e)
    · refine fin s'' L2 es2 ep2 t2 (Moved.trans W.gtrans ((m.mono up).then_heap (Nat.le_add_right _ _) fun b o nb e => ?_) m2) hS3 g2 k2
      rw [sb.2 b fun z => nb (by rw [z]; exact List.mem_cons_self)]
      exact e
/-- what a set made of the rows of a list leaves -/
def KeysMade (P : Program) (w : World) (s : Shared) (S : Addr) (ks : List (Addr × List Int)) (s2 : Shared) : Prop :=
  ∃ h' tk L es ep t, s2 = { s with heap := h', toks := tk } ∧ SetTR P w h' S L es ep t ∧ Got ks ks.length L ∧ ∀ b o, b ≠ S → s.heap.get? b = some o → h'.get? b = some o
theorem init_keys {S l : Addr} {items : Array Value} {ks : List (Addr × List Int)} {h0 : Heap} (hh : A.handled = none) (hS : s.heap.get? S = some (set0 w)) (hl : s.heap.IsList l items) (ne : l ≠ S) (hi : items.toList = ks.map fun p => Value.ref p.1)
    (few : FewKeys ks) (is0 : ∀ p ∈ ks, IsT P w h0 p.2 p.1) (S0 : h0.get? S = none) (k0 : ∀ b o, h0.get? b = some o → s.heap.get? b = some o) (room : A.units + 3 < cLine) :
    wpAny (model P w) A (Builtin.«set.__init__» ⟨[.ref S, .ref l], []⟩) (fun fin s2 => fin = .done (.ret .none) ∧ KeysMade P w s S ks s2) E s := by
  have size : items.size = ks.length := by
    have q := congrArg List.length hi
    rwa [Array.length_toList, List.length_map] at q
  obtain ⟨⟨cl, dd, da, sl⟩, ho, hc, k, hd⟩ := id hl
  simp only at hc hd
  subst hc hd
  have f1 := PySem.F.sub_list_set
  have f2 := PySem.F.sub_list_frozenset
  have f3 : (Value.type "list" == Value.type "dict") = false := by decide
  unfold Builtin.«set.__init__» noKeywords Builtin.Frozenset.updateFrom
  generalize hPI : pyIter = PI
  wp_walk
  subst hPI
  have lt : l < s.heap.objs.size := Heap.lt_size ho
  have lS : S < s.heap.objs.size := Heap.lt_size hS
  refine wpAny_pyIter_list hl (wpAny_bind (wpAny_runValue ?_))
  have val : ∀ (i : Nat) (v : Value), items[i]? = some v → ∃ p, ks[i]? = some p ∧ v = .ref p.1 := fun i v hv => by
    have q : items.toList[i]? = some v := by
      rw [Array.getElem?_toList]
      exact hv
    rw [hi, List.getElem?_map] at q
    obtain ⟨p, e, rfl⟩ := Option.map_eq_some_iff.mp q
    exact ⟨p, e, rfl⟩
  have off : S ∉ [s.heap.objs.size, l] := by
    simp only [List.mem_cons, List.not_mem_nil, or_false, not_or]
    exact ⟨Nat.ne_of_lt lS, fun e => ne e.symm⟩
  have nn : h0.get? s.heap.objs.size = none := by
    cases q : h0.get? s.heap.objs.size with
    | none => rfl
    | some o => exact absurd (Heap.lt_size (k0 _ _ q)) (Nat.lt_irrefl _)
  refine update_keys (h0 := h0) (Walks.list (by simp [hh]) _ l (Nat.ne_of_lt lt) items).toS off size few val is0 S0 (fun b m => by rw [List.mem_singleton.mp m]; exact nn) (by simp; omega) items.size 0 _ (Nat.zero_add _)
    ⟨⟨_, Heap.get?_push_size _ rfl, rfl, rfl⟩, hl.push _⟩ (fun b o e => Heap.get?_push_of_some _ (k0 b o e)) ⟨[], #[], 0, _, setTR_fresh (Heap.get?_push_of_some _ hS), Got.zero ks⟩ fun s' L es ep t m r g _ => ?_
  obtain ⟨h', g1, d, tk, os⟩ := s'
  obtain ⟨rfl, rfl, rfl⟩ : g1 = s.gens ∧ d = s.drawn ∧ os = s.os := ⟨m.gens, m.drawn, m.os⟩
  rw [size] at g
  refine wpAny_pure (wpAny_pure ⟨rfl, h', tk, L, es, ep, t, rfl, r, g, fun b o nb e => ?_⟩)
  refine m.heap b o ?_ (Heap.get?_push_of_some _ e)
  simp only [List.mem_cons, List.not_mem_nil, or_false, not_or]
  exact ⟨nb, Nat.ne_of_lt (Heap.lt_size e)⟩
/-- set(xs) of a list of tuples of ints -/
theorem set_of_keys {l : Addr} {items : Array Value} {ks : List (Addr × List Int)} {Q : Value → Shared → Prop} (hh : A.handled = none) (hl : s.heap.IsList l items) (hi : items.toList = ks.map fun p => Value.ref p.1) (few : FewKeys ks)
    (is0 : ∀ p ∈ ks, IsT P w s.heap p.2 p.1) (room : A.units + 65 < cLine)
    (h : ∀ (h' : Heap) (tk : Nat) L es ep t, SetTR P w h' s.heap.objs.size L es ep t → Got ks ks.length L → (∀ b o, s.heap.get? b = some o → h'.get? b = some o) → Q (.ref s.heap.objs.size) { s with heap := h', toks := tk }) :
    wpAny (model P w) A (call (.type "set") [.ref l]) Q E s := by
  obtain ⟨c, tl, hmro⟩ := PySem.F.called_set.mro
  have hmade := PySem.F.called_set.made
  have hsub := PySem.F.called_set.sub
  have h1 := PySem.F.called_set.notType
  have h2 := PySem.F.called_set.canCreate
  have hct := PySem.F.typeCall_set_1 (.ref l)
  refine wpAny_call (codeAny_of_tree ?_)
  show wpAny _ _ (callAny (.type "set") _) _ _ _
  refine wpAny_pure ⟨Code.quiet_builtin _ (by decide +kernel), codeAny_builtin PySem.F.entry_type_call ?_⟩
  rw [Around.under_plain (weight_type_call_type "set" [.ref l] []) rfl]
  repeat (any_goals (first | assumption | wp_step))
  have get0 : (s.heap.push (set0 w)).get? s.heap.objs.size = some (set0 w) := Heap.get?_push_size _ rfl
  refine codeAny_mono (code_set_led1 (.ref l) (E := E) (Q₁ := fun v s1 => v = .ref s.heap.objs.size ∧ s1 = { s with heap := s.heap.push (set0 w) }) ⟨rfl, rfl⟩) fun r s1 hr => ?_
  rcases r with e | fl
  · exact hr
  cases fl with
  | ret v =>
    obtain ⟨rfl, rfl⟩ := hr
    have ty : Shared.TypeIs { s with heap := s.heap.push (set0 w) } (.ref s.heap.objs.size) "set" := ⟨_, get0, rfl⟩
    have look := PySem.F.called_set.init.lookup
    have bind_ := PySem.F.called_set.init.bind (.ref s.heap.objs.size)
    have nl : l ≠ s.heap.objs.size := fun e => by
      obtain ⟨o, ho, _⟩ := hl
      exact absurd (Heap.lt_size ho) (by rw [e]; exact Nat.lt_irrefl _)
    have n0 : s.heap.get? s.heap.objs.size = none := by
      cases q : s.heap.get? s.heap.objs.size with
      | none => rfl
      | some o => exact absurd (Heap.lt_size q) (Nat.lt_irrefl _)
    repeat (any_goals (first | assumption | wp_step))
    refine codeAny_mono (codeAny_call_builtin (R := wants (fun v s2 => v = .none ∧ KeysMade P w { s with heap := s.heap.push (set0 w) } s.heap.objs.size ks s2) E) PySem.F.called_set.init.plain PySem.F.entry_set_init (check_set_init_1 ty ?_)) fun r2 s2 hr2 => ?_
    · exact wpAny_mono (init_keys (h0 := s.heap) (by simp [hh]) get0 (hl.push _) nl hi few is0 n0 (fun b o e => Heap.get?_push_of_some _ e) (by simp; omega)) (fun fin s2 h => by obtain ⟨rfl, m⟩ := h; exact ⟨rfl, m⟩) fun _ _ h => h
    · rcases r2 with e | fl2
      · exact hr2
      cases fl2 with
      | ret v2 =>
        obtain ⟨rfl, h', tk, L, es, ep, t, rfl, r, g, k⟩ := hr2
        repeat (any_goals (first | assumption | wp_step))
        exact h _ _ _ _ _ _ r g fun b o e => k b o (Nat.ne_of_lt (Heap.lt_size e)) (Heap.get?_push_of_some _ e)
      | _ => exact hr2.elim
  | _ => exact hr.elim
end
/-! ### as functions of data -/
def pairOf : D → Option (Int × Int)
  | .tup [.int x, .int y] => if 0 ≤ x ∧ x < 64 ∧ 0 ≤ y ∧ y < 64 then some (x, y) else none
  | _ => none
def pairsD : List D → Option (List (Int × Int))
  | [] => some []
  | d :: ds => match pairOf d, pairsD ds with
    | some p, some ps => some (p :: ps)
    | _, _ => none
def codeP (p : Int × Int) : Int := p.1 * 64 + p.2
def unP (c : Int) : D := .tup [.int (c / 64), .int (c % 64)]
def sortSetPD : D → Option (D × Bool)
  | .lst ds => match pairsD ds with
    | some ps => if ps.length ≤ 4000 ∧ (ascL (ps.map codeP)).length ≤ 62 then some (.lst ((ascL (ps.map codeP)).map unP), true) else none
    | none => none
  | _ => none
theorem pairOf_some {d : D} {p : Int × Int} (h : pairOf d = some p) : d = .tup [.int p.1, .int p.2] ∧ 0 ≤ p.1 ∧ p.1 < 64 ∧ 0 ≤ p.2 ∧ p.2 < 64 := by
  unfold pairOf at h
  split at h
  · split at h
    · cases h
      exact ⟨rfl, by assumption⟩
    · cases h
  · cases h
theorem pairOf_pt {x y : Int} (h : 0 ≤ x ∧ x < 64 ∧ 0 ≤ y ∧ y < 64) : pairOf (.tup [.int x, .int y]) = some (x, y) := by
  unfold pairOf
  exact if_pos h
theorem pairsD_map : ∀ {ps : List (Int × Int)}, (∀ p ∈ ps, 0 ≤ p.1 ∧ p.1 < 64 ∧ 0 ≤ p.2 ∧ p.2 < 64) → pairsD (ps.map fun p => .tup [.int p.1, .int p.2]) = some ps
  | [], _ => rfl
  | (x, y) :: ps, h => by
    rw [List.map_cons]
    simp only [pairsD, pairOf_pt (h (x, y) (by simp)), pairsD_map fun p m => h p (List.mem_cons_of_mem _ m)]
theorem v_sortSetP {ps : List (Int × Int)} (h : ∀ p ∈ ps, 0 ≤ p.1 ∧ p.1 < 64 ∧ 0 ≤ p.2 ∧ p.2 < 64) (l : ps.length ≤ 4000) (l2 : (ascL (ps.map codeP)).length ≤ 62) :
    sortSetPD (.lst (ps.map fun p => .tup [.int p.1, .int p.2])) = some (.lst ((ascL (ps.map codeP)).map unP), true) := by
  simp only [sortSetPD, pairsD_map h]
  exact if_pos ⟨l, l2⟩
/-- the rows of what a list of pairs shows -/
theorem rows_of {Z : Wd} {O : Addr → Prop} {H : Hp} : ∀ {xs : List V} {ds : List D} {ps : List (Int × Int)}, DenA Z O H xs ds → pairsD ds = some ps →
    ∃ ks : List (Addr × List Int), xs = ks.map (fun p => V.ref p.1) ∧ ks.map (·.2) = ps.map (fun p => [p.1, p.2]) ∧ (∀ k ∈ ks, ∃ p ∈ ps, k.2 = [p.1, p.2] ∧ H k.1 = some (.tup [.int p.1, .int p.2]) ∧ ¬ O k.1 ∧ 0 ≤ p.1 ∧ p.1 < 64 ∧ 0 ≤ p.2 ∧ p.2 < 64)
  | _, _, _, .nil, e => by
    cases e
    exact ⟨[], rfl, rfl, nofun⟩
  | _, _, _, .cons (d := d) (ds := ds) h r, e => by
    unfold pairsD at e
    cases e1 : pairOf d with
    | none => rw [e1] at e; cases e
    | some p =>
      cases e2 : pairsD ds with
      | none => rw [e1, e2] at e; cases e
      | some ps =>
        rw [e1, e2] at e
        cases e
        obtain ⟨ks, rfl, e4, q⟩ := rows_of r e2
        obtain ⟨rfl, b⟩ := pairOf_some e1
        cases h with
        | ref ha no c =>
          cases c with
          | tup c =>
            cases DenA.ints (ns := [p.1, p.2]) c
            refine ⟨(_, [p.1, p.2]) :: ks, rfl, by rw [List.map_cons, List.map_cons, e4], fun k m => ?_⟩
            rcases List.mem_cons.mp m with rfl | m
            · exact ⟨p, List.mem_cons_self, rfl, ha, no, b⟩
            · obtain ⟨p', m', q'⟩ := q k m
              exact ⟨p', List.mem_cons_of_mem _ m', q'⟩
theorem nodup_le : ∀ {a b : List Int}, a.Nodup → (∀ x ∈ a, x ∈ b) → a.length ≤ b.length
  | [], _, _, _ => Nat.zero_le _
  | x :: a, b, n, h => by
    obtain ⟨n1, n2⟩ := List.nodup_cons.mp n
    have mx := h x List.mem_cons_self
    have r := nodup_le (b := b.erase x) n2 fun y my => (List.mem_erase_of_ne fun e => n1 (by rw [← e]; exact my)).mpr (h y (List.mem_cons_of_mem _ my))
    have l := List.length_erase_of_mem mx
    have := List.length_pos_of_mem mx
    rw [List.length_cons]
    omega
theorem den_rows {Z : Wd} {O : Addr → Prop} {H : Hp} : ∀ {L : List (Addr × List Int)}, (∀ k ∈ L, Den Z O H (.ref k.1) (unP (TS.code 64 k.2))) → DenA Z O H (L.map fun k => V.ref k.1) (L.map (unP ∘ fun k => TS.code 64 k.2))
  | [], _ => .nil
  | k :: L, h => .cons (h k List.mem_cons_self) (den_rows fun k m => h k (List.mem_cons_of_mem _ m))
theorem code_eq {p : Int × Int} : TS.code 64 [p.1, p.2] = codeP p := code_pair p.1 p.2
theorem code_un {p : Int × Int} (h : 0 ≤ p.1 ∧ p.1 < 64 ∧ 0 ≤ p.2 ∧ p.2 < 64) : unP (codeP p) = .tup [.int p.1, .int p.2] := by
  have e1 : codeP p / 64 = p.1 := by unfold codeP; omega
  have e2 : codeP p % 64 = p.2 := by unfold codeP; omega
  unfold unP
  rw [e1, e2]
section
variable {Z : Wd} {C : Fx Z} {X : Cx}
theorem ev_sortSetP {a : Expr} {fa : EF Z.T} {p p2 q pos : Pos} (units : X.A.units + 65 < cLine) (hg : Gl X "sorted") (hm : X.mg "sorted" = none) (hg2 : Gl X "set") (hm2 : X.mg "set" = none) (ha : PE X a (tF C fa)) (hc : X.calm = true := by rfl)
    (na : starEach [a] X.env = (false, eval a X.env) :: starEach [] X.env := by rfl) : PE X (.Call (.Name "sorted" p) [.Call (.Name "set" p2) [a] [] q] [] pos) (tF C (unF sortSetPD fa)) := by
  refine ⟨fun pins s σ H Q I h => ?_⟩
  have h := tUn_of h
  refine Call_ (ld_blt I hg hm (show bootBuiltins "sorted" = some (.builtin "sorted") by decide +kernel) (PyProof.Rows.callWith_builtin1 (PyProof.Rows.args_cons (Call_ (ld_blt I hg2 hm2 boot_set (PyProof.Rows.callWith_type1 (PyProof.Rows.args_cons (thn (ha.run pins s σ H _ I h) fun v s1 got => PyProof.Rows.args_nil ?_) na) na rfl))) rfl) rfl rfl))
  obtain ⟨x, H1, I1, rx, O, dx, z, nO, sh, e, fin⟩ := got
  cases dx with
  | lst ds =>
    simp only [sortSetPD] at e
    cases e1 : pairsD ds with
    | none => rw [e1] at e; cases e
    | some ps =>
      rw [e1] at e
      simp only at e
      split at e
      · rename_i hl
        cases e
        obtain ⟨l, xs, rfl, hl1, dn⟩ := sh.lst
        cases rx
        obtain ⟨ks, rfl, e2, row⟩ := rows_of dn e1
        obtain ⟨its, r, pl, hz⟩ := I1.list (SqL.of hl1)
        have is0 : ∀ k ∈ ks, IsT X.prog X.w s1.heap k.2 k.1 := fun k m => by
          obtain ⟨p, _, e3, e4, _⟩ := row k m
          refine I1.isT (SqT.of ?_)
          rw [e4, e3]
          rfl
        have codes : ∀ c, c ∈ ascL (ps.map codeP) ↔ ∃ k ∈ ks, TS.code 64 k.2 = c := fun c => by
          rw [mem_ascL]
          constructor
          · intro m
            obtain ⟨p, mp, rfl⟩ := List.mem_map.mp m
            have : [p.1, p.2] ∈ ks.map (·.2) := by
              rw [e2]
              exact List.mem_map.mpr ⟨p, mp, rfl⟩
            obtain ⟨k, mk, e3⟩ := List.mem_map.mp this
            exact ⟨k, mk, by rw [e3]; exact code_eq⟩
          · rintro ⟨k, mk, rfl⟩
            obtain ⟨p, mp, e3, _⟩ := row k mk
            rw [e3, code_eq]
            exact List.mem_map.mpr ⟨p, mp, rfl⟩
        have inj : ∀ k ∈ ks, ∀ k' ∈ ks, TS.code 64 k.2 = TS.code 64 k'.2 → k.2 = k'.2 := fun k m k' m' e => by
          obtain ⟨p, _, e3, _, _, b⟩ := row k m
          obtain ⟨p', _, e3', _, _, b'⟩ := row k' m'
          rw [e3, e3', code_eq, code_eq] at e
          unfold codeP at e
          rw [e3, e3', show p.1 = p'.1 by omega, show p.2 = p'.2 by omega]
        have nodup : ∀ L : List (Addr × List Int), (∀ k ∈ L, k ∈ ks) → (L.map (·.2)).Nodup → (L.map fun k => TS.code 64 k.2).Nodup := fun L sub nd => by
          refine List.pairwise_map.mpr (List.Pairwise.imp_of_mem (fun {k k'} m m' ne e => ne ?_) (List.pairwise_map.mp nd))
          exact inj k (sub k m) k' (sub k' m') e
        have few : FewKeys ks := fun L sub nd => by
          have := nodup_le (nodup L sub nd) (b := ascL (ps.map codeP)) fun c m => by
            obtain ⟨k, mk, rfl⟩ := List.mem_map.mp m
            exact (codes _).mpr ⟨k, sub k mk, rfl⟩
          rw [List.length_map] at this
          omega
        refine set_of_keys (I1.ok.hd hc) pl.isList (by simpa using refs_of_vals r) few is0 units fun h' tk L es ep t R1 g k => PyProof.Rows.args_nil ?_
        have I2 : Inv X pins σ H1 { s1 with heap := h', toks := tk } := I1.kept k
        have sub : ∀ k ∈ L, k ∈ ks := fun k m => List.mem_of_mem_take (g.sub k m)
        refine sorted_setT R1 (I2.ok.hd hc) (d := 2) (B := 64) (by decide) (fun k m => ?_) fun s' p out cn L' kk gg oo hp hgo his pm pw => ?_
        · obtain ⟨p, _, e3, _, _, b⟩ := row k (sub k m)
          rw [e3]
          refine ⟨rfl, fun n mn => ?_⟩
          simp only [List.mem_cons, List.not_mem_nil, or_false] at mn
          rcases mn with rfl | rfl
          · exact ⟨b.1, b.2.1⟩
          · exact b.2.2
        · have np : H1 p = none := I2.hok.fresh hp
          have sub' : ∀ k ∈ L', k ∈ ks := fun k m => sub k (pm.mem_iff.mp m)
          have all : ∀ k ∈ ks, k.2 ∈ L'.map (·.2) := fun k m => (pm.map (·.2)).mem_iff.mpr (g.all k (by rw [List.take_length]; exact m))
          have asc : (L'.map fun k => TS.code 64 k.2).Pairwise (· < ·) := by
            have n1 := nodup L' sub' ((pm.map (·.2)).nodup_iff.mpr R1.nd)
            have n2 := List.pairwise_map.mpr pw
            exact (List.pairwise_and_iff.mpr ⟨n1, n2⟩).imp fun {a b} h => by omega
          have em : (L'.map fun k => TS.code 64 k.2) = ascL (ps.map codeP) := asc_ext asc ascL_asc fun c => by
            rw [codes]
            constructor
            · intro m
              obtain ⟨k, mk, rfl⟩ := List.mem_map.mp m
              exact ⟨k, sub' k mk, rfl⟩
            · rintro ⟨k, mk, rfl⟩
              obtain ⟨k', mk', e5⟩ := List.mem_map.mp (all k mk)
              exact List.mem_map.mpr ⟨k', mk', by rw [e5]⟩
          have len : L'.length = (ascL (ps.map codeP)).length := by rw [← em, List.length_map]
          have J : Inv X pins σ (upd H1 p (.lst (L'.map fun k => V.ref k.1))) { s1 with heap := s'.heap, gens := s'.gens, drawn := s'.drawn, toks := s'.toks } :=
            I2.call (s := { s1 with heap := h', toks := tk }) (ch := []) (Un.laid kk hp np) (I2.hok.laid kk hp ⟨by rw [List.length_map, len, sizeLine_eq]; omega, out.toList, cn, by rw [his]; exact vals_of_refs L', hgo⟩) (by rw [gg]; exact I2.bare) (fun _ z => nomatch z)
          have es : s' = { s1 with heap := s'.heap, gens := s'.gens, drawn := s'.drawn, toks := s'.toks } := by
            cases s'
            cases s1
            cases oo
            rfl
          rw [es]
          refine ⟨.ref p, _, J, rfl, fin _ _ ⟨p, _, rfl, np, rfl, .lst ?_, fun _ z => nomatch z⟩⟩
          rw [← em, List.map_map]
          refine den_rows fun k m => ?_
          obtain ⟨p, _, e3, e4, no, b⟩ := row k (sub' k m)
          rw [e3, code_eq, code_un b]
          exact .ref e4 no (.tup (.cons (.int _) (.cons (.int _) .nil)))
      · cases e
  | _ => cases e
end
end FD

/-! L1: ordinary data: what repr can be asked of, what is the same as itself. -/
namespace FD
open PySem PySem.Spec PyProof.Rows L2
mutual
def ord (B : Nat) : Nat → D → Bool
  | _, .non => true
  | _, .bl _ => true
  | _, .int i => decide (i.natAbs ≤ B)
  | _, .str x => x.cps.toList.all fun c => decide (c < 16 ^ 8)
  | _ + 1, .dct kvs => kvs.isEmpty
  | k + 1, .tup ds => ordA B k ds
  | k + 1, .lst ds => ordA B k ds
  | _, _ => false
def ordA (B : Nat) : Nat → List D → Bool
  | _, [] => true
  | k, d :: ds => ord B k d && ordA B k ds
end
mutual
def blk : D → Nat
  | .str x => x.cps.size
  | .tup ds => blkA ds
  | .lst ds => blkA ds
  | _ => 0
def blkA : List D → Nat
  | [] => 0
  | d :: ds => blk d + 1 + blkA ds
end
mutual
def noDct : D → Bool
  | .dct _ => false
  | .tup ds => noDctA ds
  | .lst ds => noDctA ds
  | _ => true
def noDctA : List D → Bool
  | [] => true
  | d :: ds => noDct d && noDctA ds
end
theorem ordA_iff {B k : Nat} : ∀ {ds : List D}, ordA B k ds = true ↔ ∀ d ∈ ds, ord B k d = true
  | [] => by simp [ordA]
  | d :: ds => by simp [ordA, ordA_iff (ds := ds)]
theorem noDctA_iff : ∀ {ds : List D}, noDctA ds = true ↔ ∀ d ∈ ds, noDct d = true
  | [] => by simp [noDctA]
  | d :: ds => by simp [noDctA, noDctA_iff (ds := ds)]
theorem blkA_mem : ∀ {a : List D} {d : D}, d ∈ a → blk d < blkA a
  | _ :: _, _, .head _ => by simp only [blkA]; omega
  | _ :: ds, _, .tail _ h => by
    have := blkA_mem h
    simp only [blkA]
    omega
theorem blkA_len : ∀ {a : List D}, a.length ≤ blkA a
  | [] => Nat.le_refl 0
  | d :: ds => by
    have := blkA_len (a := ds)
    simp only [blkA, List.length_cons]
    omega
theorem blkA_le {n : Nat} : ∀ {a : List D}, (∀ d ∈ a, blk d ≤ n) → blkA a ≤ (n + 1) * a.length
  | [], _ => by simp [blkA]
  | d :: ds, h => by
    have h1 := h d (List.mem_cons_self ..)
    have h2 := blkA_le (a := ds) fun x m => h x (List.mem_cons_of_mem _ m)
    simp only [blkA, List.length_cons, Nat.mul_add, Nat.mul_one]
    omega
mutual
theorem ord_mono {B B' : Nat} (hB : B ≤ B') : ∀ {k k' : Nat} {d : D}, k ≤ k' → ord B k d = true → ord B' k' d = true
  | k, k', .non, _, _ => by unfold ord; rfl
  | k, k', .bl b, _, _ => by unfold ord; rfl
  | k, k', .int i, _, h => by
    unfold ord at h ⊢
    have := of_decide_eq_true h
    exact decide_eq_true (by omega)
  | k, k', .str x, _, h => by
    unfold ord at h ⊢
    exact h
  | 0, _, .dct x, _, h => by simp [ord] at h
  | k + 1, 0, .dct x, hk, h => by omega
  | k + 1, k' + 1, .dct x, _, h => by
    unfold ord at h ⊢
    exact h
  | 0, _, .tup ds, _, h => by simp [ord] at h
  | 0, _, .lst ds, _, h => by simp [ord] at h
  | k + 1, 0, .tup ds, hk, h => by omega
  | k + 1, 0, .lst ds, hk, h => by omega
  | k + 1, k' + 1, .tup ds, hk, h => by
    unfold ord at h ⊢
    exact ordA_mono hB (by omega) h
  | k + 1, k' + 1, .lst ds, hk, h => by
    unfold ord at h ⊢
    exact ordA_mono hB (by omega) h
  | k, k', .obj c fs, _, h => by simp [ord] at h
  | k, k', .ty c, _, h => by simp [ord] at h
  | k, k', .hnd c, _, h => by simp [ord] at h
  | k, k', .fn c, _, h => by simp [ord] at h
theorem ordA_mono {B B' : Nat} (hB : B ≤ B') : ∀ {k k' : Nat} {d : List D}, k ≤ k' → ordA B k d = true → ordA B' k' d = true
  | k, k', [], _, _ => by unfold ordA; rfl
  | k, k', d :: ds, hk, h => by
    unfold ordA at h ⊢
    rw [Bool.and_eq_true] at h ⊢
    exact ⟨ord_mono hB hk h.1, ordA_mono hB hk h.2⟩
end
/-! ### repr -/
mutual
theorem ord_tame {B : Nat} (hB : B < 10 ^ 60) : ∀ {k : Nat} {d : D}, ord B k d = true → ∃ p, pq d = some p ∧ p.showable = true ∧ p.depth ≤ k ∧ p.leavesShort 70 = true ∧ p.bulk = blk d
  | k, .non, _ => ⟨.none, by simp [pq], by simp [PyData.showable], by simp [PyData.depth], by simp [PyData.leavesShort], by simp [PyData.bulk, blk]⟩
  | k, .bl b, _ => ⟨.bool b, by simp [pq], by simp [PyData.showable], by simp [PyData.depth], by simp [PyData.leavesShort], by simp [PyData.bulk, blk]⟩
  | k, .int i, h => by
    unfold ord at h
    have h1 := of_decide_eq_true h
    have t := tame_int (i := i) (by omega)
    exact ⟨.int i, by simp [pq], t.sh, by have := t.dp; omega, t.lv, by simp [PyData.bulk, blk]⟩
  | k, .str x, h => by
    unfold ord at h
    exact ⟨.str x, by simp [pq], by simp [PyData.showable], by simp [PyData.depth], by simpa only [PyData.leavesShort] using h, by simp [PyData.bulk, blk]⟩
  | 0, .dct [], h => by simp [ord] at h
  | k + 1, .dct [], h => ⟨.dict [], by simp [pq], by simp [PyData.showable, PyData.showableKv], by simp [PyData.depth, PyData.depthKv], by simp [PyData.leavesShort, PyData.leavesShortKv], by simp [PyData.bulk, PyData.bulkKv, blk]⟩
  | 0, .dct (_ :: _), h => by simp [ord] at h
  | k + 1, .dct (_ :: _), h => by simp [ord] at h
  | 0, .tup ds, h => by simp [ord] at h
  | 0, .lst ds, h => by simp [ord] at h
  | k + 1, .tup ds, h => by
    unfold ord at h
    obtain ⟨p, e, h1, h2, h3, h4⟩ := ordA_tame hB h
    exact ⟨.tuple p, by simp [pq, e], by simpa only [PyData.showable] using h1, by simp only [PyData.depth]; omega, by simpa only [PyData.leavesShort] using h3, by simpa only [PyData.bulk, blk] using h4⟩
  | k + 1, .lst ds, h => by
    unfold ord at h
    obtain ⟨p, e, h1, h2, h3, h4⟩ := ordA_tame hB h
    exact ⟨.list p, by simp [pq, e], by simpa only [PyData.showable] using h1, by simp only [PyData.depth]; omega, by simpa only [PyData.leavesShort] using h3, by simpa only [PyData.bulk, blk] using h4⟩
  | k, .obj c fs, h => by simp [ord] at h
  | k, .ty c, h => by simp [ord] at h
  | k, .hnd c, h => by simp [ord] at h
  | k, .fn c, h => by simp [ord] at h
theorem ordA_tame {B : Nat} (hB : B < 10 ^ 60) : ∀ {k : Nat} {d : List D}, ordA B k d = true → ∃ p, pqs d = some p ∧ PyData.showableAll p = true ∧ PyData.depthAll p ≤ k ∧ PyData.leavesShortAll 70 p = true ∧ PyData.bulkAll p = blkA d
  | k, [], _ => ⟨[], by simp [pqs], by simp [PyData.showableAll], by simp [PyData.depthAll], by simp [PyData.leavesShortAll], by simp [PyData.bulkAll, blkA]⟩
  | k, d :: ds, h => by
    unfold ordA at h
    rw [Bool.and_eq_true] at h
    obtain ⟨p, e, h1, h2, h3, h4⟩ := ord_tame hB h.1
    obtain ⟨ps, es, k1, k2, k3, k4⟩ := ordA_tame hB h.2
    refine ⟨p :: ps, by simp [pqs, e, es], by simp [PyData.showableAll, h1, k1], by simp only [PyData.depthAll]; omega, by simp [PyData.leavesShortAll, h3, k3], ?_⟩
    simp only [PyData.bulkAll, blkA]
    omega
end
theorem repr_lst {B k : Nat} {ds : List D} (h : ordA B k ds = true) (hB : B < 10 ^ 60) (hk : k < 60) (hb : blkA ds ≤ 200000) : ∃ s, reprD [.lst ds] = some (.str s, false) := by
  obtain ⟨p, e, h1, h2, h3, h4⟩ := ordA_tame hB h
  have e1 : pq (.lst ds) = some (.list p) := by simp [pq, e]
  have t : Tame 60 200000 (.list p) := ⟨by simpa only [PyData.showable] using h1, by simp only [PyData.depth]; omega, by simpa only [PyData.leavesShort] using h3, by simp only [PyData.bulk]; omega⟩
  refine ⟨(PyData.list p).shown, ?_⟩
  unfold reprD
  simp only [e1]
  exact if_pos ⟨rfl, t.shown_ok (by decide) (by decide)⟩
end FD

/-! L2: what all laws draw with: one of some, odd values, bent values, what is the same. -/
namespace FD
open PySem PySem.Spec PyProof.Rows L2
noncomputable def fb_q_one : SF DS := (retF (binF ixD (varF 1) (ucallF FF_q_next (consA (varF 0) (consA (callF lenD (consA (varF 1) nilA)) nilA)))))
noncomputable def FF_q_one : FF DS := runF 2 2 fb_q_one
theorem len_q_one {ds : List D} {t : DS} {o : FOut × DS} (h : FF_q_one ds t = some o) : ds.length = 2 := runF_len h

noncomputable def fb_q_same (rec : FF DS) : SF DS := (seqF (ifF (callF isiD (consA (varF 1) (consA (tupF (consA (conF (.ty "tuple")) (consA (conF (.ty "list")) nilA))) nilA))) (seqF (ifF (binF neD (callF isiD (consA (varF 0) (consA (conF (.ty "tuple")) nilA))) (callF isiD (consA (varF 1) (consA (conF (.ty "tuple")) nilA)))) (retF (conF (.bl false))) nxF)
  (seqF (ifF (binF neD (callF isiD (consA (varF 0) (consA (conF (.ty "list")) nilA))) (callF isiD (consA (varF 1) (consA (conF (.ty "list")) nilA)))) (retF (conF (.bl false))) nxF)
  (seqF (ifF (binF neD (callF lenD (consA (varF 0) nilA)) (callF lenD (consA (varF 1) nilA))) (retF (conF (.bl false))) nxF)
  (retF (binF eqD (lcF [0, 1] [2] (callI rng1D (consA (callF lenD (consA (varF 1) nilA)) nilA)) (nameG 2) (notF (ucallF rec (consA (binF ixD (varF 0) (varF 2)) (consA (binF ixD (varF 1) (varF 2)) nilA)))) (varF 2)) (lstF nilA)))))) nxF)
  (seqF (ifF (callF isiD (consA (varF 1) (consA (conF (.ty "dict")) nilA))) (retF (andF (callF isiD (consA (varF 0) (consA (conF (.ty "dict")) nilA))) (binF eqD (varF 0) (varF 1)))) nxF)
  (seqF (ifF (binF isD (varF 1) (conF .non)) (retF (binF isD (varF 0) (conF .non))) nxF)
  (seqF (ifF (callF isiD (consA (varF 1) (consA (conF (.ty "str")) nilA))) (retF (andF (callF isiD (consA (varF 0) (consA (conF (.ty "str")) nilA))) (binF eqD (varF 0) (varF 1)))) nxF)
  (retF (andF (callF isiD (consA (varF 0) (consA (conF (.ty "int")) nilA))) (andF (binF eqD (callF isiD (consA (varF 0) (consA (conF (.ty "bool")) nilA))) (callF isiD (consA (varF 1) (consA (conF (.ty "bool")) nilA)))) (binF eqD (varF 0) (varF 1)))))))))
noncomputable def FFr_q_same : Nat → FF DS
  | 0 => fun _ _ => none
  | k + 1 => runF 3 2 (fb_q_same (FFr_q_same k))
theorem lenr_q_same : ∀ {k : Nat} {ds : List D} {t : DS} {o : FOut × DS}, FFr_q_same k ds t = some o → ds.length = 2
  | 0, _, _, _, h => by cases h
  | _ + 1, _, _, _, h => runF_len h
noncomputable def FF_q_same : FF DS := FFr_q_same 12
theorem len_q_same {ds : List D} {t : DS} {o : FOut × DS} (h : FF_q_same ds t = some o) : ds.length = 2 := lenr_q_same h

theorem atI_ex {ds : List D} {i : Int} (h0 : 0 ≤ i) (h1 : i < ds.length) : ∃ d ∈ ds, atI ds i = some d := by
  obtain ⟨k, rfl⟩ := Int.eq_ofNat_of_zero_le h0
  have hk : k < ds.length := by omega
  exact ⟨ds[k], List.getElem_mem hk, atI_nat (List.getElem?_eq_getElem hk)⟩
theorem one_eq {ds : List D} {t : DS} {n : Nat} {d : D} (h1 : 0 < ds.length) (h2 : (ds.length : Int) < 2 ^ 64) (h3 : t.c < 2 ^ 40) (e : atI ds (t.draw ds.length) = some d) : FF_q_one [.hnd n, .lst ds] t = some (.ok d false, t.step ds.length) := by
  unfold FF_q_one fb_q_one
  simp only [fdA, List.map_cons, List.map_nil, List.length_cons, List.length_nil, List.cons_append, List.nil_append, List.replicate_succ, List.replicate_zero, Nat.zero_add, Nat.reduceAdd, Nat.reduceSub, Nat.sub_self, if_true, if_false, Bool.false_eq_true, Bool.not_true, Bool.not_false, reduceCtorEq, ite_true, ite_false, List.getElem?_cons_zero, List.getElem?_cons_succ, List.set_cons_zero, List.set_cons_succ, LEN, Nat.reduceLeDiff, Option.map_some, fvA, List.length_map, List.length_set, decide_true, decide_false, next_eq (n := n) (t := t) (m := ds.length) (by omega) h2 h3, v_ix_l e]
theorem v_pow11 : powD (.int 10) (.int 11) = some (.int 100000000000, false) := by
  unfold powD
  exact if_pos (by decide)
theorem v_cat {a b : List D} (h : a.length + b.length ≤ LEN) : addD (.lst a) (.lst b) = some (.lst (a ++ b), true) := if_pos h
/-! ### the same -/
theorem rngL_nat (n : Nat) : rngL 0 (n : Int) = (List.range n).map fun (k : Nat) => D.int (k : Int) := by
  unfold rngL
  simp
theorem filter_no {A : Type} : ∀ as : List A, as.filter (fun _ => false) = []
  | [] => rfl
  | _ :: as => filter_no as
theorem eq_nil_nil : eqD (.lst []) (.lst []) = some (.bl true, false) := v_eq_nil (a := []) (by simp [okAll])
theorem same_refl : ∀ (k : Nat) {B : Nat} {d : D} {t : DS}, ord B k d = true → noDct d = true → blk d ≤ 100000 → ∀ {j : Nat}, k < j → FFr_q_same j [d, d] t = some (.ok (.bl true) false, t) := by
  intro k
  induction k with
  | zero =>
    intro B d t h1 h2 h3 j hj
    obtain ⟨j, rfl⟩ : ∃ i, j = i + 1 := ⟨j - 1, by omega⟩
    unfold FFr_q_same fb_q_same
    cases d with
    | non => simp only [fdA, List.map_cons, List.map_nil, List.length_cons, List.length_nil, List.cons_append, List.nil_append, List.replicate_succ, List.replicate_zero, Nat.zero_add, Nat.reduceAdd, Nat.reduceSub, Nat.sub_self, if_true, if_false, Bool.false_eq_true, Bool.not_true, Bool.not_false, reduceCtorEq, ite_true, ite_false, List.getElem?_cons_zero, List.getElem?_cons_succ, List.set_cons_zero, List.set_cons_succ, LEN, Nat.reduceLeDiff, Option.map_some, fvA, List.length_map, List.length_set, decide_true, decide_false]
    | bl b => simp only [fdA, List.map_cons, List.map_nil, List.length_cons, List.length_nil, List.cons_append, List.nil_append, List.replicate_succ, List.replicate_zero, Nat.zero_add, Nat.reduceAdd, Nat.reduceSub, Nat.sub_self, if_true, if_false, Bool.false_eq_true, Bool.not_true, Bool.not_false, reduceCtorEq, ite_true, ite_false, List.getElem?_cons_zero, List.getElem?_cons_succ, List.set_cons_zero, List.set_cons_succ, LEN, Nat.reduceLeDiff, Option.map_some, fvA, List.length_map, List.length_set, decide_true, decide_false]
    | int i => simp only [fdA, List.map_cons, List.map_nil, List.length_cons, List.length_nil, List.cons_append, List.nil_append, List.replicate_succ, List.replicate_zero, Nat.zero_add, Nat.reduceAdd, Nat.reduceSub, Nat.sub_self, if_true, if_false, Bool.false_eq_true, Bool.not_true, Bool.not_false, reduceCtorEq, ite_true, ite_false, List.getElem?_cons_zero, List.getElem?_cons_succ, List.set_cons_zero, List.set_cons_succ, LEN, Nat.reduceLeDiff, Option.map_some, fvA, List.length_map, List.length_set, decide_true, decide_false]
    | str x => simp only [fdA, List.map_cons, List.map_nil, List.length_cons, List.length_nil, List.cons_append, List.nil_append, List.replicate_succ, List.replicate_zero, Nat.zero_add, Nat.reduceAdd, Nat.reduceSub, Nat.sub_self, if_true, if_false, Bool.false_eq_true, Bool.not_true, Bool.not_false, reduceCtorEq, ite_true, ite_false, List.getElem?_cons_zero, List.getElem?_cons_succ, List.set_cons_zero, List.set_cons_succ, LEN, Nat.reduceLeDiff, Option.map_some, fvA, List.length_map, List.length_set, decide_true, decide_false]
    | dct kvs => simp [ord] at h1
    | tup ds => simp [ord] at h1
    | lst ds => simp [ord] at h1
    | obj c fs => simp [ord] at h1
    | ty c => simp [ord] at h1
    | hnd c => simp [ord] at h1
    | fn c => simp [ord] at h1
  | succ k ih =>
    intro B d t h1 h2 h3 j hj
    obtain ⟨j, rfl⟩ : ∃ i, j = i + 1 := ⟨j - 1, by omega⟩
    have list : ∀ ds : List D, ordA B k ds = true → noDctA ds = true → blkA ds ≤ 100000 → (∀ i : Nat, i < ds.length → ∃ d, atI ds (i : Int) = some d ∧ FFr_q_same j [d, d] t = some (.ok (.bl true) false, t)) ∧ ds.length ≤ 100000 := fun ds o1 o2 o3 => by
      refine ⟨fun i hi => ⟨ds[i], atI_nat (List.getElem?_eq_getElem hi), ?_⟩, Nat.le_trans blkA_len o3⟩
      have m := List.getElem_mem hi
      have := blkA_mem m
      exact ih (ordA_iff.mp o1 _ m) (noDctA_iff.mp o2 _ m) (by omega) (by omega)
    cases d with
    | non => unfold FFr_q_same fb_q_same; simp only [fdA, List.map_cons, List.map_nil, List.length_cons, List.length_nil, List.cons_append, List.nil_append, List.replicate_succ, List.replicate_zero, Nat.zero_add, Nat.reduceAdd, Nat.reduceSub, Nat.sub_self, if_true, if_false, Bool.false_eq_true, Bool.not_true, Bool.not_false, reduceCtorEq, ite_true, ite_false, List.getElem?_cons_zero, List.getElem?_cons_succ, List.set_cons_zero, List.set_cons_succ, LEN, Nat.reduceLeDiff, Option.map_some, fvA, List.length_map, List.length_set, decide_true, decide_false]
    | bl b => unfold FFr_q_same fb_q_same; simp only [fdA, List.map_cons, List.map_nil, List.length_cons, List.length_nil, List.cons_append, List.nil_append, List.replicate_succ, List.replicate_zero, Nat.zero_add, Nat.reduceAdd, Nat.reduceSub, Nat.sub_self, if_true, if_false, Bool.false_eq_true, Bool.not_true, Bool.not_false, reduceCtorEq, ite_true, ite_false, List.getElem?_cons_zero, List.getElem?_cons_succ, List.set_cons_zero, List.set_cons_succ, LEN, Nat.reduceLeDiff, Option.map_some, fvA, List.length_map, List.length_set, decide_true, decide_false]
    | int i => unfold FFr_q_same fb_q_same; simp only [fdA, List.map_cons, List.map_nil, List.length_cons, List.length_nil, List.cons_append, List.nil_append, List.replicate_succ, List.replicate_zero, Nat.zero_add, Nat.reduceAdd, Nat.reduceSub, Nat.sub_self, if_true, if_false, Bool.false_eq_true, Bool.not_true, Bool.not_false, reduceCtorEq, ite_true, ite_false, List.getElem?_cons_zero, List.getElem?_cons_succ, List.set_cons_zero, List.set_cons_succ, LEN, Nat.reduceLeDiff, Option.map_some, fvA, List.length_map, List.length_set, decide_true, decide_false]
    | str x => unfold FFr_q_same fb_q_same; simp only [fdA, List.map_cons, List.map_nil, List.length_cons, List.length_nil, List.cons_append, List.nil_append, List.replicate_succ, List.replicate_zero, Nat.zero_add, Nat.reduceAdd, Nat.reduceSub, Nat.sub_self, if_true, if_false, Bool.false_eq_true, Bool.not_true, Bool.not_false, reduceCtorEq, ite_true, ite_false, List.getElem?_cons_zero, List.getElem?_cons_succ, List.set_cons_zero, List.set_cons_succ, LEN, Nat.reduceLeDiff, Option.map_some, fvA, List.length_map, List.length_set, decide_true, decide_false]
    | dct kvs => simp [noDct] at h2
    | tup ds =>
      simp only [ord, noDct, blk] at h1 h2 h3
      obtain ⟨l1, l2⟩ := list ds h1 h2 h3
      refine w_eq ?_
      unfold FFr_q_same fb_q_same
      simp only [fdA, List.map_cons, List.map_nil, List.length_cons, List.length_nil, List.cons_append, List.nil_append, List.replicate_succ, List.replicate_zero, Nat.zero_add, Nat.reduceAdd, Nat.reduceSub, Nat.sub_self, if_true, if_false, Bool.false_eq_true, Bool.not_true, Bool.not_false, reduceCtorEq, ite_true, ite_false, List.getElem?_cons_zero, List.getElem?_cons_succ, List.set_cons_zero, List.set_cons_succ, LEN, Nat.reduceLeDiff, Option.map_some, fvA, List.length_map, List.length_set, decide_true, decide_false, fhA, List.mem_cons, List.not_mem_nil, or_false, or_true, Nat.reduceEqDiff, Nat.succ_ne_self, fxA, fwA, fyA, and_true, true_and, imp_self, true_imp_iff, false_imp_iff, implies_true, v_rng1 (j := (ds.length : Int)) (small_of (by omega))]
      refine ⟨by rw [rngL_len]; omega, w_fm (List.range ds.length) (fun (k : Nat) => D.int (k : Int)) (rngL_nat _) (fun _ => false) (fun _ => .non) (fun i hi => ?_) ?_⟩
      · obtain ⟨d, e1, e2⟩ := l1 i (List.mem_range.mp hi)
        simp only [fdA, List.map_cons, List.map_nil, List.length_cons, List.length_nil, List.cons_append, List.nil_append, List.replicate_succ, List.replicate_zero, Nat.zero_add, Nat.reduceAdd, Nat.reduceSub, Nat.sub_self, if_true, if_false, Bool.false_eq_true, Bool.not_true, Bool.not_false, reduceCtorEq, ite_true, ite_false, List.getElem?_cons_zero, List.getElem?_cons_succ, List.set_cons_zero, List.set_cons_succ, LEN, Nat.reduceLeDiff, Option.map_some, fvA, List.length_map, List.length_set, decide_true, decide_false, fhA, List.mem_cons, List.not_mem_nil, or_false, or_true, Nat.reduceEqDiff, Nat.succ_ne_self, fxA, fwA, fyA, and_true, true_and, imp_self, true_imp_iff, false_imp_iff, implies_true, v_ix_t e1, e2]
      · rw [filter_no]
        simp only [List.map_nil]
        simp only [fdA, List.map_cons, List.map_nil, List.length_cons, List.length_nil, List.cons_append, List.nil_append, List.replicate_succ, List.replicate_zero, Nat.zero_add, Nat.reduceAdd, Nat.reduceSub, Nat.sub_self, if_true, if_false, Bool.false_eq_true, Bool.not_true, Bool.not_false, reduceCtorEq, ite_true, ite_false, List.getElem?_cons_zero, List.getElem?_cons_succ, List.set_cons_zero, List.set_cons_succ, LEN, Nat.reduceLeDiff, Option.map_some, fvA, List.length_map, List.length_set, decide_true, decide_false, fhA, List.mem_cons, List.not_mem_nil, or_false, or_true, Nat.reduceEqDiff, Nat.succ_ne_self, fxA, fwA, fyA, and_true, true_and, imp_self, true_imp_iff, false_imp_iff, implies_true, eq_nil_nil]
    | lst ds =>
      simp only [ord, noDct, blk] at h1 h2 h3
      obtain ⟨l1, l2⟩ := list ds h1 h2 h3
      refine w_eq ?_
      unfold FFr_q_same fb_q_same
      simp only [fdA, List.map_cons, List.map_nil, List.length_cons, List.length_nil, List.cons_append, List.nil_append, List.replicate_succ, List.replicate_zero, Nat.zero_add, Nat.reduceAdd, Nat.reduceSub, Nat.sub_self, if_true, if_false, Bool.false_eq_true, Bool.not_true, Bool.not_false, reduceCtorEq, ite_true, ite_false, List.getElem?_cons_zero, List.getElem?_cons_succ, List.set_cons_zero, List.set_cons_succ, LEN, Nat.reduceLeDiff, Option.map_some, fvA, List.length_map, List.length_set, decide_true, decide_false, fhA, List.mem_cons, List.not_mem_nil, or_false, or_true, Nat.reduceEqDiff, Nat.succ_ne_self, fxA, fwA, fyA, and_true, true_and, imp_self, true_imp_iff, false_imp_iff, implies_true, v_rng1 (j := (ds.length : Int)) (small_of (by omega))]
      refine ⟨by rw [rngL_len]; omega, w_fm (List.range ds.length) (fun (k : Nat) => D.int (k : Int)) (rngL_nat _) (fun _ => false) (fun _ => .non) (fun i hi => ?_) ?_⟩
      · obtain ⟨d, e1, e2⟩ := l1 i (List.mem_range.mp hi)
        simp only [fdA, List.map_cons, List.map_nil, List.length_cons, List.length_nil, List.cons_append, List.nil_append, List.replicate_succ, List.replicate_zero, Nat.zero_add, Nat.reduceAdd, Nat.reduceSub, Nat.sub_self, if_true, if_false, Bool.false_eq_true, Bool.not_true, Bool.not_false, reduceCtorEq, ite_true, ite_false, List.getElem?_cons_zero, List.getElem?_cons_succ, List.set_cons_zero, List.set_cons_succ, LEN, Nat.reduceLeDiff, Option.map_some, fvA, List.length_map, List.length_set, decide_true, decide_false, fhA, List.mem_cons, List.not_mem_nil, or_false, or_true, Nat.reduceEqDiff, Nat.succ_ne_self, fxA, fwA, fyA, and_true, true_and, imp_self, true_imp_iff, false_imp_iff, implies_true, v_ix_l e1, e2]
      · rw [filter_no]
        simp only [List.map_nil]
        simp only [fdA, List.map_cons, List.map_nil, List.length_cons, List.length_nil, List.cons_append, List.nil_append, List.replicate_succ, List.replicate_zero, Nat.zero_add, Nat.reduceAdd, Nat.reduceSub, Nat.sub_self, if_true, if_false, Bool.false_eq_true, Bool.not_true, Bool.not_false, reduceCtorEq, ite_true, ite_false, List.getElem?_cons_zero, List.getElem?_cons_succ, List.set_cons_zero, List.set_cons_succ, LEN, Nat.reduceLeDiff, Option.map_some, fvA, List.length_map, List.length_set, decide_true, decide_false, fhA, List.mem_cons, List.not_mem_nil, or_false, or_true, Nat.reduceEqDiff, Nat.succ_ne_self, fxA, fwA, fyA, and_true, true_and, imp_self, true_imp_iff, false_imp_iff, implies_true, eq_nil_nil]
    | obj c fs => simp [ord] at h1
    | ty c => simp [ord] at h1
    | hnd c => simp [ord] at h1
    | fn c => simp [ord] at h1
/-! ### bent -/
theorem ord_tup {B k : Nat} {ds : List D} (h : ordA B k ds = true) : ord B (k + 1) (.tup ds) = true := by unfold ord; exact h
theorem ord_lst {B k : Nat} {ds : List D} (h : ordA B k ds = true) : ord B (k + 1) (.lst ds) = true := by unfold ord; exact h
theorem ordA_cons {B k : Nat} {d : D} {ds : List D} (h1 : ord B k d = true) (h : ordA B k ds = true) : ordA B k (d :: ds) = true := by unfold ordA; rw [h1, h]; rfl
theorem ordA_nil {B k : Nat} : ordA B k [] = true := by unfold ordA; rfl
end FD

/-! T1: steps of gains: the greatest gain of so many units, prices, units at a price. -/
namespace GC
abbrev Gs := List (Int × Int)
/-- the number of units -/
def cap : Gs → Int
  | [] => 0
  | (c, _) :: r => c + cap r
/-- the gain of the first u units -/
def fst' : Gs → Int → Int
  | [], _ => 0
  | (c, a) :: r, u => min c u * a + fst' r (u - min c u)
/-- what is gained above the price p -/
def conj : Gs → Int → Int
  | [], _ => 0
  | (c, a) :: r, p => (if p < a then c * (a - p) else 0) + conj r p
/-- how many units gain p or more -/
def from' : Gs → Int → Int
  | [], _ => 0
  | (c, a) :: r, p => (if p ≤ a then c else 0) + from' r p
/-- counts above 0, gains that fall -/
def Falls : Gs → Prop
  | [] => True
  | (c, a) :: r => 0 < c ∧ (∀ x ∈ r, x.2 < a) ∧ Falls r
theorem cap_nonneg : ∀ {g : Gs}, Falls g → 0 ≤ cap g
  | [], _ => Int.le_refl 0
  | (c, a) :: r, ⟨h1, _, h3⟩ => by
    have := cap_nonneg h3
    simp only [cap]
    omega
theorem from_nonneg : ∀ {g : Gs}, Falls g → ∀ p, 0 ≤ from' g p
  | [], _, _ => Int.le_refl 0
  | (c, a) :: r, ⟨h1, _, h3⟩, p => by
    have := from_nonneg h3 p
    simp only [from']
    split <;> omega
theorem from_anti : ∀ {g : Gs}, Falls g → ∀ {p q : Int}, p ≤ q → from' g q ≤ from' g p
  | [], _, _, _, _ => Int.le_refl 0
  | (c, a) :: r, ⟨h1, _, h3⟩, p, q, h => by
    have := from_anti h3 h
    simp only [from']
    split <;> split <;> omega
theorem from_zero : ∀ {g : Gs} {p : Int}, (∀ x ∈ g, x.2 < p) → from' g p = 0
  | [], _, _ => rfl
  | (c, a) :: r, p, h => by
    have h1 : a < p := h (c, a) (List.mem_cons_self ..)
    have := from_zero (g := r) (p := p) fun x m => h x (List.mem_cons_of_mem _ m)
    simp only [from', this]
    rw [if_neg (by omega)]
    rfl
theorem conj_nonneg : ∀ {g : Gs}, Falls g → ∀ p, 0 ≤ conj g p
  | [], _, _ => Int.le_refl 0
  | (c, a) :: r, ⟨h1, _, h3⟩, p => by
    have := conj_nonneg h3 p
    simp only [conj]
    split
    · have := Int.mul_nonneg (a := c) (b := a - p) (by omega) (by omega)
      omega
    · omega
theorem conj_zero : ∀ {g : Gs} {p : Int}, (∀ x ∈ g, x.2 ≤ p) → conj g p = 0
  | [], _, _ => rfl
  | (c, a) :: r, p, h => by
    have h1 : a ≤ p := h (c, a) (List.mem_cons_self ..)
    have := conj_zero (g := r) (p := p) fun x m => h x (List.mem_cons_of_mem _ m)
    simp only [conj, this]
    rw [if_neg (by omega)]
    rfl
theorem fst_zero : ∀ (g : Gs), Falls g → fst' g 0 = 0
  | [], _ => rfl
  | (c, a) :: r, ⟨h1, _, h3⟩ => by
    simp only [fst']
    rw [Int.min_eq_right (by omega)]
    simp [fst_zero r h3]
theorem fst_cons_le {c a u : Int} {r : Gs} (h : u ≤ c) (hr : Falls r) (h0 : 0 ≤ u) : fst' ((c, a) :: r) u = u * a := by
  simp only [fst']
  rw [Int.min_eq_right h, Int.sub_self, fst_zero r hr]
  omega
theorem fst_cons_ge {c a u : Int} {r : Gs} (h : c ≤ u) : fst' ((c, a) :: r) u = c * a + fst' r (u - c) := by
  simp only [fst']
  rw [Int.min_eq_left h]
/-- no units gain more than what they pay and what is gained above the price -/
theorem fst_le : ∀ {g : Gs}, Falls g → ∀ (p u : Int), 0 ≤ u → u ≤ cap g → fst' g u ≤ conj g p + p * u
  | [], _, p, u, h0, h1 => by
    have : u = 0 := by simp only [cap] at h1; omega
    subst this
    simp [fst', conj]
  | (c, a) :: r, ⟨h1, h2, h3⟩, p, u, h0, hu => by
    have hc := conj_nonneg h3 p
    by_cases h : u ≤ c
    · rw [fst_cons_le h h3 h0]
      simp only [conj]
      have e : u * a = u * (a - p) + p * u := by rw [Int.mul_sub, Int.mul_comm u p]; omega
      rw [e]
      split
      · rename_i hp
        have := Int.mul_le_mul_of_nonneg_right (a := u) (b := c) (c := a - p) h (by omega)
        omega
      · have := Int.mul_nonneg (a := u) (b := p - a) h0 (by omega)
        have e2 : u * (a - p) = - (u * (p - a)) := by rw [← Int.mul_neg]; congr 1; omega
        omega
    · have hh : c ≤ u := by omega
      rw [fst_cons_ge hh]
      have ih := fst_le h3 p (u - c) (by omega) (by simp only [cap] at hu; omega)
      have e : p * (u - c) = p * u - p * c := Int.mul_sub ..
      have e2 : c * a = c * (a - p) + p * c := by rw [Int.mul_sub, Int.mul_comm c p]; omega
      simp only [conj]
      split
      · omega
      · have := Int.mul_nonneg (a := c) (b := p - a) (by omega) (by omega)
        have e3 : c * (a - p) = - (c * (p - a)) := by rw [← Int.mul_neg]; congr 1; omega
        omega
/-- where the price lies between the gains of the units before and behind, nothing is lost -/
theorem fst_eq : ∀ {g : Gs}, Falls g → ∀ (p u : Int), 0 ≤ u → u ≤ cap g → from' g (p + 1) ≤ u → u ≤ from' g p → fst' g u = conj g p + p * u
  | [], _, p, u, h0, h1, _, _ => by
    have : u = 0 := by simp only [cap] at h1; omega
    subst this
    simp [fst', conj]
  | (c, a) :: r, ⟨h1, h2, h3⟩, p, u, h0, hu, l, m => by
    simp only [from'] at l m
    by_cases hp : p < a
    · rw [if_pos (by omega)] at l m
      have hn := from_nonneg h3 (p + 1)
      rw [fst_cons_ge (by omega)]
      have ih := fst_eq h3 p (u - c) (by omega) (by simp only [cap] at hu; omega) (by omega) (by omega)
      rw [ih]
      have e : p * (u - c) = p * u - p * c := Int.mul_sub ..
      have e2 : c * a = c * (a - p) + p * c := by rw [Int.mul_sub, Int.mul_comm c p]; omega
      simp only [conj]
      rw [if_pos hp]
      omega
    · have z1 := conj_zero (g := r) (p := p) fun x mx => by have := h2 x mx; omega
      have z2 : p = a ∨ a < p := by omega
      simp only [conj]
      rw [if_neg hp, z1]
      rcases z2 with rfl | z2
      · rw [if_pos (Int.le_refl _)] at m
        have z3 := from_zero (g := r) (p := p) h2
        rw [fst_cons_le (by omega) h3 h0, Int.mul_comm]
        omega
      · rw [if_neg (by omega)] at m
        have z3 := from_zero (g := r) (p := p) fun x mx => by have := h2 x mx; omega
        have : u = 0 := by omega
        subst this
        rw [fst_zero ((c, a) :: r) ⟨h1, h2, h3⟩]
        simp
end GC

/-! T2: steps joined, steps between. -/
namespace GC
theorem from_app (a b : Gs) (p : Int) : from' (a ++ b) p = from' a p + from' b p := by
  induction a with
  | nil => simp [from']
  | cons x r ih => obtain ⟨c, g⟩ := x; simp only [List.cons_append, from', ih]; omega
theorem conj_app (a b : Gs) (p : Int) : conj (a ++ b) p = conj a p + conj b p := by
  induction a with
  | nil => simp [conj]
  | cons x r ih => obtain ⟨c, g⟩ := x; simp only [List.cons_append, conj, ih]; omega
theorem cap_app (a b : Gs) : cap (a ++ b) = cap a + cap b := by
  induction a with
  | nil => simp [cap]
  | cons x r ih => obtain ⟨c, g⟩ := x; simp only [List.cons_append, cap, ih]; omega
/-- one step more, in falling order -/
def ins (c a : Int) : Gs → Gs
  | [] => [(c, a)]
  | (d, b) :: r => if b < a then (c, a) :: (d, b) :: r else if b = a then (d + c, b) :: r else (d, b) :: ins c a r
def joined : Gs → Gs
  | [] => []
  | (c, a) :: r => ins c a (joined r)
def Pos (g : Gs) : Prop := ∀ x ∈ g, 0 < x.1
theorem Falls.pos : ∀ {g : Gs}, Falls g → Pos g
  | [], _ => fun _ h => by cases h
  | (c, a) :: r, ⟨h1, h2, h3⟩ => fun x h => by
    rcases List.mem_cons.mp h with h | h
    · rw [h]; exact h1
    · exact h3.pos x h
/-- the steps of the units from index f on and before index l; the units of g begin at index b -/
def btwn (f l : Int) : Int → Gs → Gs
  | _, [] => []
  | b, (c, a) :: r => (if 0 < min (b + c) l - max b f then [(min (b + c) l - max b f, a)] else []) ++ btwn f l (b + c) r
def clip (f l x : Int) : Int := max f (min l x)
theorem mem_btwn {f l : Int} {x : Int × Int} : ∀ {b : Int} {g : Gs}, x ∈ btwn f l b g → 0 < x.1 ∧ ∃ y ∈ g, y.2 = x.2
  | _, [], h => by cases h
  | b, (c, a) :: r, h => by
    simp only [btwn] at h
    rcases List.mem_append.mp h with h | h
    · split at h
      · rw [List.mem_singleton] at h
        subst h
        exact ⟨by assumption, (c, a), List.mem_cons_self .., rfl⟩
      · cases h
    · obtain ⟨h1, y, m, e⟩ := mem_btwn h
      exact ⟨h1, y, List.mem_cons_of_mem _ m, e⟩
theorem falls_btwn {f l : Int} : ∀ {b : Int} {g : Gs}, Falls g → Falls (btwn f l b g)
  | _, [], _ => trivial
  | b, (c, a) :: r, ⟨h1, h2, h3⟩ => by
    simp only [btwn]
    split
    · exact ⟨by assumption, fun x m => by
        obtain ⟨_, y, m, e⟩ := mem_btwn m
        have := h2 y m
        omega, falls_btwn h3⟩
    · exact falls_btwn h3
theorem from_btwn {f l : Int} (p : Int) : ∀ {b : Int} {g : Gs}, Falls g → f ≤ l → from' (btwn f l b g) p = clip f l (b + from' g p) - clip f l b
  | b, [], _, _ => by simp [btwn, from']
  | b, (c, a) :: r, ⟨h1, h2, h3⟩, h => by
    have ih := from_btwn (f := f) (l := l) p (b := b + c) h3 h
    have n := from_nonneg h3 p
    simp only [btwn, from_app, ih, from']
    by_cases hp : p ≤ a
    · rw [if_pos hp]
      split
      · simp only [from', if_pos hp, clip]
        omega
      · simp only [from', clip]
        omega
    · have z := from_zero (g := r) (p := p) fun x m => by have := h2 x m; omega
      rw [if_neg hp, z]
      split
      · simp only [from', if_neg hp, clip]
        omega
      · simp only [from', clip]
        omega
theorem cap_btwn {f l : Int} : ∀ {b : Int} {g : Gs}, Falls g → f ≤ l → cap (btwn f l b g) = clip f l (b + cap g) - clip f l b
  | b, [], _, _ => by simp [btwn, cap]
  | b, (c, a) :: r, ⟨h1, h2, h3⟩, h => by
    have ih := cap_btwn (f := f) (l := l) (b := b + c) h3 h
    have n := cap_nonneg h3
    simp only [btwn, cap_app, ih, cap]
    split
    · simp only [cap, clip]
      omega
    · simp only [cap, clip]
      omega
/-- the gain of the unit with this index -/
def unit (g : Gs) (i : Int) : Int := match btwn i (i + 1) 0 g with
  | [] => 0
  | (_, a) :: _ => a
theorem unit_ok {g : Gs} (h : Falls g) {i : Int} (h0 : 0 ≤ i) (h1 : i < cap g) : (∃ c r, btwn i (i + 1) 0 g = (c, unit g i) :: r) ∧ i < from' g (unit g i) ∧ from' g (unit g i + 1) ≤ i := by
  have hc := cap_btwn (f := i) (l := i + 1) (b := 0) h (by omega)
  have fb := falls_btwn (f := i) (l := i + 1) (b := 0) h
  have ff := fun p => from_btwn (f := i) (l := i + 1) p (b := 0) h (by omega)
  cases e : btwn i (i + 1) 0 g with
  | nil =>
    rw [e] at hc
    simp only [cap, clip] at hc
    omega
  | cons x r =>
    obtain ⟨c, a⟩ := x
    have u : unit g i = a := by unfold unit; rw [e]
    rw [u]
    rw [e] at fb ff
    have f1 := ff a
    have f2 := ff (a + 1)
    have z := from_zero (g := r) (p := a + 1) fun x m => by have := fb.2.1 x m; omega
    have n := from_nonneg fb.2.2 a
    have hp := fb.1
    simp only [from', clip] at f1 f2
    rw [if_pos (Int.le_refl _)] at f1
    rw [if_neg (by omega), z] at f2
    refine ⟨⟨c, r, rfl⟩, ?_, ?_⟩ <;> omega
end GC

/-! T3: parts: what fits them, their curves. -/
namespace GC
inductive Part where
  | mk (num : Option Int) (ms : List Int) (lo hi : Int) (rs cg ci : List Int) (ins : List Part)
namespace Part
def num : Part → Option Int | mk n _ _ _ _ _ _ _ => n
def ms : Part → List Int | mk _ m _ _ _ _ _ _ => m
def lo : Part → Int | mk _ _ l _ _ _ _ _ => l
def hi : Part → Int | mk _ _ _ h _ _ _ _ => h
def rs : Part → List Int | mk _ _ _ _ r _ _ _ => r
def cg : Part → List Int | mk _ _ _ _ _ c _ _ => c
def ci : Part → List Int | mk _ _ _ _ _ _ c _ => c
def ins : Part → List Part | mk _ _ _ _ _ _ _ i => i
end Part
/-- the sum of units -/
def S (x : Int → Int) (ms : List Int) : Int := (ms.map x).sum
/-- the gain of units -/
def V (it : Int → Gs) (x : Int → Int) (ms : List Int) : Int := (ms.map fun i => fst' (it i) (x i)).sum
theorem S_app (x : Int → Int) (a b : List Int) : S x (a ++ b) = S x a + S x b := by simp [S, List.sum_append]
theorem V_app (it : Int → Gs) (x : Int → Int) (a b : List Int) : V it x (a ++ b) = V it x a + V it x b := by simp [V, List.sum_append]
theorem S_congr {x y : Int → Int} {ms : List Int} (h : ∀ i ∈ ms, x i = y i) : S x ms = S y ms := by
  unfold S
  rw [List.map_congr_left h]
def msOf : List Part → List Int
  | [] => []
  | p :: ps => p.ms ++ msOf ps
def loOf : List Part → Int
  | [] => 0
  | p :: ps => p.lo + loOf ps
def hiOf : List Part → Int
  | [] => 0
  | p :: ps => p.hi + hiOf ps
mutual
def Fit (x : Int → Int) : Part → Prop
  | .mk _ ms lo hi _ _ _ ins => (lo ≤ S x ms ∧ S x ms ≤ hi) ∧ Fits x ins
def Fits (x : Int → Int) : List Part → Prop
  | [] => True
  | p :: ps => Fit x p ∧ Fits x ps
end
mutual
def Good (it : Int → Gs) : Part → Prop
  | .mk _ ms lo hi _ _ _ ins => ms.Nodup ∧ lo ≤ hi ∧ (ins = [] → ∃ i, ms = [i] ∧ lo = 0 ∧ hi = cap (it i) ∧ Falls (it i)) ∧ (ins ≠ [] → ms = msOf ins ∧ loOf ins ≤ lo ∧ hi ≤ hiOf ins) ∧ Goods it ins
def Goods (it : Int → Gs) : List Part → Prop
  | [] => True
  | p :: ps => Good it p ∧ Goods it ps
end
abbrev Curve := Int × Int × Gs
def lowC : List Curve → Int
  | [] => 0
  | c :: r => c.1 + lowC r
def gainC : List Curve → Int
  | [] => 0
  | c :: r => c.2.1 + gainC r
def flatC : List Curve → Gs
  | [] => []
  | c :: r => c.2.2 ++ flatC r
def freeC (cs : List Curve) : Curve := (lowC cs, gainC cs, joined (flatC cs))
def cutC (lo hi : Int) (f : Curve) : Curve := (lo, f.2.1 + fst' f.2.2 (lo - f.1), btwn (lo - f.1) (hi - f.1) 0 f.2.2)
mutual
def curve (it : Int → Gs) : Part → Curve
  | .mk _ ms lo hi _ _ _ ins => if ins.isEmpty then (0, 0, it (ms.headD 0)) else cutC lo hi (freeC (curves it ins))
def curves (it : Int → Gs) : List Part → List Curve
  | [] => []
  | p :: ps => curve it p :: curves it ps
end
theorem Good.nodup {it : Int → Gs} : ∀ {p : Part}, Good it p → p.ms.Nodup
  | .mk _ ms lo hi _ _ _ ins, h => by unfold Good at h; exact h.1
theorem Good.le {it : Int → Gs} : ∀ {p : Part}, Good it p → p.lo ≤ p.hi
  | .mk _ ms lo hi _ _ _ ins, h => by unfold Good at h; exact h.2.1
theorem Fit.sum {x : Int → Int} : ∀ {p : Part}, Fit x p → p.lo ≤ S x p.ms ∧ S x p.ms ≤ p.hi
  | .mk _ ms lo hi _ _ _ ins, h => by unfold Fit at h; exact h.1
theorem mem_msOf {i : Int} : ∀ {ps : List Part}, i ∈ msOf ps ↔ ∃ p ∈ ps, i ∈ p.ms
  | [] => by simp [msOf]
  | p :: ps => by simp [msOf, mem_msOf (ps := ps)]
/-- to fit is said of the members alone -/
theorem Fits.congr' {it : Int → Gs} {x y : Int → Int} (n : Nat) : (∀ p : Part, sizeOf p < n → Good it p → (∀ i ∈ p.ms, x i = y i) → Fit x p → Fit y p) ∧ (∀ ps : List Part, sizeOf ps < n → Goods it ps → (∀ i ∈ msOf ps, x i = y i) → Fits x ps → Fits y ps) := by
  induction n with
  | zero => exact ⟨fun _ h => by omega, fun _ h => by omega⟩
  | succ n ih =>
    constructor
    · intro p hn g e f
      cases p with
      | mk a ms lo hi b c d ins =>
        unfold Good at g
        unfold Fit at f ⊢
        simp only [Part.ms] at e
        refine ⟨by rw [← S_congr e]; exact f.1, ?_⟩
        cases ins with
        | nil => unfold Fits; trivial
        | cons q qs =>
          obtain ⟨g1, _⟩ := g.2.2.2.1 (by simp)
          exact ih.2 _ (by simp at hn ⊢; omega) g.2.2.2.2 (fun i m => e i (by rw [g1]; exact m)) f.2
    · intro ps hn g e f
      cases ps with
      | nil => unfold Fits; trivial
      | cons p ps =>
        unfold Goods at g
        unfold Fits at f ⊢
        have hp : 0 < sizeOf ps := by cases ps <;> simp <;> omega
        exact ⟨ih.1 p (by simp at hn; omega) g.1 (fun i m => e i (by simp [msOf, m])) f.1, ih.2 ps (by simp at hn; omega) g.2 (fun i m => e i (by simp [msOf, m])) f.2⟩
theorem Fit.congr {it : Int → Gs} {x y : Int → Int} {p : Part} (g : Good it p) (e : ∀ i ∈ p.ms, x i = y i) (f : Fit x p) : Fit y p := (Fits.congr' (sizeOf p + 1)).1 p (by omega) g e f
theorem Fits.congr {it : Int → Gs} {x y : Int → Int} {p : List Part} (g : Goods it p) (e : ∀ i ∈ msOf p, x i = y i) (f : Fits x p) : Fits y p := (Fits.congr' (sizeOf p + 1)).2 p (by omega) g e f
/-- what is known of a curve of a part -/
structure CurveOk (it : Int → Gs) (p : Part) (c : Curve) : Prop where
  low : c.1 = p.lo
  falls : Falls c.2.2
  cap : cap c.2.2 = p.hi - p.lo
  up : ∀ x, Fit x p → V it x p.ms ≤ c.2.1 + fst' c.2.2 (S x p.ms - p.lo)
  at_ : ∀ u, p.lo ≤ u → u ≤ p.hi → ∃ x, Fit x p ∧ S x p.ms = u ∧ V it x p.ms = c.2.1 + fst' c.2.2 (u - p.lo)
inductive CurvesOk (it : Int → Gs) : List Part → List Curve → Prop
  | nil : CurvesOk it [] []
  | cons {p : Part} {ps : List Part} {c : Curve} {cs : List Curve} : CurveOk it p c → CurvesOk it ps cs → CurvesOk it (p :: ps) (c :: cs)
theorem CurvesOk.low {it : Int → Gs} : ∀ {ps : List Part} {cs : List Curve}, CurvesOk it ps cs → lowC cs = loOf ps
  | _, _, .nil => rfl
  | _, _, .cons h r => by simp only [lowC, loOf, h.low, r.low]
theorem CurvesOk.cap {it : Int → Gs} : ∀ {ps : List Part} {cs : List Curve}, CurvesOk it ps cs → GC.cap (flatC cs) = hiOf ps - loOf ps
  | _, _, .nil => rfl
  | _, _, .cons h r => by simp only [flatC, cap_app, hiOf, loOf, h.cap, r.cap]; omega
theorem CurvesOk.pos {it : Int → Gs} : ∀ {ps : List Part} {cs : List Curve}, CurvesOk it ps cs → Pos (flatC cs)
  | _, _, .nil => fun _ h => by cases h
  | _, _, .cons h r => fun x m => by
    simp only [flatC, List.mem_append] at m
    rcases m with m | m
    · exact h.falls.pos x m
    · exact r.pos x m
/-- a price bounds all -/
theorem CurveOk.price {it : Int → Gs} {p : Part} {c : Curve} (h : CurveOk it p c) (q : Int) {x : Int → Int} (f : Fit x p) : V it x p.ms ≤ c.2.1 + conj c.2.2 q + q * (S x p.ms - p.lo) := by
  have h1 := h.up x f
  have h2 := f.sum
  have h3 := fst_le h.falls q (S x p.ms - p.lo) (by omega) (by rw [h.cap]; omega)
  omega
theorem CurvesOk.price {it : Int → Gs} (q : Int) {x : Int → Int} : ∀ {ps : List Part} {cs : List Curve}, CurvesOk it ps cs → Fits x ps → V it x (msOf ps) ≤ gainC cs + conj (flatC cs) q + q * (S x (msOf ps) - loOf ps)
  | _, _, .nil, _ => by simp [V, S, msOf, gainC, flatC, conj, loOf]
  | p :: ps, c :: cs, .cons h r, f => by
    unfold Fits at f
    have h1 := h.price q f.1
    have h2 := CurvesOk.price q r f.2
    simp only [msOf, V_app, S_app, gainC, flatC, conj_app, loOf]
    have e : q * (S x p.ms + S x (msOf ps) - (p.lo + loOf ps)) = q * (S x p.ms - p.lo) + q * (S x (msOf ps) - loOf ps) := by
      rw [← Int.mul_add]
      congr 1
      omega
    omega
theorem CurvesOk.sum {it : Int → Gs} {x : Int → Int} : ∀ {ps : List Part} {cs : List Curve}, CurvesOk it ps cs → Fits x ps → loOf ps ≤ S x (msOf ps) ∧ S x (msOf ps) ≤ hiOf ps
  | _, _, .nil, _ => by simp [S, msOf, loOf, hiOf]
  | p :: ps, c :: cs, .cons h r, f => by
    unfold Fits at f
    have h1 := f.1.sum
    have h2 := r.sum f.2
    simp only [msOf, S_app, loOf, hiOf]
    omega
end GC

/-! T4: spans: where the best plans are. -/
namespace GC
inductive Span where
  | mk (num : Option Int) (ms : List Int) (lo hi : Int) (pr : Int) (ins : List Span)
namespace Span
def num : Span → Option Int | mk n _ _ _ _ _ => n
def ms : Span → List Int | mk _ m _ _ _ _ => m
def lo : Span → Int | mk _ _ l _ _ _ => l
def hi : Span → Int | mk _ _ _ h _ _ => h
def pr : Span → Int | mk _ _ _ _ p _ => p
def ins : Span → List Span | mk _ _ _ _ _ i => i
end Span
mutual
def Holds (x : Int → Int) : Span → Prop
  | .mk _ ms lo hi _ ins => (lo ≤ S x ms ∧ S x ms ≤ hi) ∧ HoldsAll x ins
def HoldsAll (x : Int → Int) : List Span → Prop
  | [] => True
  | p :: ps => Holds x p ∧ HoldsAll x ps
end
/-- what the best lose at a price -/
def top (c : Curve) (p : Int) (lo : Int) : Int := c.2.1 + conj c.2.2 p - p * lo
end GC

/-! T5: ascending lists, families that never cross. -/
namespace GC
abbrev Asc (l : List Int) : Prop := l.Pairwise (· < ·)
theorem Asc.nodup {l : List Int} (h : Asc l) : l.Nodup := h.imp fun {a b} h => by omega
theorem nodup_len : ∀ {a b : List Int}, a.Nodup → (∀ x ∈ a, x ∈ b) → a.length ≤ b.length
  | [], _, _, _ => Nat.zero_le _
  | x :: a, b, h, k => by
    obtain ⟨h1, h2⟩ := List.nodup_cons.mp h
    have hx := k x (List.mem_cons_self ..)
    have := nodup_len (a := a) (b := b.erase x) h2 fun y m => (List.mem_erase_of_ne (fun e : y = x => h1 (by rw [← e]; exact m))).mpr (k y (List.mem_cons_of_mem _ m))
    rw [List.length_erase_of_mem hx] at this
    have : 0 < b.length := List.length_pos_of_mem hx
    simp only [List.length_cons]
    omega
def Sub (a b : List Int) : Prop := ∀ x ∈ a, x ∈ b
def Disj (a b : List Int) : Prop := ∀ x ∈ a, x ∉ b
/-- not the same, not crossing -/
def Compat (a b : List Int) : Prop := Disj a b ∨ (Sub a b ∧ a.length < b.length) ∨ (Sub b a ∧ b.length < a.length)
theorem Disj.symm {a b : List Int} (h : Disj a b) : Disj b a := fun x m n => h x n m
theorem Compat.symm {a b : List Int} (h : Compat a b) : Compat b a := by
  rcases h with h | h | h
  · exact .inl h.symm
  · exact .inr (.inr h)
  · exact .inr (.inl h)
def rangeI (n : Nat) : List Int := (List.range n).map fun (k : Nat) => (k : Int)
theorem rangeI_nodup (n : Nat) : (rangeI n).Nodup := by
  unfold rangeI
  refine List.Pairwise.map _ ?_ (List.nodup_range (n := n))
  intro a b h e
  exact h (Int.ofNat.inj e)
theorem rangeI_len (n : Nat) : (rangeI n).length = n := by simp [rangeI]
/-- blocks that are all numbers below n, each once; what was found lies in blocks and does not cross -/
structure Blocks (n : Nat) (bs : List (List Int)) : Prop where
  asc : ∀ b ∈ bs, Asc b ∧ b ≠ []
  all : bs.flatten.Perm (rangeI n)
structure Found (bs fs : List (List Int)) : Prop where
  asc : ∀ f ∈ fs, Asc f ∧ f ≠ []
  sub : ∀ f ∈ fs, ∃ b ∈ bs, Sub f b
  pw : fs.Pairwise Compat
theorem Blocks.nodup {n : Nat} {bs : List (List Int)} (h : Blocks n bs) : bs.flatten.Nodup := h.all.nodup_iff.mpr (rangeI_nodup n)
theorem Blocks.len {n : Nat} {bs : List (List Int)} (h : Blocks n bs) {b : List Int} (m : b ∈ bs) : b.length ≤ n := by
  have := nodup_len (b := rangeI n) (h.asc b m).1.nodup fun x mx => h.all.subset (List.mem_flatten.mpr ⟨b, m, mx⟩)
  rwa [rangeI_len] at this
theorem Blocks.count {n : Nat} {bs : List (List Int)} (h : Blocks n bs) : bs.length ≤ n := by
  have e := h.all.length_eq
  rw [rangeI_len, List.length_flatten] at e
  have : ∀ bs : List (List Int), (∀ b ∈ bs, b ≠ []) → bs.length ≤ (bs.map List.length).sum := by
    intro bs
    induction bs with
    | nil => simp
    | cons b r ih =>
      intro h
      have := ih fun x m => h x (List.mem_cons_of_mem _ m)
      have h0 : 0 < b.length := List.length_pos_iff.mpr (h b (List.mem_cons_self ..))
      simp only [List.length_cons, List.map_cons, List.sum_cons]
      omega
  have := this bs fun b m => (h.asc b m).2
  omega
/-- two blocks become one -/
theorem Blocks.merge {n : Nat} {a b m : List Int} {bs : List (List Int)} (h : Blocks n (a :: b :: bs)) (p : m.Perm (a ++ b)) (am : Asc m) : Blocks n (bs ++ [m]) where
  asc := fun c mc => by
    rcases List.mem_append.mp mc with mc | mc
    · exact h.asc c (by simp [mc])
    · rw [List.mem_singleton] at mc
      subst mc
      refine ⟨am, fun e => ?_⟩
      subst e
      have := p.symm.length_eq
      have h0 := (h.asc a (by simp)).2
      simp at this
      exact h0 this.1
  all := by
    refine List.Perm.trans ?_ h.all
    simp only [List.flatten_append, List.flatten_cons, List.flatten_nil, List.append_nil]
    refine (List.perm_append_comm).trans ?_
    rw [← List.append_assoc]
    exact p.append_right _
theorem Found.merge {n : Nat} {a b m : List Int} {bs fs : List (List Int)} (h : Blocks n (a :: b :: bs)) (k : Found (a :: b :: bs) fs) (p : m.Perm (a ++ b)) : Found (bs ++ [m]) fs :=
  ⟨k.asc, fun f mf => by
    obtain ⟨c, mc, s⟩ := k.sub f mf
    simp only [List.mem_cons] at mc
    rcases mc with rfl | rfl | mc
    · exact ⟨m, by simp, fun x mx => p.symm.subset (List.mem_append_left _ (s x mx))⟩
    · exact ⟨m, by simp, fun x mx => p.symm.subset (List.mem_append_right _ (s x mx))⟩
    · exact ⟨c, by simp [mc], s⟩, k.pw⟩
/-- the new block is found -/
theorem Found.more {n : Nat} {a b m : List Int} {bs fs : List (List Int)} (h : Blocks n (a :: b :: bs)) (k : Found (a :: b :: bs) fs) (p : m.Perm (a ++ b)) (am : Asc m) : Found (bs ++ [m]) (fs ++ [m]) := by
  have k2 := Found.merge h k p
  have h2 := h.merge p am
  have pa : 0 < a.length := List.length_pos_iff.mpr (h.asc a (by simp)).2
  have pb : 0 < b.length := List.length_pos_iff.mpr (h.asc b (by simp)).2
  have pl := p.length_eq
  rw [List.length_append] at pl
  refine ⟨fun f mf => ?_, fun f mf => ?_, ?_⟩
  · rcases List.mem_append.mp mf with mf | mf
    · exact k.asc f mf
    · rw [List.mem_singleton] at mf
      subst mf
      exact h2.asc f (by simp)
  · rcases List.mem_append.mp mf with mf | mf
    · exact k2.sub f mf
    · rw [List.mem_singleton] at mf
      subst mf
      exact ⟨f, by simp, fun x m => m⟩
  · refine List.pairwise_append.mpr ⟨k.pw, by simp, fun f mf c mc => ?_⟩
    rw [List.mem_singleton] at mc
    subst mc
    obtain ⟨d, md, s⟩ := k.sub f mf
    have fl := nodup_len (k.asc f mf).1.nodup s
    simp only [List.mem_cons] at md
    rcases md with rfl | rfl | md
    · exact .inr (.inl ⟨fun x mx => p.symm.subset (List.mem_append_left _ (s x mx)), by omega⟩)
    · exact .inr (.inl ⟨fun x mx => p.symm.subset (List.mem_append_right _ (s x mx)), by omega⟩)
    · refine .inl fun x mx mc => ?_
      have nd := h.nodup
      simp only [List.flatten_cons] at nd
      rw [← List.append_assoc] at nd
      have := (List.nodup_append.mp nd).2.2 x (p.subset mc) x (List.mem_flatten.mpr ⟨d, md, s x mx⟩)
      exact this rfl
end GC

/-! L3: systems as laws draw them. -/
namespace FD
open PySem PySem.Spec PyProof.Rows L2
/-! ### systems -/
structure Grp where
  ms : List Int
  lo : Int
  hi : Int
structure Sys where
  items : List GC.Gs
  groups : List Grp
theorem v_max2 {a b : Int} : max2D [.int a, .int b] = some (.int (max a b), false) := by
  simp only [max2D]
  congr 3
  split <;> omega
structure Valid (s : Sys) : Prop where
  n1 : 0 < s.items.length
  n2 : s.items.length ≤ 6
  gains : ∀ g ∈ s.items, GC.Falls g ∧ g.length ≤ 5 ∧ GC.cap g ≤ 1000000000000 ∧ ∀ x ∈ g, -1000000 ≤ x.2 ∧ x.2 ≤ 1000000
  many : s.groups.length ≤ 9
  grp : ∀ g ∈ s.groups, GC.Asc g.ms ∧ g.ms ≠ [] ∧ (∀ x ∈ g.ms, 0 ≤ x ∧ x < s.items.length) ∧ 0 ≤ g.lo ∧ g.lo ≤ g.hi ∧ g.hi ≤ 6000000000000
  pw : s.groups.Pairwise fun a b => GC.Compat a.ms b.ms
theorem list_of {A : Type} (mk : A → D) {P : A → Prop} : ∀ {out : List D}, (∀ (i : Nat) v, out[i]? = some v → ∃ a, v = mk a ∧ P a) → ∃ as : List A, out = as.map mk ∧ ∀ a ∈ as, P a
  | [], _ => ⟨[], rfl, (fun _ h => by cases h)⟩
  | v :: r, h => by
    obtain ⟨a, rfl, p⟩ := h 0 v rfl
    obtain ⟨as, rfl, ps⟩ := list_of (mk := mk) (P := P) (out := r) fun i w e => h (i + 1) w e
    exact ⟨a :: as, rfl, fun x m => by rcases List.mem_cons.mp m with rfl | m; exact p; exact ps x m⟩
theorem v_sumM {A : Type} {as : List A} {h : A → Int} : sumD [.lst (as.map fun a => .int (h a))] = some (.int (as.map h).sum, false) := by
  have e : as.map (fun a => D.int (h a)) = (as.map h).map D.int := by rw [List.map_map]; rfl
  rw [e]
  exact v_sum_l
theorem getD_mem {A : Type} {as : List A} {i : Int} {z : A} (h0 : 0 ≤ i) (h1 : i < as.length) : as[i.toNat]?.getD z ∈ as := by
  obtain ⟨k, rfl⟩ := Int.eq_ofNat_of_zero_le h0
  have hk : k < as.length := by omega
  simp [hk]
theorem ord_int {B k : Nat} {i : Int} (h : i.natAbs ≤ B) : ord B k (.int i) = true := by unfold ord; exact decide_eq_true h
theorem ordA_map {A : Type} {B k : Nat} {f : A → D} {as : List A} (h : ∀ a ∈ as, ord B k (f a) = true) : ordA B k (as.map f) = true := by
  rw [ordA_iff]
  intro d m
  obtain ⟨a, ma, rfl⟩ := List.mem_map.mp m
  exact h a ma
theorem blkA_map {A : Type} {n : Nat} {f : A → D} {as : List A} (h : ∀ a ∈ as, blk (f a) ≤ n) : blkA (as.map f) ≤ (n + 1) * as.length := by
  have := blkA_le (n := n) (a := as.map f) fun d m => by
    obtain ⟨a, ma, rfl⟩ := List.mem_map.mp m
    exact h a ma
  simpa using this
end FD

/-! P1: the program's first tests of values. -/
namespace FD
open PySem PySem.Spec PyProof.Rows L2
def btwD (v : D) (a b : Int) : Bool := match v with
  | .int i => decide (a ≤ i) && decide (i ≤ b)
  | _ => false
end FD

/-! P2: prices of groups and their bounds, by the program and by laws. -/
namespace FD
open PySem PySem.Spec PyProof.Rows L2
theorem pairD_map {A B : Type} (f : A → D) (g : B → D) : ∀ (as : List A) (bs : List B), pairD (as.map f) (bs.map g) = (as.zip bs).map fun z => .tup [f z.1, g z.2]
  | [], _ => by simp [pairD]
  | _ :: _, [] => by simp [pairD]
  | a :: as, b :: bs => by simp [pairD, pairD_map f g as bs]
theorem eqB_int (a b : Int) : eqB (.int a) (.int b) = decide (a = b) := by simp [eqB, py, eqv_int]
theorem count_le : ∀ {g : GC.Gs}, GC.Falls g → ∀ {x : Int × Int}, x ∈ g → 0 < x.1 ∧ x.1 ≤ GC.cap g
  | (c, a) :: r, ⟨h1, h2, h3⟩, x, m => by
    have n := GC.cap_nonneg h3
    simp only [GC.cap]
    rcases List.mem_cons.mp m with rfl | m
    · exact ⟨h1, by dsimp only; omega⟩
    · have := count_le h3 m
      omega
/-! ### by a law -/
end FD

/-! P3: reasons and covers, by the program. -/
namespace FD
open PySem PySem.Spec PyProof.Rows L2
def grp (s : Sys) (i : Int) : Grp := s.groups[i.toNat]?.getD ⟨[], 0, 0⟩
def itm (s : Sys) (i : Int) : GC.Gs := s.items[i.toNat]?.getD []
/-- the members of the groups with these numbers -/
def memL (s : Sys) (ns : List Int) : List Int := ns.flatMap fun i => (grp s i).ms
def intsV : D → Option (List Int)
  | .tup ds => intsD ds
  | _ => none
def ascB (m : Nat) (ns : List Int) : Bool := decide (ns.Pairwise (· < ·)) && ns.all fun x => decide (0 ≤ x) && decide (x < m)
def choiceB (m : Nat) (v : D) : Bool := match intsV v with
  | some ns => ascB m ns
  | none => false
def apartB (s : Sys) (v : D) : Bool := match intsV v with
  | some ns => ascB s.groups.length ns && decide (memL s ns).Nodup
  | none => false
def offB (s : Sys) (g i : D) : Bool := match intsV g, intsV i with
  | some gs, some is => is.all fun x => !decide (x ∈ memL s gs)
  | _, _ => false
def coverB (s : Sys) (v : D) : Bool := match v with
  | .tup [g, i] => apartB s g && choiceB s.items.length i && offB s g i
  | _ => false
theorem ascB_iff {m : Nat} {ns : List Int} : ascB m ns = true ↔ ns.Pairwise (· < ·) ∧ ∀ x ∈ ns, 0 ≤ x ∧ x < m := by
  simp [ascB, List.all_eq_true]
theorem choice_tp {m : Nat} {ns : List Int} : choiceB m (tpI ns) = ascB m ns := by simp [choiceB, intsV, tpI, intsD_map]
theorem apart_tp {s : Sys} {ns : List Int} : apartB s (tpI ns) = (ascB s.groups.length ns && decide (memL s ns).Nodup) := by simp [apartB, intsV, tpI, intsD_map]
def lowOf (s : Sys) (ns : List Int) : Int := (ns.map fun i => (grp s i).lo).sum
def mostOf (s : Sys) (ns : List Int) : Int := (ns.map fun i => (grp s i).hi).sum
def capsOf (s : Sys) (is : List Int) : Int := (is.map fun i => GC.cap (itm s i)).sum
theorem cover_tp {s : Sys} {gs is : List Int} (a1 : gs.Pairwise (· < ·)) (a2 : ∀ x ∈ gs, 0 ≤ x ∧ x < s.groups.length) (a3 : (memL s gs).Nodup) (b1 : is.Pairwise (· < ·)) (b2 : ∀ x ∈ is, 0 ≤ x ∧ x < s.items.length) :
    coverB s (.tup [tpI gs, tpI is]) = is.all fun x => !decide (x ∈ memL s gs) := by
  simp only [coverB, apart_tp, choice_tp, ascB_iff.mpr ⟨a1, a2⟩, ascB_iff.mpr ⟨b1, b2⟩, decide_eq_true a3, Bool.and_self, Bool.true_and]
  simp [offB, intsV, tpI, intsD_map]
theorem v_list_tp {ns : List Int} (h : ns.length ≤ 100000) : listD [.tup (ns.map D.int)] = some (.lst (ns.map D.int), true) := by
  simp [listD]
end FD

/-! P4: plans by the program: is_plan, broken_groups, fits, gain_of. -/
namespace FD
open PySem PySem.Spec PyProof.Rows L2
/-- a plan's units, by item -/
def at_ (ns : List Int) : Int → Int := fun i => ns[i.toNat]?.getD 0
def planB (s : Sys) (v : D) : Bool := match v with
  | .tup ds => decide (ds.length = s.items.length) && (ds.zip s.items).all fun z => btwD z.1 0 (GC.cap z.2)
  | _ => false
structure PlanL (s : Sys) (ns : List Int) : Prop where
  len : ns.length = s.items.length
  rng : ∀ z ∈ ns.zip s.items, 0 ≤ z.1 ∧ z.1 ≤ GC.cap z.2
theorem zip_mapL {A B C : Type} (f : A → C) : ∀ (as : List A) (bs : List B), (as.map f).zip bs = (as.zip bs).map fun z => (f z.1, z.2)
  | [], _ => rfl
  | _ :: _, [] => rfl
  | a :: as, b :: bs => by simp only [List.map_cons, List.zip_cons_cons, zip_mapL f as bs]
theorem PlanL.ok {s : Sys} {ns : List Int} (h : PlanL s ns) : planB s (tpI ns) = true := by
  simp only [planB, tpI, List.length_map, h.len, decide_true, Bool.true_and, zip_mapL, List.all_map, List.all_eq_true]
  intro z m
  have := h.rng z m
  simp only [Function.comp, btwD, Bool.and_eq_true, decide_eq_true_eq]
  exact this
theorem PlanL.big {s : Sys} {ns : List Int} (hs : Valid s) (h : PlanL s ns) : ∀ x ∈ ns, 0 ≤ x ∧ x ≤ 1000000000000 := fun x hx => by
  obtain ⟨i, hi, rfl⟩ := List.mem_iff_getElem.mp hx
  have l := h.len
  have hz : (ns[i], s.items[i]'(by omega)) ∈ ns.zip s.items := by
    have : (ns.zip s.items)[i]'(by rw [List.length_zip]; omega) = (ns[i], s.items[i]'(by omega)) := List.getElem_zip
    rw [← this]
    exact List.getElem_mem _
  have a := h.rng _ hz
  have b := (hs.gains _ (List.getElem_mem (by omega : i < s.items.length))).2.2.1
  dsimp only at a
  omega
theorem Valid.steps {s : Sys} (hs : Valid s) {g : GC.Gs} (h : g ∈ s.items) : ∀ x ∈ g, 0 ≤ x.1 ∧ x.1 ≤ 1000000000000 ∧ -1000000 ≤ x.2 ∧ x.2 ≤ 1000000 := fun x hx => by
  have hg := hs.gains g h
  have a := count_le hg.1 hx
  have b := hg.2.2.1
  have c := hg.2.2.2 x hx
  omega
end FD

/-! Q1: the parts of a system: how they are built, what they tell. -/
namespace FD
open GC
def itemP (s : Sys) (i : Int) : Part := .mk none [i] 0 (cap (itm s i)) [] [] [i] []
mutual
def depP : Part → Nat
  | .mk _ _ _ _ _ _ _ ins => 1 + depsP ins
def depsP : List Part → Nat
  | [] => 0
  | p :: ps => max (depP p) (depsP ps)
end
/-! ### lists of parts -/
theorem goods_all {it : Int → Gs} : ∀ {ps : List Part}, Goods it ps ↔ ∀ p ∈ ps, Good it p
  | [] => by simp [Goods]
  | p :: ps => by simp [Goods, goods_all (ps := ps)]
/-! ### what is true of a part -/
structure PartOk (s : Sys) (done : List Int) (p : Part) : Prop where
  good : Good (itm s) p
  ne : p.ms ≠ []
  kind : (∃ i, p = itemP s i) ∨ ∃ k ∈ done, p.ms.Perm (grp s k).ms
  dep : depP p ≤ p.ms.length + 1
  rs1 : ∀ k ∈ p.rs, k ∈ done
  rs2 : (memL s p.rs).Nodup
  rs3 : ∀ i ∈ memL s p.rs, i ∈ p.ms
  rs4 : lowOf s p.rs = p.lo
  cg1 : ∀ k ∈ p.cg, k ∈ done
  cov : (memL s p.cg ++ p.ci).Perm p.ms
  cb : mostOf s p.cg + capsOf s p.ci = p.hi
theorem PartOk.more {s : Sys} {a b : List Int} {p : Part} (h : PartOk s a p) (sub : ∀ k ∈ a, k ∈ b) : PartOk s b p :=
  { h with kind := h.kind.imp id fun ⟨k, m, q⟩ => ⟨k, sub k m, q⟩, rs1 := fun k m => sub k (h.rs1 k m), cg1 := fun k m => sub k (h.cg1 k m) }
/-! ### a group's part -/
/-! ### the parts so far -/
def keeps (s : Sys) (x : Int → Int) (ks : List Int) : Prop := ∀ k ∈ ks, (grp s k).lo ≤ S x (grp s k).ms ∧ S x (grp s k).ms ≤ (grp s k).hi
end FD

/-! Q2: the part of all items: what it tells of plans that fit. -/
namespace FD
open GC
def lenG (s : Sys) (k : Int) : Int := ((grp s k).ms.length : Nat)
/-- the groups' numbers, the smaller ones first -/
def order (s : Sys) : List Int := (sortK (((rangeI s.groups.length).map (lenG s)).zip (rangeI s.groups.length))).map (·.2)
/-! ### plans -/
end FD

/-! L4: reasons and covers, by laws. -/
namespace FD
open PySem PySem.Spec PyProof.Rows L2
structure ApartL (s : Sys) (gs : List Int) : Prop where
  asc : gs.Pairwise (· < ·)
  rng : ∀ x ∈ gs, 0 ≤ x ∧ x < s.groups.length
  nd : (memL s gs).Nodup
theorem ApartL.ok {s : Sys} {gs : List Int} (h : ApartL s gs) : apartB s (tpI gs) = true := by
  rw [apart_tp, ascB_iff.mpr ⟨h.asc, h.rng⟩, decide_eq_true h.nd]
  rfl
structure CoverL (s : Sys) (gs is : List Int) : Prop where
  ap : ApartL s gs
  asc : is.Pairwise (· < ·)
  rng : ∀ x ∈ is, 0 ≤ x ∧ x < s.items.length
  off : ∀ x ∈ is, x ∉ memL s gs
theorem CoverL.ok {s : Sys} {gs is : List Int} (h : CoverL s gs is) : coverB s (.tup [tpI gs, tpI is]) = true := by
  rw [cover_tp h.ap.asc h.ap.rng h.ap.nd h.asc h.rng, List.all_eq_true]
  intro x hx
  simpa using h.off x hx
end FD

/-! P6: parts by the program. -/
namespace FD
open PySem PySem.Spec PyProof.Rows L2
section
variable {T : Type} {n ms lo hi rs cg ci ins d : D} {τ : List Sl} {i : Nat} {t : T}
end
end FD

/-! R0: curves, spans, best plans: the program's functions. -/
namespace FD
open PySem PySem.Spec PyProof.Rows L2
end FD

/-! T6: the ranges of items in spans, the first plan. -/
namespace GC
def smsOf : List Span → List Int
  | [] => []
  | s :: ss => s.ms ++ smsOf ss
mutual
def SGood : Span → Prop
  | .mk _ ms _ _ _ ins => ms.Nodup ∧ (ins = [] → ∃ i, ms = [i]) ∧ (ins ≠ [] → ms = smsOf ins) ∧ SGoods ins
def SGoods : List Span → Prop
  | [] => True
  | s :: ss => SGood s ∧ SGoods ss
end
theorem sgoods_all : ∀ {ss : List Span}, SGoods ss ↔ ∀ s ∈ ss, SGood s
  | [] => by simp [SGoods]
  | s :: ss => by simp [SGoods, sgoods_all (ss := ss)]
theorem mem_smsOf {i : Int} : ∀ {ss : List Span}, i ∈ smsOf ss ↔ ∃ s ∈ ss, i ∈ s.ms
  | [] => by simp [smsOf]
  | s :: ss => by simp [smsOf, mem_smsOf (ss := ss)]
theorem Holds.congr' {x y : Int → Int} (n : Nat) : (∀ s : Span, sizeOf s < n → SGood s → (∀ i ∈ s.ms, x i = y i) → Holds x s → Holds y s) ∧ (∀ ss : List Span, sizeOf ss < n → SGoods ss → (∀ i ∈ smsOf ss, x i = y i) → HoldsAll x ss → HoldsAll y ss) := by
  induction n with
  | zero => exact ⟨fun _ h => by omega, fun _ h => by omega⟩
  | succ n ih =>
    constructor
    · intro s hn g e f
      cases s with
      | mk a ms lo hi p ins =>
        unfold SGood at g
        unfold Holds at f ⊢
        simp only [Span.ms] at e
        refine ⟨by rw [← S_congr e]; exact f.1, ?_⟩
        cases ins with
        | nil => unfold HoldsAll; trivial
        | cons q qs =>
          have g1 := g.2.2.1 (by simp)
          exact ih.2 _ (by simp at hn ⊢; omega) g.2.2.2 (fun i m => e i (by rw [g1]; exact m)) f.2
    · intro ss hn g e f
      cases ss with
      | nil => unfold HoldsAll; trivial
      | cons p ps =>
        unfold SGoods at g
        unfold HoldsAll at f ⊢
        have hp : 0 < sizeOf ps := by cases ps <;> simp <;> omega
        exact ⟨ih.1 p (by simp at hn; omega) g.1 (fun i m => e i (by simp [smsOf, m])) f.1, ih.2 ps (by simp at hn; omega) g.2 (fun i m => e i (by simp [smsOf, m])) f.2⟩
theorem Holds.congr {x y : Int → Int} {s : Span} (g : SGood s) (e : ∀ i ∈ s.ms, x i = y i) (f : Holds x s) : Holds y s := (Holds.congr' (sizeOf s + 1)).1 s (by omega) g e f
theorem HoldsAll.congr {x y : Int → Int} {s : List Span} (g : SGoods s) (e : ∀ i ∈ smsOf s, x i = y i) (f : HoldsAll x s) : HoldsAll y s := (Holds.congr' (sizeOf s + 1)).2 s (by omega) g e f
/-! ### sums, given the first units -/
mutual
def sums (n : Int) (f : Int → Int) : Span → Int × Int
  | .mk _ ms lo hi _ ins => if ins.isEmpty then (if ms.headD 0 < n then (f (ms.headD 0), f (ms.headD 0)) else (lo, hi)) else (max lo (sumsAll n f ins).1, min hi (sumsAll n f ins).2)
def sumsAll (n : Int) (f : Int → Int) : List Span → Int × Int
  | [] => (0, 0)
  | s :: ss => ((sums n f s).1 + (sumsAll n f ss).1, (sums n f s).2 + (sumsAll n f ss).2)
end
/-- x begins with the units f -/
def Beg (n : Int) (f x : Int → Int) (ms : List Int) : Prop := ∀ i ∈ ms, i < n → x i = f i
theorem Beg.congr {n : Int} {f x y : Int → Int} {ms : List Int} (e : ∀ i ∈ ms, x i = y i) (h : Beg n f x ms) : Beg n f y ms := fun i m l => by rw [← e i m]; exact h i m l
theorem Beg.sub {n : Int} {f x : Int → Int} {ms ns : List Int} (h : Beg n f x ms) (s : ∀ i ∈ ns, i ∈ ms) : Beg n f x ns := fun i m l => h i (s i m) l
/-! ### the range of an item -/
def others (i : Int) (ss : List Span) : List Span := ss.filter fun s => decide (i ∉ s.ms)
mutual
def rng (n : Int) (f : Int → Int) (i : Int) : Span → Int → Int → Int × Int
  | .mk _ _ _ _ _ ins, l, h => if ins.isEmpty then (l, h) else rngL n f i ins (l - (sumsAll n f (others i ins)).2) (h - (sumsAll n f (others i ins)).1)
def rngL (n : Int) (f : Int → Int) (i : Int) : List Span → Int → Int → Int × Int
  | [], l, h => (l, h)
  | s :: ss, l, h => if i ∈ s.ms then rng n f i s (max s.lo l) (min s.hi h) else rngL n f i ss l h
end
/-- the range of an item in all that the span holds for -/
def range (n : Int) (f : Int → Int) (i : Int) (s : Span) : Int × Int := rng n f i s s.lo s.hi
/-! ### the spans of parts -/
end GC

/-! T7: the first plan in tuple order. -/
namespace GC
end GC

/-! R1: steps: counted, cut, joined. -/
namespace FD
open PySem PySem.Spec PyProof.Rows L2
/-! ### steps joined -/
end FD

/-! P7: plans with a total, certificates, by the program. -/
namespace FD
open PySem PySem.Spec PyProof.Rows L2
/-! ### numbers with a sum -/
/-! ### the shares of a part -/
end FD

/-! P8: shares of a part, plans with a total, certificates. -/
namespace FD
open PySem PySem.Spec PyProof.Rows L2
theorem ms_sub {q : GC.Part} : ∀ {ps : List GC.Part}, q ∈ ps → q.ms.length ≤ (GC.msOf ps).length
  | [], h => by cases h
  | p :: ps, h => by
    rw [GC.msOf, List.length_append]
    rcases List.mem_cons.mp h with rfl | h
    · omega
    · have := ms_sub h
      omega
end FD

/-! R2: curves of parts. -/
namespace FD
open PySem PySem.Spec PyProof.Rows L2
/-- what is known of the items of a part -/
def PIn (s : Sys) (p : GC.Part) : Prop := ∀ i ∈ p.ms, 0 ≤ i ∧ i < s.items.length
/-! ### the program's curves -/
end FD

/-! R3: spans of parts. -/
namespace FD
open PySem PySem.Spec PyProof.Rows L2
section
variable {T : Type} {n ms lo hi pr ins d rs cg ci : D} {i : Nat} {τ : List Sl} {t : T}
end
/-- what is known of a part of a system -/
structure PK (s : Sys) (p : GC.Part) : Prop where
  good : GC.Good (itm s) p
  pin : PIn s p
  six : p.ms.length ≤ 6
theorem PK.sub {s : Sys} {n : Option Int} {ms : List Int} {lo hi : Int} {rs cg ci : List Int} {ps : List GC.Part} (h : PK s (.mk n ms lo hi rs cg ci ps)) {q : GC.Part} (m : q ∈ ps) : PK s q := by
  obtain ⟨g, hp, l⟩ := h
  unfold GC.Good at g
  obtain ⟨_, _, _, h2, gs⟩ := g
  obtain ⟨em, _⟩ := h2 (by intro z; rw [z] at m; cases m)
  have d2 := ms_sub m
  simp only [GC.Part.ms] at l
  exact ⟨goods_all.mp gs _ m, fun i mi => hp i (by show i ∈ ms; rw [em]; exact GC.mem_msOf.mpr ⟨q, m, mi⟩), by rw [em] at l; omega⟩
end FD

/-! R4: sums, ranges of items, first plans. -/
namespace FD
open PySem PySem.Spec PyProof.Rows L2
open GC in
theorem sgood_ne : ∀ (s : Span), SGood s → s.ms ≠ []
  | .mk n ms lo hi pr [], h => by
    unfold SGood at h
    obtain ⟨i, rfl⟩ := h.2.1 rfl
    simp [Span.ms]
  | .mk n ms lo hi pr (q :: qs), h => by
    unfold SGood at h
    obtain ⟨_, _, h2, gs⟩ := h
    have e := h2 (by simp)
    have := sgood_ne q (sgoods_all.mp gs q (by simp))
    simp only [Span.ms, e, smsOf]
    exact fun z => this (List.append_eq_nil_iff.mp z).1
theorem sms_sub {q : GC.Span} : ∀ {ps : List GC.Span}, q ∈ ps → q.ms.length ≤ (GC.smsOf ps).length
  | [], h => by cases h
  | p :: ps, h => by
    rw [GC.smsOf, List.length_append]
    rcases List.mem_cons.mp h with rfl | h
    · omega
    · have := sms_sub h
      omega
theorem smsOf_ge : ∀ {ps : List GC.Span}, (∀ p ∈ ps, p.ms ≠ []) → ps.length ≤ (GC.smsOf ps).length
  | [], _ => Nat.le_refl _
  | p :: ps, h => by
    have ih := smsOf_ge (ps := ps) fun q m => h q (List.mem_cons_of_mem _ m)
    have : 0 < p.ms.length := List.length_pos_iff.mpr (h p (List.mem_cons_self ..))
    rw [GC.smsOf, List.length_append, List.length_cons]
    omega
structure SK (s : GC.Span) : Prop where
  good : GC.SGood s
  pos : ∀ i ∈ s.ms, 0 ≤ i
  six : s.ms.length ≤ 6
theorem SK.sub {n : Option Int} {ms : List Int} {lo hi pr : Int} {ss : List GC.Span} (h : SK (.mk n ms lo hi pr ss)) {q : GC.Span} (m : q ∈ ss) : SK q := by
  obtain ⟨g, hp, l⟩ := h
  unfold GC.SGood at g
  obtain ⟨_, _, h2, gs⟩ := g
  have em := h2 (by intro z; rw [z] at m; cases m)
  have d2 := sms_sub m
  simp only [GC.Span.ms] at l hp
  rw [em] at l hp
  exact ⟨GC.sgoods_all.mp gs _ m, fun i mi => hp i (GC.mem_smsOf.mpr ⟨q, m, mi⟩), by omega⟩
theorem SK.few {n : Option Int} {ms : List Int} {lo hi pr : Int} {ss : List GC.Span} (h : SK (.mk n ms lo hi pr ss)) : ss.length ≤ 6 := by
  obtain ⟨g, hp, l⟩ := h
  unfold GC.SGood at g
  obtain ⟨_, _, h2, gs⟩ := g
  cases ss with
  | nil => simp
  | cons a r =>
    have em := h2 (by simp)
    have := smsOf_ge fun p m => sgood_ne p (GC.sgoods_all.mp gs p m)
    simp only [GC.Span.ms] at l
    rw [em] at l
    omega
/-! ### first plans -/
end FD

/-! P9: plans with a total and certificates, as data. -/
namespace FD
open PySem PySem.Spec PyProof.Rows L2
end FD

/-! R5: best plans of systems, gains for totals. -/
namespace FD
open PySem PySem.Spec PyProof.Rows L2
/-! ### the program -/
/-! ### totals -/
end FD

/-! PA: contradictions, by the program. -/
namespace FD
open PySem PySem.Spec PyProof.Rows L2
end FD

/-! L5: plans by the laws. -/
namespace FD
open PySem PySem.Spec PyProof.Rows L2
end FD

/-! PB: certificates judged, by the program. -/
namespace FD
open PySem PySem.Spec PyProof.Rows L2
end FD

/-! L6: contradictions and strained systems, by laws. -/
namespace FD
open PySem PySem.Spec PyProof.Rows L2
end FD

/-! L7: sizes of the values that laws draw. -/
namespace FD
open PySem PySem.Spec PyProof.Rows L2
end FD

/-! L8: certificates judged, exchanges, by laws. -/
namespace FD
open PySem PySem.Spec PyProof.Rows L2
/-! ### exchanges -/
inductive Exch where
  | more (k : Nat) | less (k : Nat) | move (k j : Nat)
def Exch.inn (n : Nat) : Exch → Prop
  | .more k => k < n
  | .less k => k < n
  | .move k j => k < n ∧ j < n
def stepL (ns : List Int) (k : Nat) (d : Int) : List Int := ns.set k (ns[k]?.getD 0 + d)
def movL (ns : List Int) : Exch → List Int
  | .more k => stepL ns k 1
  | .less k => stepL ns k (-1)
  | .move k j => stepL (stepL ns k (-1)) j 1
theorem ix_int {ns : List Int} {k : Nat} (h : k < ns.length) : ixD (.lst (ns.map D.int)) (.int (k : Nat)) = some (.int (ns[k]?.getD 0), false) := v_ix_l (atI_map (by omega) (by omega))
theorem stepL_len {ns : List Int} {k : Nat} {d : Int} : (stepL ns k d).length = ns.length := by simp [stepL]
def exs : Nat → Nat → List Exch
  | 0, n => (List.range n).map .more
  | 1, n => (List.range n).map .less
  | _, n => (List.range n).flatMap fun k => ((List.range n).filter fun j => decide (k ≠ j)).map (.move k)
theorem exs_inn {w n : Nat} : ∀ e ∈ exs w n, e.inn n := fun e h => by
  match w with
  | 0 =>
    obtain ⟨k, m, rfl⟩ := List.mem_map.mp h
    exact List.mem_range.mp m
  | 1 =>
    obtain ⟨k, m, rfl⟩ := List.mem_map.mp h
    exact List.mem_range.mp m
  | w + 2 =>
    obtain ⟨k, m, h⟩ := List.mem_flatMap.mp h
    obtain ⟨j, m2, rfl⟩ := List.mem_map.mp h
    exact ⟨List.mem_range.mp m, List.mem_range.mp (List.mem_filter.mp m2).1⟩
end FD

/-! LM: whether a plan is best, by the laws' own look at all exchanges. -/
namespace FD
open PySem PySem.Spec PyProof.Rows L2
end FD

/-! L9: the span of totals, by laws. -/
namespace FD
open PySem PySem.Spec PyProof.Rows L2
/-! ### intervals that are reached -/
/-! ### groups inside -/
/-- the plan keeps what is said about some items -/
structure FitIn (s : Sys) (x : Int → Int) (ms : List Int) : Prop where
  rng : ∀ i ∈ ms, 0 ≤ x i ∧ x i ≤ GC.cap (itm s i)
  keeps : ∀ g ∈ s.groups, (∀ i ∈ g.ms, i ∈ ms) → g.lo ≤ GC.S x g.ms ∧ GC.S x g.ms ≤ g.hi
theorem FitIn.congr {s : Sys} {x y : Int → Int} {ms : List Int} (h : FitIn s x ms) (e : ∀ i ∈ ms, x i = y i) : FitIn s y ms :=
  ⟨fun i m => by rw [← e i m]; exact h.rng i m, fun g mg sub => by rw [← GC.S_congr fun i m => e i (sub i m)]; exact h.keeps g mg sub⟩
theorem FitIn.sub {s : Sys} {x : Int → Int} {ms ns : List Int} (h : FitIn s x ms) (e : ∀ i ∈ ns, i ∈ ms) : FitIn s x ns :=
  ⟨fun i m => h.rng i (e i m), fun g mg sub => h.keeps g mg fun i m => e i (sub i m)⟩
end FD

/-! LA: certificates are right. -/
namespace FD
open PySem PySem.Spec PyProof.Rows L2
end FD

/-! LN: first best plans stand firm; equal data are equal. -/
namespace FD
open PySem PySem.Spec PyProof.Rows L2
theorem okAll_all {n : Nat} : ∀ {ds : List D}, okAll n ds = true ↔ ∀ d ∈ ds, okD n d = true
  | [] => by simp [okAll]
  | d :: ds => by simp [okAll, okAll_all (ds := ds)]
theorem okD_tpI {n : Nat} {ns : List Int} : okD (n + 1) (tpI ns) = true := by
  show okAll n (ns.map D.int) = true
  exact okAll_all.mpr fun d m => by
    obtain ⟨a, _, rfl⟩ := List.mem_map.mp m
    simp [okD]
/-! ### tuple order -/
end FD

/-! T8: exchanges between two that fit; who gains less than another has an exchange that gains. -/
namespace GC
def bump (x : Int → Int) (i d : Int) : Int → Int := fun j => if j = i then x j + d else x j
/-- i has one unit less, j one more -/
def shift (x : Int → Int) (i j : Int) : Int → Int := bump (bump x i (-1)) j 1
/-! ### gains -/
theorem unit_diff {g : Gs} (h : Falls g) {u : Int} (h0 : 0 ≤ u) (h1 : u < cap g) : fst' g (u + 1) - fst' g u = unit g u := by
  obtain ⟨_, a, b⟩ := unit_ok h h0 h1
  rw [fst_eq h (unit g u) u h0 (by omega) b (by omega), fst_eq h (unit g u) (u + 1) (by omega) (by omega) (by omega) (by omega)]
  have : unit g u * (u + 1) = unit g u * u + unit g u := by rw [Int.mul_add, Int.mul_one]
  omega
theorem unit_falls {g : Gs} (h : Falls g) {u v : Int} (h0 : 0 ≤ u) (h1 : u ≤ v) (h2 : v < cap g) : unit g v ≤ unit g u := by
  obtain ⟨_, a1, b1⟩ := unit_ok h h0 (by omega : u < cap g)
  obtain ⟨_, a2, b2⟩ := unit_ok h (by omega : 0 ≤ v) h2
  by_cases c : unit g v ≤ unit g u
  · exact c
  · have := from_anti h (p := unit g u + 1) (q := unit g v) (by omega)
    omega
/-- nearer to one another, no less is gained together -/
theorem near {g : Gs} (h : Falls g) {u v : Int} (h0 : 0 ≤ u) (h1 : u < v) (h2 : v ≤ cap g) : fst' g u + fst' g v ≤ fst' g (u + 1) + fst' g (v - 1) := by
  have a := unit_diff h h0 (by omega : u < cap g)
  have b := unit_diff h (by omega : 0 ≤ v - 1) (by omega : v - 1 < cap g)
  have c := unit_falls h h0 (by omega : u ≤ v - 1) (by omega : v - 1 < cap g)
  rw [show v - 1 + 1 = v by omega] at b
  omega
/-! ### the distance -/
/-- an exchange: less of i, more of j -/
inductive Ex where
  | more (j : Int) | less (i : Int) | move (i j : Int)
def Ex.go (x : Int → Int) : Ex → Int → Int
  | .more j => bump x j 1
  | .less i => bump x i (-1)
  | .move i j => shift x i j
def Ex.inn (ms : List Int) : Ex → Prop
  | .more j => j ∈ ms
  | .less i => i ∈ ms
  | .move i j => i ∈ ms ∧ j ∈ ms ∧ i ≠ j
/-! ### parts as spans -/
mutual
def toS : Part → Span
  | .mk n ms lo hi _ _ _ ins => .mk n ms lo hi 0 (toSs ins)
def toSs : List Part → List Span
  | [] => []
  | p :: ps => toS p :: toSs ps
end
end GC

/-! LO: a plan that gains less than another has an exchange that gains; drawn exchanges. -/
namespace FD
open PySem PySem.Spec PyProof.Rows L2
theorem sum_set : ∀ {ns : List Int} {k : Nat} {x : Int}, k < ns.length → (ns.set k x).sum = ns.sum + (x - ns[k]?.getD 0)
  | [], _, _, h => by simp at h
  | a :: r, 0, x, _ => by simp; omega
  | a :: r, k + 1, x, h => by
    have := sum_set (ns := r) (k := k) (x := x) (by simpa using h)
    simp only [List.set_cons_succ, List.sum_cons, List.getElem?_cons_succ, this]
    omega
end FD

/-! LE: exchanges, by the program and by laws. -/
namespace FD
open PySem PySem.Spec PyProof.Rows L2
/-! ### what an exchange is -/
/-! ### is_exchange -/
/-! ### plan_after -/
/-! ### what an exchange leads to -/
/-! ### the law's own look -/
end FD

/-! RA: distances, exchanges that near, ways between best plans. -/
namespace FD
open PySem PySem.Spec PyProof.Rows L2
noncomputable def fb_distance {T : Type} : SF T := (seqF (setF 2 (callF sumD (consA (lcF [] [4, 5] (callI zipD (consA (varF 0) (consA (varF 1) nilA))) (tupG 2 (consG (nameG 4) (consG (nameG 5) nilG))) (binF gtD (varF 5) (varF 4)) (binF subD (varF 5) (varF 4))) nilA)))
  (seqF (setF 3 (callF sumD (consA (lcF [] [4, 5] (callI zipD (consA (varF 0) (consA (varF 1) nilA))) (tupG 2 (consG (nameG 4) (consG (nameG 5) nilG))) (binF ltD (varF 5) (varF 4)) (binF subD (varF 4) (varF 5))) nilA)))
  (retF (callF max2D (consA (varF 2) (consA (varF 3) nilA))))))
noncomputable def FF_distance {T : Type} : FF T := runF 6 2 fb_distance
theorem len_distance {T : Type} {ds : List D} {t : T} {o : FOut × T} (h : FF_distance ds t = some o) : ds.length = 2 := runF_len h

/-! ### distances -/
def f1 (x y : Int) : Int := if x < y then y - x else 0
def f2 (x y : Int) : Int := if y < x then x - y else 0
def sumW (f : Int → Int → Int) (a b : List Int) : Int := (List.zipWith f a b).sum
def distL (a b : List Int) : Int := max (sumW f1 a b) (sumW f2 a b)
theorem zipW_set {f : Int → Int → Int} : ∀ {a b : List Int} {k : Nat} {x : Int}, k < a.length → a.length = b.length → List.zipWith f (a.set k x) b = (List.zipWith f a b).set k (f x (b[k]?.getD 0))
  | [], _, _, _, h, _ => by simp at h
  | _ :: _, [], _, _, _, h => by simp at h
  | u :: a, v :: b, 0, x, _, _ => by simp
  | u :: a, v :: b, k + 1, x, h, l => by
    have := zipW_set (f := f) (a := a) (b := b) (k := k) (x := x) (by simpa using h) (by simpa using l)
    simp only [List.set_cons_succ, List.zipWith_cons_cons, this, List.getElem?_cons_succ]
theorem zipW_get {f : Int → Int → Int} : ∀ {a b : List Int} {k : Nat}, k < a.length → a.length = b.length → (List.zipWith f a b)[k]?.getD 0 = f (a[k]?.getD 0) (b[k]?.getD 0)
  | [], _, _, h, _ => by simp at h
  | _ :: _, [], _, _, h => by simp at h
  | u :: a, v :: b, 0, _, _ => by simp
  | u :: a, v :: b, k + 1, h, l => by
    have := zipW_get (f := f) (a := a) (b := b) (k := k) (by simpa using h) (by simpa using l)
    simpa using this
theorem sumW_step {f : Int → Int → Int} {a b : List Int} {k : Nat} {d : Int} (h : k < a.length) (l : a.length = b.length) : sumW f (stepL a k d) b = sumW f a b + (f (a[k]?.getD 0 + d) (b[k]?.getD 0) - f (a[k]?.getD 0) (b[k]?.getD 0)) := by
  unfold sumW stepL
  rw [zipW_set h l, sum_set (by rw [List.length_zipWith]; omega), zipW_get h l]
theorem sumW_diff : ∀ {a b : List Int}, a.length = b.length → sumW f2 a b - sumW f1 a b = a.sum - b.sum
  | [], [], _ => rfl
  | [], _ :: _, h => by simp at h
  | _ :: _, [], h => by simp at h
  | x :: a, y :: b, h => by
    have ih := sumW_diff (a := a) (b := b) (by simpa using h)
    simp only [sumW, List.zipWith_cons_cons, List.sum_cons] at ih ⊢
    have : f2 x y - f1 x y = x - y := by
      unfold f1 f2
      split <;> split <;> omega
    omega
theorem f_nonneg (x y : Int) : 0 ≤ f1 x y ∧ 0 ≤ f2 x y := by
  unfold f1 f2
  constructor <;> split <;> omega
theorem sumW_nonneg : ∀ {a b : List Int}, 0 ≤ sumW f1 a b ∧ 0 ≤ sumW f2 a b
  | [], _ => by simp [sumW]
  | _ :: _, [] => by simp [sumW]
  | x :: a, y :: b => by
    have ih := sumW_nonneg (a := a) (b := b)
    have := f_nonneg x y
    simp only [sumW, List.zipWith_cons_cons, List.sum_cons] at ih ⊢
    omega
theorem distL_nonneg {a b : List Int} : 0 ≤ distL a b := by
  have := sumW_nonneg (a := a) (b := b)
  unfold distL
  omega
theorem distL_zero : ∀ {a b : List Int}, a.length = b.length → distL a b = 0 → a = b
  | [], [], _, _ => rfl
  | [], _ :: _, h, _ => by simp at h
  | _ :: _, [], h, _ => by simp at h
  | x :: a, y :: b, h, z => by
    have n := sumW_nonneg (a := a) (b := b)
    have g := f_nonneg x y
    unfold distL sumW at z
    simp only [List.zipWith_cons_cons, List.sum_cons] at z
    unfold sumW at n
    have ih := distL_zero (a := a) (b := b) (by simpa using h) (by unfold distL sumW; omega)
    have : x = y := by
      have a1 : f1 x y = 0 := by omega
      have a2 : f2 x y = 0 := by omega
      unfold f1 at a1
      unfold f2 at a2
      split at a1 <;> split at a2 <;> omega
    rw [this, ih]
/-- what nears -/
def dnL (a b : List Int) : List Nat := (List.range a.length).filter fun i => decide (b[i]?.getD 0 < a[i]?.getD 0)
def upL (a b : List Int) : List Nat := (List.range a.length).filter fun i => decide (a[i]?.getD 0 < b[i]?.getD 0)
def nearL (a b : List Int) : List Exch := (dnL a b).flatMap (fun i => (upL a b).map (.move i)) ++ ((if b.sum < a.sum then (dnL a b).map .less else []) ++ if a.sum < b.sum then (upL a b).map .more else [])
theorem mem_dnL {a b : List Int} {i : Nat} : i ∈ dnL a b ↔ i < a.length ∧ b[i]?.getD 0 < a[i]?.getD 0 := by simp [dnL]
theorem mem_upL {a b : List Int} {i : Nat} : i ∈ upL a b ↔ i < a.length ∧ a[i]?.getD 0 < b[i]?.getD 0 := by simp [upL]
theorem mem_nearL {a b : List Int} {e : Exch} : e ∈ nearL a b ↔ match e with
    | .move i j => i ∈ dnL a b ∧ j ∈ upL a b
    | .less i => b.sum < a.sum ∧ i ∈ dnL a b
    | .more j => a.sum < b.sum ∧ j ∈ upL a b := by
  unfold nearL
  by_cases c : b.sum < a.sum
  · rw [if_pos c, if_neg (by omega)]
    cases e <;> simp [c] <;> omega
  · rw [if_neg c]
    by_cases d : a.sum < b.sum
    · rw [if_pos d]
      cases e <;> simp [c, d]
    · rw [if_neg d]
      cases e <;> simp [c, d]
/-- how both sums change -/
theorem near_sums {a b : List Int} {e : Exch} (l : a.length = b.length) (h : e ∈ nearL a b) : sumW f1 (movL a e) b = sumW f1 a b - (match e with | .less _ => 0 | _ => 1) ∧ sumW f2 (movL a e) b = sumW f2 a b - (match e with | .more _ => 0 | _ => 1) := by
  have m := mem_nearL.mp h
  have dn : ∀ {c : List Int} {i : Nat}, c.length = b.length → i < c.length → b[i]?.getD 0 < c[i]?.getD 0 → sumW f1 (stepL c i (-1)) b = sumW f1 c b ∧ sumW f2 (stepL c i (-1)) b = sumW f2 c b - 1 := fun {c i} lc hi lt => by
    rw [sumW_step hi lc, sumW_step hi lc]
    unfold f1 f2
    constructor
    · rw [if_neg (by omega), if_neg (by omega)]
      omega
    · by_cases q : b[i]?.getD 0 < c[i]?.getD 0 + -1
      · rw [if_pos q, if_pos lt]
        omega
      · rw [if_neg q, if_pos lt]
        omega
  have up : ∀ {c : List Int} {i : Nat}, c.length = b.length → i < c.length → c[i]?.getD 0 < b[i]?.getD 0 → sumW f1 (stepL c i 1) b = sumW f1 c b - 1 ∧ sumW f2 (stepL c i 1) b = sumW f2 c b := fun {c i} lc hi lt => by
    rw [sumW_step hi lc, sumW_step hi lc]
    unfold f1 f2
    constructor
    · by_cases q : c[i]?.getD 0 + 1 < b[i]?.getD 0
      · rw [if_pos q, if_pos lt]
        omega
      · rw [if_neg q, if_pos lt]
        omega
    · rw [if_neg (by omega), if_neg (by omega)]
      omega
  cases e with
  | more j =>
    obtain ⟨h1, h2⟩ := mem_upL.mp m.2
    have := up l h1 h2
    simp only [movL]
    omega
  | less i =>
    obtain ⟨h1, h2⟩ := mem_dnL.mp m.2
    have := dn l h1 h2
    simp only [movL]
    omega
  | move i j =>
    obtain ⟨h1, h2⟩ := mem_dnL.mp m.1
    obtain ⟨h3, h4⟩ := mem_upL.mp m.2
    have a1 := dn l h1 h2
    have ne : i ≠ j := fun z => by subst z; omega
    have e2 : (stepL a i (-1))[j]?.getD 0 = a[j]?.getD 0 := by
      unfold stepL
      rw [List.getElem?_set_ne ne]
    have a2 := up (c := stepL a i (-1)) (i := j) (by rw [stepL_len]; exact l) (by rw [stepL_len]; exact h3) (by rw [e2]; exact h4)
    simp only [movL]
    omega
theorem near_dist {a b : List Int} {e : Exch} (l : a.length = b.length) (h : e ∈ nearL a b) : distL (movL a e) b = distL a b - 1 := by
  obtain ⟨s1, s2⟩ := near_sums l h
  have m := mem_nearL.mp h
  have d := sumW_diff l
  unfold distL
  cases e with
  | more j =>
    have := m.1
    simp only at s1 s2
    omega
  | less i =>
    have := m.1
    simp only at s1 s2
    omega
  | move i j =>
    simp only at s1 s2
    omega
/-! ### the program -/
theorem fil_sumA {A : Type} (c : A → Bool) (f : A → Int) : ∀ l : List A, ((l.filter c).map f).sum = (l.map fun a => if c a = true then f a else 0).sum
  | [] => rfl
  | a :: l => by
    have ih := fil_sumA c f l
    cases e : c a with
    | true => rw [List.filter_cons_of_pos e]; simp [ih, e]
    | false => rw [List.filter_cons_of_neg (by simp [e])]; simp [ih, e]
theorem distance_eq {T : Type} {a b : List Int} {t : T} (ha : a.length ≤ 100) (hb : b.length ≤ 100) : FF_distance [tpI a, tpI b] t = some (.ok (.int (distL a b)) false, t) := by
  have zl : (a.zip b).length ≤ 100 := by rw [List.length_zip]; omega
  have s1 : (((a.zip b).filter fun z => decide (z.1 < z.2)).map fun z => z.2 - z.1).sum = sumW f1 a b := by
    rw [fil_sumA]
    unfold sumW
    rw [← List.map_uncurry_zip_eq_zipWith]
    congr 1
    exact List.map_congr_left fun z _ => by simp [f1, Function.uncurry]
  have s2 : (((a.zip b).filter fun z => decide (z.2 < z.1)).map fun z => z.1 - z.2).sum = sumW f2 a b := by
    rw [fil_sumA]
    unfold sumW
    rw [← List.map_uncurry_zip_eq_zipWith]
    congr 1
    exact List.map_congr_left fun z _ => by simp [f2, Function.uncurry]
  refine w_eq ?_
  have pe : pairD (a.map D.int) (b.map D.int) = (a.zip b).map fun z => .tup [.int z.1, .int z.2] := pairD_map ..
  unfold FF_distance fb_distance
  simp only [fdA, List.map_cons, List.map_nil, List.length_cons, List.length_nil, List.cons_append, List.nil_append, List.replicate_succ, List.replicate_zero, Nat.zero_add, Nat.reduceAdd, Nat.reduceSub, Nat.sub_self, if_true, if_false, Bool.false_eq_true, Bool.not_true, Bool.not_false, reduceCtorEq, ite_true, ite_false, List.getElem?_cons_zero, List.getElem?_cons_succ, List.set_cons_zero, List.set_cons_succ, LEN, Nat.reduceLeDiff, Option.map_some, fvA, List.length_map, List.length_set, decide_true, decide_false, fhA, List.mem_cons, List.not_mem_nil, or_false, or_true, Nat.reduceEqDiff, Nat.succ_ne_self, fxA, fwA, fyA, and_true, true_and, imp_self, true_imp_iff, false_imp_iff, implies_true, fzA, fzW, tpI, pe]
  refine ⟨by omega, w_fm (a.zip b) (fun z => .tup [.int z.1, .int z.2]) rfl (fun z => decide (z.1 < z.2)) (fun z => .int (z.2 - z.1)) (fun z _ => ?_) ?_⟩
  · simp only [fdA, List.map_cons, List.map_nil, List.length_cons, List.length_nil, List.cons_append, List.nil_append, List.replicate_succ, List.replicate_zero, Nat.zero_add, Nat.reduceAdd, Nat.reduceSub, Nat.sub_self, if_true, if_false, Bool.false_eq_true, Bool.not_true, Bool.not_false, reduceCtorEq, ite_true, ite_false, List.getElem?_cons_zero, List.getElem?_cons_succ, List.set_cons_zero, List.set_cons_succ, LEN, Nat.reduceLeDiff, Option.map_some, fvA, List.length_map, List.length_set, decide_true, decide_false, fhA, List.mem_cons, List.not_mem_nil, or_false, or_true, Nat.reduceEqDiff, Nat.succ_ne_self, fxA, fwA, fyA, and_true, true_and, imp_self, true_imp_iff, false_imp_iff, implies_true, fzA, fzW]
  · simp only [fdA, List.map_cons, List.map_nil, List.length_cons, List.length_nil, List.cons_append, List.nil_append, List.replicate_succ, List.replicate_zero, Nat.zero_add, Nat.reduceAdd, Nat.reduceSub, Nat.sub_self, if_true, if_false, Bool.false_eq_true, Bool.not_true, Bool.not_false, reduceCtorEq, ite_true, ite_false, List.getElem?_cons_zero, List.getElem?_cons_succ, List.set_cons_zero, List.set_cons_succ, LEN, Nat.reduceLeDiff, Option.map_some, fvA, List.length_map, List.length_set, decide_true, decide_false, fhA, List.mem_cons, List.not_mem_nil, or_false, or_true, Nat.reduceEqDiff, Nat.succ_ne_self, fxA, fwA, fyA, and_true, true_and, imp_self, true_imp_iff, false_imp_iff, implies_true, fzA, fzW, v_sumM, s1, pe]
    refine ⟨by omega, w_fm (a.zip b) (fun z => .tup [.int z.1, .int z.2]) rfl (fun z => decide (z.2 < z.1)) (fun z => .int (z.1 - z.2)) (fun z _ => ?_) ?_⟩
    · simp only [fdA, List.map_cons, List.map_nil, List.length_cons, List.length_nil, List.cons_append, List.nil_append, List.replicate_succ, List.replicate_zero, Nat.zero_add, Nat.reduceAdd, Nat.reduceSub, Nat.sub_self, if_true, if_false, Bool.false_eq_true, Bool.not_true, Bool.not_false, reduceCtorEq, ite_true, ite_false, List.getElem?_cons_zero, List.getElem?_cons_succ, List.set_cons_zero, List.set_cons_succ, LEN, Nat.reduceLeDiff, Option.map_some, fvA, List.length_map, List.length_set, decide_true, decide_false, fhA, List.mem_cons, List.not_mem_nil, or_false, or_true, Nat.reduceEqDiff, Nat.succ_ne_self, fxA, fwA, fyA, and_true, true_and, imp_self, true_imp_iff, false_imp_iff, implies_true, fzA, fzW]
    · simp only [fdA, List.map_cons, List.map_nil, List.length_cons, List.length_nil, List.cons_append, List.nil_append, List.replicate_succ, List.replicate_zero, Nat.zero_add, Nat.reduceAdd, Nat.reduceSub, Nat.sub_self, if_true, if_false, Bool.false_eq_true, Bool.not_true, Bool.not_false, reduceCtorEq, ite_true, ite_false, List.getElem?_cons_zero, List.getElem?_cons_succ, List.set_cons_zero, List.set_cons_succ, LEN, Nat.reduceLeDiff, Option.map_some, fvA, List.length_map, List.length_set, decide_true, decide_false, fhA, List.mem_cons, List.not_mem_nil, or_false, or_true, Nat.reduceEqDiff, Nat.succ_ne_self, fxA, fwA, fyA, and_true, true_and, imp_self, true_imp_iff, false_imp_iff, implies_true, fzA, fzW, v_sumM, s2, v_max2]
      rfl
theorem sumW_comm : ∀ {a b : List Int}, sumW f1 a b = sumW f2 b a
  | [], b => by cases b <;> simp [sumW]
  | _ :: _, [] => by simp [sumW]
  | x :: a, y :: b => by
    have ih := sumW_comm (a := a) (b := b)
    simp only [sumW, List.zipWith_cons_cons, List.sum_cons] at ih ⊢
    rw [ih]
    rfl
theorem distL_comm {a b : List Int} : distL a b = distL b a := by
  have h1 := sumW_comm (a := a) (b := b)
  have h2 := sumW_comm (a := b) (b := a)
  unfold distL
  omega
theorem sumW_self {a : List Int} : sumW f1 a a = 0 ∧ sumW f2 a a = 0 := by
  induction a with
  | nil => exact ⟨rfl, rfl⟩
  | cons x a ih =>
    simp only [sumW, List.zipWith_cons_cons, List.sum_cons] at ih ⊢
    have : f1 x x = 0 ∧ f2 x x = 0 := by
      unfold f1 f2
      rw [if_neg (by omega)]
      exact ⟨rfl, rfl⟩
    omega
theorem distL_self {a : List Int} : distL a a = 0 := by
  unfold distL
  rw [sumW_self.1, sumW_self.2]
  rfl
/-- pairs beside each other -/
def beside : List (List Int) → List (List Int × List Int)
  | [] => []
  | [_] => []
  | a :: b :: r => (a, b) :: beside (b :: r)
end FD

/-! LQ: drawn orders, nested sets of items, systems drawn by the laws on far ranges and ways. -/
namespace FD
open PySem PySem.Spec PyProof.Rows L2
/-! ### intervals of one order -/
abbrev Iv := Nat × Nat
def Apart (p q : Iv) : Prop := p.2 ≤ q.1 ∨ q.2 ≤ p.1
/-- q stands apart from p or strictly inside -/
def IC (p q : Iv) : Prop := Apart p q ∨ (p.1 ≤ q.1 ∧ q.2 ≤ p.2 ∧ q.2 - q.1 < p.2 - p.1)
structure Nest (m : Nat) (fi sp : List Iv) : Prop where
  inS : ∀ p ∈ sp, p.1 < p.2 ∧ p.2 ≤ m
  inF : ∀ p ∈ fi, p.1 < p.2 ∧ p.2 ≤ m
  apart : sp.Pairwise Apart
  pw : fi.Pairwise IC
  rel : ∀ p ∈ fi, ∀ q ∈ sp, IC p q
theorem Nest.drop {m : Nat} {fi sp : List Iv} {p : Iv} (h : Nest m fi (sp ++ [p])) : Nest m fi sp :=
  ⟨fun q mq => h.inS q (by simp [mq]), h.inF, (List.pairwise_append.mp h.apart).1, h.pw, fun a ma q mq => h.rel a ma q (by simp [mq])⟩
theorem Apart.symm {p q : Iv} (h : Apart p q) : Apart q p := h.elim .inr .inl
/-! ### their sets -/
/-! ### drawn systems -/
/-! ### the laws' own look at plans -/
noncomputable def fb_q_changed : SF DS := (seqF (setF 3 (callF listD (consA (varF 0) nilA)))
  (seqF (ifF (binF isntD (varF 1) (conF .non)) (setIxF 3 (varF 1) (binF subD (binF ixD (varF 3) (varF 1)) (conF (.int 1)))) nxF)
  (seqF (ifF (binF isntD (varF 2) (conF .non)) (setIxF 3 (varF 2) (binF addD (binF ixD (varF 3) (varF 2)) (conF (.int 1)))) nxF)
  (retF (callF tupleD (consA (varF 3) nilA))))))
noncomputable def FF_q_changed : FF DS := runF 4 3 fb_q_changed
theorem len_q_changed {ds : List D} {t : DS} {o : FOut × DS} (h : FF_q_changed ds t = some o) : ds.length = 3 := runF_len h

end FD

/-! RG: the shown text of a tuple of numbers is the text of no other value. -/
namespace FD
open PySem PySem.Spec PyProof.Rows L2 TL
/-! ### numbers beside, and their end -/
/-! ### shown texts -/
end FD

/-! T9: prices of spans: what all lose at them is what the best gain. -/
namespace GC
/-! ### prices of groups -/
mutual
def pairs : Span → List (Int × Int)
  | .mk num _ _ _ pr ins => pairsAll ins ++ match num with
    | some k => [(k, pr)]
    | none => []
def pairsAll : List Span → List (Int × Int)
  | [] => []
  | s :: ss => pairs s ++ pairsAll ss
end
/-- a group's members and limits -/
structure Gr where
  ms : List Int
  lo : Int
  hi : Int
/-- what the item pays for these groups -/
def pay (gr : Int → Gr) (i : Int) (ps : List (Int × Int)) : Int := (ps.map fun z => if i ∈ (gr z.1).ms then z.2 else 0).sum
end GC

/-! R6: the best prices: pairs of groups and prices; their bound is the greatest gain. -/
namespace FD
open PySem PySem.Spec PyProof.Rows L2
/-! ### which groups the parts are -/
/-! ### prices are near -/
/-! ### the program -/
/-! ### the bound -/
end FD

/-! R7: no prices have a bound below a gain; systems with multiplied gains. -/
namespace FD
open PySem PySem.Spec PyProof.Rows L2
/-! ### prices as data -/
/-! ### multiplied gains -/
/-! ### how great bounds are -/
end FD

/-! R8: judgements: prices, or the first exchange that gains. -/
namespace FD
open PySem PySem.Spec PyProof.Rows L2
def allEx (n : Nat) : List Exch := exs 0 n ++ (exs 1 n ++ exs 2 n)
theorem allEx_mem {n : Nat} {e : Exch} : e ∈ allEx n ↔ ∃ w, w ≤ 2 ∧ e ∈ exs w n := by
  simp only [allEx, List.mem_append]
  constructor
  · rintro (h | h | h)
    · exact ⟨0, by omega, h⟩
    · exact ⟨1, by omega, h⟩
    · exact ⟨2, by omega, h⟩
  · rintro ⟨w, hw, h⟩
    match w, hw with
    | 0, _ => exact .inl h
    | 1, _ => exact .inr (.inl h)
    | 2, _ => exact .inr (.inr h)
end FD

/-! RB: the best plans for totals. -/
namespace FD
open PySem PySem.Spec PyProof.Rows L2
end FD

/-! RC: systems with one more group: limits of all, fixed items. -/
namespace FD
open PySem PySem.Spec PyProof.Rows L2
end FD

/-! RE: the ranges of items. -/
namespace FD
open PySem PySem.Spec PyProof.Rows L2
section
variable {T : Type}
end
end FD

/-! RF: the next best plan. -/
namespace FD
open PySem PySem.Spec PyProof.Rows L2
end FD

/-! LB: all plans of small systems. -/
namespace FD
open PySem PySem.Spec PyProof.Rows L2
/-! ### all plans -/
/-! ### bounds of all plans that fit -/
end FD

/-! LS: all plans stand in tuple order. -/
namespace FD
open PySem PySem.Spec PyProof.Rows L2
end FD

/-! LT: all plans, all best plans, contradictions, by the laws k31 to k42. -/
namespace FD
open PySem PySem.Spec PyProof.Rows L2
/-! ### contradictions -/
end FD

/-! LC: what is a system, by the program and by laws. -/
namespace FD
open PySem PySem.Spec PyProof.Rows L2
/-! ### gains -/
/-! ### groups -/
/-! ### groups beside one another -/
/-! ### the first reason -/
end FD

/-! RH: the next one of all best plans; texts of drawn values. -/
namespace FD
open PySem PySem.Spec PyProof.Rows L2
/-! ### texts of drawn values -/
def okV (v : D) : Prop := ord (10 ^ 59 + 2) 8 v = true ∧ blk v ≤ 300
end FD

/-! RD: ways: reversed, one after the other; distances from both ends. -/
namespace FD
open PySem PySem.Spec PyProof.Rows L2
theorem sumW_tri : ∀ {a b c : List Int}, a.length = b.length → b.length = c.length → sumW f1 a c ≤ sumW f1 a b + sumW f1 b c ∧ sumW f2 a c ≤ sumW f2 a b + sumW f2 b c
  | [], [], [], _, _ => ⟨Int.le_refl _, Int.le_refl _⟩
  | [], [], _ :: _, _, h => by simp at h
  | [], _ :: _, _, h, _ => by simp at h
  | _ :: _, [], _, h, _ => by simp at h
  | _ :: _, _ :: _, [], _, h => by simp at h
  | x :: a, y :: b, z :: c, h1, h2 => by
    have ih := sumW_tri (a := a) (b := b) (c := c) (by simpa using h1) (by simpa using h2)
    simp only [sumW, List.zipWith_cons_cons, List.sum_cons] at ih ⊢
    have : f1 x z ≤ f1 x y + f1 y z ∧ f2 x z ≤ f2 x y + f2 y z := by
      unfold f1 f2
      constructor <;> split <;> split <;> split <;> omega
    omega
theorem dist_tri {a b c : List Int} (h1 : a.length = b.length) (h2 : b.length = c.length) : distL a c ≤ distL a b + distL b c := by
  have := sumW_tri h1 h2
  unfold distL
  omega
end FD

/-! RJ: known texts, distances in laws, ways judged. -/
namespace FD
open PySem PySem.Spec PyProof.Rows L2 TL
/-! ### signs of shown texts -/
/-! ### texts of values -/
def okW (v : D) : Prop := ord (10 ^ 59 + 5) 20 v = true ∧ blk v ≤ 20000
theorem okV.up {v : D} (h : okV v) : okW v := ⟨ord_mono (by decide) (by decide) h.1, by have := h.2; omega⟩
/-! ### known plans -/
end FD

/-! RK: distances in laws; ways judged. -/
namespace FD
open PySem PySem.Spec PyProof.Rows L2
noncomputable def fb_q_distance : SF DS := (seqF (setF 2 (callF sumD (consA (lcF [] [3, 4] (callI zipD (consA (varF 0) (consA (varF 1) nilA))) (tupG 2 (consG (nameG 3) (consG (nameG 4) nilG))) yesF (callF max2D (consA (conF (.int 0)) (consA (binF subD (varF 4) (varF 3)) nilA)))) nilA)))
  (retF (callF max2D (consA (varF 2) (consA (callF sumD (consA (lcF [] [3, 4] (callI zipD (consA (varF 0) (consA (varF 1) nilA))) (tupG 2 (consG (nameG 3) (consG (nameG 4) nilG))) yesF (callF max2D (consA (conF (.int 0)) (consA (binF subD (varF 3) (varF 4)) nilA)))) nilA)) nilA)))))
noncomputable def FF_q_distance : FF DS := runF 5 2 fb_q_distance
theorem len_q_distance {ds : List D} {t : DS} {o : FOut × DS} (h : FF_q_distance ds t = some o) : ds.length = 2 := runF_len h
theorem q_distance_eq {a b : List Int} {t : DS} (ha : a.length ≤ 100) (hb : b.length ≤ 100) : FF_q_distance [tpI a, tpI b] t = some (.ok (.int (distL a b)) false, t) := by
  have zl : (a.zip b).length ≤ 100 := by rw [List.length_zip]; omega
  have s1 : ((a.zip b).map fun z => max 0 (z.2 - z.1)).sum = sumW f1 a b := by
    unfold sumW
    rw [← List.map_uncurry_zip_eq_zipWith]
    congr 1
    exact List.map_congr_left fun z _ => by
      simp only [f1, Function.uncurry]
      split <;> omega
  have s2 : ((a.zip b).map fun z => max 0 (z.1 - z.2)).sum = sumW f2 a b := by
    unfold sumW
    rw [← List.map_uncurry_zip_eq_zipWith]
    congr 1
    exact List.map_congr_left fun z _ => by
      simp only [f2, Function.uncurry]
      split <;> omega
  refine w_eq ?_
  have pe : pairD (a.map D.int) (b.map D.int) = (a.zip b).map fun z => .tup [.int z.1, .int z.2] := pairD_map ..
  unfold FF_q_distance fb_q_distance
  simp only [fdA, List.map_cons, List.map_nil, List.length_cons, List.length_nil, List.cons_append, List.nil_append, List.replicate_succ, List.replicate_zero, Nat.zero_add, Nat.reduceAdd, Nat.reduceSub, Nat.sub_self, if_true, if_false, Bool.false_eq_true, Bool.not_true, Bool.not_false, reduceCtorEq, ite_true, ite_false, List.getElem?_cons_zero, List.getElem?_cons_succ, List.set_cons_zero, List.set_cons_succ, LEN, Nat.reduceLeDiff, Option.map_some, fvA, List.length_map, List.length_set, decide_true, decide_false, fhA, List.mem_cons, List.not_mem_nil, or_false, or_true, Nat.reduceEqDiff, Nat.succ_ne_self, fxA, fwA, fyA, and_true, true_and, imp_self, true_imp_iff, false_imp_iff, implies_true, fzA, fzW, tpI, pe]
  refine ⟨by omega, w_map (a.zip b) (fun z => .tup [.int z.1, .int z.2]) rfl (fun z => .int (max 0 (z.2 - z.1))) (fun z _ => ?_) ?_⟩
  · simp only [fdA, List.map_cons, List.map_nil, List.length_cons, List.length_nil, List.cons_append, List.nil_append, List.replicate_succ, List.replicate_zero, Nat.zero_add, Nat.reduceAdd, Nat.reduceSub, Nat.sub_self, if_true, if_false, Bool.false_eq_true, Bool.not_true, Bool.not_false, reduceCtorEq, ite_true, ite_false, List.getElem?_cons_zero, List.getElem?_cons_succ, List.set_cons_zero, List.set_cons_succ, LEN, Nat.reduceLeDiff, Option.map_some, fvA, List.length_map, List.length_set, decide_true, decide_false, fhA, List.mem_cons, List.not_mem_nil, or_false, or_true, Nat.reduceEqDiff, Nat.succ_ne_self, fxA, fwA, fyA, and_true, true_and, imp_self, true_imp_iff, false_imp_iff, implies_true, fzA, fzW, v_sub_int, v_max2]
  · simp only [fdA, List.map_cons, List.map_nil, List.length_cons, List.length_nil, List.cons_append, List.nil_append, List.replicate_succ, List.replicate_zero, Nat.zero_add, Nat.reduceAdd, Nat.reduceSub, Nat.sub_self, if_true, if_false, Bool.false_eq_true, Bool.not_true, Bool.not_false, reduceCtorEq, ite_true, ite_false, List.getElem?_cons_zero, List.getElem?_cons_succ, List.set_cons_zero, List.set_cons_succ, LEN, Nat.reduceLeDiff, Option.map_some, fvA, List.length_map, List.length_set, decide_true, decide_false, fhA, List.mem_cons, List.not_mem_nil, or_false, or_true, Nat.reduceEqDiff, Nat.succ_ne_self, fxA, fwA, fyA, and_true, true_and, imp_self, true_imp_iff, false_imp_iff, implies_true, fzA, fzW, v_sumM, s1, pe]
    refine ⟨by omega, w_map (a.zip b) (fun z => .tup [.int z.1, .int z.2]) rfl (fun z => .int (max 0 (z.1 - z.2))) (fun z _ => ?_) ?_⟩
    · simp only [fdA, List.map_cons, List.map_nil, List.length_cons, List.length_nil, List.cons_append, List.nil_append, List.replicate_succ, List.replicate_zero, Nat.zero_add, Nat.reduceAdd, Nat.reduceSub, Nat.sub_self, if_true, if_false, Bool.false_eq_true, Bool.not_true, Bool.not_false, reduceCtorEq, ite_true, ite_false, List.getElem?_cons_zero, List.getElem?_cons_succ, List.set_cons_zero, List.set_cons_succ, LEN, Nat.reduceLeDiff, Option.map_some, fvA, List.length_map, List.length_set, decide_true, decide_false, fhA, List.mem_cons, List.not_mem_nil, or_false, or_true, Nat.reduceEqDiff, Nat.succ_ne_self, fxA, fwA, fyA, and_true, true_and, imp_self, true_imp_iff, false_imp_iff, implies_true, fzA, fzW, v_sub_int, v_max2]
    · simp only [fdA, List.map_cons, List.map_nil, List.length_cons, List.length_nil, List.cons_append, List.nil_append, List.replicate_succ, List.replicate_zero, Nat.zero_add, Nat.reduceAdd, Nat.reduceSub, Nat.sub_self, if_true, if_false, Bool.false_eq_true, Bool.not_true, Bool.not_false, reduceCtorEq, ite_true, ite_false, List.getElem?_cons_zero, List.getElem?_cons_succ, List.set_cons_zero, List.set_cons_succ, LEN, Nat.reduceLeDiff, Option.map_some, fvA, List.length_map, List.length_set, decide_true, decide_false, fhA, List.mem_cons, List.not_mem_nil, or_false, or_true, Nat.reduceEqDiff, Nat.succ_ne_self, fxA, fwA, fyA, and_true, true_and, imp_self, true_imp_iff, false_imp_iff, implies_true, fzA, fzW, v_sumM, s2, v_max2]
      rfl
/-! ### ways judged -/
section
variable {T : Type} {s : Sys} {x y v : D} {t : T}
end
end FD

namespace FD
open PySem PySem.Spec PyProof.Rows L2
-- _law_units: slots [(0, '_law_deck_here'), (1, '_law_count'), (2, '_law_great'), (3, '_law_k')]
noncomputable def fb_q_units : SF DS := (retF (callF tupleD (consA (lcF [0, 2] [3] (callI rng1D (consA (varF 1) nilA)) (nameG 3) yesF (ucallF FF_q_next (consA (varF 0) (consA (varF 2) nilA)))) nilA)))
noncomputable def FF_q_units : FF DS := runF 4 3 fb_q_units
theorem len_q_units {ds : List D} {t : DS} {o : FOut × DS} (h : FF_q_units ds t = some o) : ds.length = 3 := runF_len h

-- _law_near: slots [(0, '_law_plan'), (1, '_law_names'), (2, '_law_found'), (3, '_law_less'), (4, '_law_one_here'), (5, '_law_more')]
noncomputable def fb_q_near : SF DS := (seqF (parNF 1 2 (binF addD (lstF (consA (conF .non) nilA)) (lrng1F (callF lenD (consA (varF 0) nilA)))))
  (seqF (forF (seqI (varF 1)) (nameG 3) (dropF (mutF 2 extD (consA (lcF [0, 3] [5] (seqI (varF 1)) (nameG 5) (binF neD (varF 3) (varF 5)) (ucallF FF_q_changed (consA (varF 0) (consA (varF 3) (consA (varF 5) nilA))))) nilA))))
  (retF (lcF [] [4] (seqI (varF 2)) (nameG 4) (binF geD (callF minD (consA (varF 4) nilA)) (conF (.int 0))) (varF 4)))))
noncomputable def FF_q_near : FF DS := runF 6 1 fb_q_near
theorem len_q_near {ds : List D} {t : DS} {o : FOut × DS} (h : FF_q_near ds t = some o) : ds.length = 1 := runF_len h

-- _law_three_right: slots [(0, '_law_one_here'), (1, '_law_other'), (2, '_law_third'), (3, '_law_sides')]
noncomputable def fb_q_three_right : SF DS := (seqF (setF 3 (lstF (consA (ucallF FF_distance (consA (varF 0) (consA (varF 1) nilA))) (consA (ucallF FF_distance (consA (varF 1) (consA (varF 2) nilA))) (consA (ucallF FF_distance (consA (varF 0) (consA (varF 2) nilA))) nilA)))))
  (seqF (ifF (notF (ucallF FF_q_same (consA (varF 3) (consA (lstF (consA (ucallF FF_q_distance (consA (varF 0) (consA (varF 1) nilA))) (consA (ucallF FF_q_distance (consA (varF 1) (consA (varF 2) nilA))) (consA (ucallF FF_q_distance (consA (varF 0) (consA (varF 2) nilA))) nilA)))) nilA)))) (retF (conF (.bl false))) nxF)
  (seqF (ifF (orF (binF gtD (binF ixD (varF 3) (conF (.int 2))) (binF addD (binF ixD (varF 3) (conF (.int 0))) (binF ixD (varF 3) (conF (.int 1))))) (binF neD (ucallF FF_distance (consA (varF 1) (consA (varF 0) nilA))) (binF ixD (varF 3) (conF (.int 0))))) (retF (conF (.bl false))) nxF)
  (retF (andF (binF eqD (binF eqD (binF ixD (varF 3) (conF (.int 0))) (conF (.int 0))) (binF eqD (varF 0) (varF 1))) (binF eqD (binF eqD (binF ixD (varF 3) (conF (.int 0))) (conF (.int 1))) (binF inD (varF 1) (ucallF FF_q_near (consA (varF 0) nilA)))))))))
noncomputable def FF_q_three_right : FF DS := runF 4 3 fb_q_three_right
theorem len_q_three_right {ds : List D} {t : DS} {o : FOut × DS} (h : FF_q_three_right ds t = some o) : ds.length = 3 := runF_len h

-- _law_reached_right: slots [(0, '_law_one_here'), (1, '_law_other'), (2, '_law_reached'), (3, '_law_steps'), (4, '_law_further'), (5, '_law_plan'), (6, '_law_near_here')]
noncomputable def fb_q_reached_right : SF DS := (seqF (parBF 2 3 (lstF (consA (varF 0) nilA)) (conF (.int 0)))
  (seqF (whileF (andF (binF notInD (varF 1) (varF 2)) (binF ltD (varF 3) (conF (.int 6)))) (seqF (setF 4 (lstF nilA))
  (seqF (forF (seqI (varF 2)) (nameG 5) (dropF (mutF 4 extD (consA (lcF [] [6] (seqI (ucallF FF_q_near (consA (varF 5) nilA))) (nameG 6) (binF ltD (callF maxD (consA (varF 6) nilA)) (conF (.int 4))) (varF 6)) nilA))))
  (parBF 2 3 (unF sortSetPD (binF addD (varF 2) (varF 4))) (binF addD (varF 3) (conF (.int 1)))))))
  (retF (binF eqD (ucallF FF_distance (consA (varF 0) (consA (varF 1) nilA))) (varF 3)))))
noncomputable def FF_q_reached_right : FF DS := runF 7 2 fb_q_reached_right
theorem len_q_reached_right {ds : List D} {t : DS} {o : FOut × DS} (h : FF_q_reached_right ds t = some o) : ds.length = 2 := runF_len h

-- law: slots [(0, '_law_script'), (1, '_law_deck_here'), (2, '_law_turn'), (3, '_law_count'), (4, '_law_great'), (5, '_law_one_here'), (6, '_law_other'), (7, '_law_third'), (8, '_law_near_here'), (9, '_law_kept'), (10, '_law_k')]
noncomputable def fb_law : SF DS := (seqF (forF (callI rng1D (consA (conF (.int 10)) nilA)) (nameG 2) (seqF (asgF (tupG 2 (consG (nameG 3) (consG (nameG 4) nilG))) (tupF (consA (binF addD (conF (.int 1)) (ucallF FF_q_next (consA (varF 1) (consA (conF (.int 6)) nilA)))) (consA (ucallF FF_q_one (consA (varF 1) (consA (lstF (consA (conF (.int 2)) (consA (conF (.int 4)) (consA (conF (.int 9)) (consA (binF mulD (conF (.int 9)) (binF powD (conF (.int 10)) (conF (.int 11)))) nilA))))) nilA))) nilA))))
  (seqF (asgF (lstG 3 (consG (nameG 5) (consG (nameG 6) (consG (nameG 7) nilG)))) (lcF [1, 3, 4] [10] (callI rng1D (consA (conF (.int 3)) nilA)) (nameG 10) yesF (ucallF FF_q_units (consA (varF 1) (consA (varF 3) (consA (varF 4) nilA))))))
  (seqF (setF 8 (ucallF FF_q_one (consA (varF 1) (consA (ucallF FF_q_near (consA (varF 5) nilA)) nilA))))
  (seqF (setF 9 (callF reprXD (consA (lstF (consA (varF 5) (consA (varF 6) (consA (varF 7) (consA (varF 8) nilA))))) nilA)))
  (seqF (ifF (orF (notF (ucallF FF_q_three_right (consA (varF 5) (consA (varF 6) (consA (varF 7) nilA))))) (notF (ucallF FF_q_three_right (consA (varF 5) (consA (varF 8) (consA (varF 6) nilA)))))) (retF (conF (.bl false))) nxF)
  (ifF (orF (notF (ucallF FF_q_three_right (consA (varF 5) (consA (varF 5) (consA (varF 6) nilA))))) (binF neD (callF reprXD (consA (lstF (consA (varF 5) (consA (varF 6) (consA (varF 7) (consA (varF 8) nilA))))) nilA)) (varF 9))) (retF (conF (.bl false))) nxF)))))))
  (seqF (forF (callI rng1D (consA (conF (.int 3)) nilA)) (nameG 2) (ifF (notF (ucallF FF_q_reached_right (consA (ucallF FF_q_units (consA (varF 1) (consA (conF (.int 2)) (consA (conF (.int 4)) nilA)))) (consA (ucallF FF_q_units (consA (varF 1) (consA (conF (.int 2)) (consA (conF (.int 4)) nilA)))) nilA)))) (retF (conF (.bl false))) nxF))
  (retF (andF (binF eqD (ucallF FF_distance (consA (tupF (consA (conF (.int 0)) (consA (conF (.int 2)) nilA))) (consA (tupF (consA (conF (.int 2)) (consA (conF (.int 0)) nilA))) nilA))) (conF (.int 2))) (binF eqD (ucallF FF_distance (consA (tupF (consA (conF (.int 0)) (consA (conF (.int 0)) nilA))) (consA (tupF (consA (conF (.int 2)) (consA (conF (.int 1)) nilA))) nilA))) (conF (.int 3)))))))

end FD

set_option maxHeartbeats 4000000
namespace FD
open PySem PySem.Spec PyProof.Rows L2
section
variable {P : Program} {w : World} {K : PySem.W.Frag} {mg : Str → Option Value} {base : Heap} {Dx : Dk} {ca : Str → Addr} {Z : Wd}
theorem G_distance (T : Txt K mg) (U : CaOk T Z.ca) : FnOk P w K mg base (L2N.CX P w) 1 T.a_distance T.d_distance p_distance (spF Z 2 FF_distance) :=
  fn_body (Z := Z) (b := fb_distance) T.F_distance sc_distance (by decide) (fun _ _ _ h => h) fun cdv A outer s H E C hr tk => 
  (sv_cons (sv_set (i := 2) sc_distance.nd rfl (.inl rfl) (ev_callB (cD_sum rfl) (by rfl) T.m_sum (by decide +kernel) (ev_acons (ev_lc (own := [("start", 4), ("end", 5)]) (S := [4, 5]) (sh := []) rfl sc_distance.nd (iv_zip (by rfl) T.m_zip (ev_acons (ev_var (pv 0)) (ev_acons (ev_var (pv 1)) ev_anil))) (blkOk_by (own := [("start", 4), ("end", 5)]) (N := n_distance) (sc := defScope s_distance) (by decide +kernel)) (fun C hw s H A cl fp => (gv_tup rfl (gv_cons (gv_name (i := 4) sc_distance.nd rfl (.inl rfl)) (gv_cons (gv_name (i := 5) sc_distance.nd rfl (.inl rfl)) gv_nil)))) (fun s H A cl fp => ex_one fun C hw => (et_cmp opD_gt (ev_var (pv 5)) (ev_var (pv 4)) (nomark _))) (fun C hw s H A cl fp => (ev_bin opD_sub (ev_var (pv 5)) (ev_var (pv 4))))) ev_anil)))
  (sv_cons (sv_set (i := 3) sc_distance.nd rfl (.inl rfl) (ev_callB (cD_sum rfl) (by rfl) T.m_sum (by decide +kernel) (ev_acons (ev_lc (own := [("start", 4), ("end", 5)]) (S := [4, 5]) (sh := []) rfl sc_distance.nd (iv_zip (by rfl) T.m_zip (ev_acons (ev_var (pv 0)) (ev_acons (ev_var (pv 1)) ev_anil))) (blkOk_by (own := [("start", 4), ("end", 5)]) (N := n_distance) (sc := defScope s_distance) (by decide +kernel)) (fun C hw s H A cl fp => (gv_tup rfl (gv_cons (gv_name (i := 4) sc_distance.nd rfl (.inl rfl)) (gv_cons (gv_name (i := 5) sc_distance.nd rfl (.inl rfl)) gv_nil)))) (fun s H A cl fp => ex_one fun C hw => (et_cmp opD_lt (ev_var (pv 5)) (ev_var (pv 4)) (nomark _))) (fun C hw s H A cl fp => (ev_bin opD_sub (ev_var (pv 4)) (ev_var (pv 5))))) ev_anil)))
  (sv_one (sv_ret (ev_callB (cD_max2 rfl) (by rfl) T.m_max (by decide +kernel) (ev_acons (ev_var (pv 2)) (ev_acons (ev_var (pv 3)) ev_anil)))))))

theorem G_q_one (T : Txt K mg) (U : CaOk T ca) : FnOk P w K mg base (L2N.CX P w) 2 T.a_q_one T.d_q_one p_q_one (spF (Zdk Dx ca) 2 FF_q_one) :=
  fn_body (Z := (Zdk Dx ca)) (b := fb_q_one) T.F_q_one sc_q_one (by decide) (fun _ _ _ h => h) fun cdv A outer s H E C hr tk => 
  (sv_one (sv_ret (ev_ix ixR (ev_var (pv 1)) (ev_call (G_q_next T) (fun _ _ _ => len_q_next) tk (hr.mono (by omega)) (by rfl) T.g_q_next T.F_q_next.kp T.b_q_next (ev_acons (ev_var (pv 0)) (ev_acons (ev_callB cD_len (by rfl) T.m_len PySem.boot_len (ev_acons (ev_var (pv 1)) ev_anil)) ev_anil))) (fun _ _ => rfl))))

theorem Gr_q_same (T : Txt K mg) (U : CaOk T ca) : ∀ k : Nat, FnOk P w K mg base (L2N.CX P w) (k) T.a_q_same T.d_q_same p_q_same (spF (Zdk Dx ca) 2 (FFr_q_same k))
  | 0 => ⟨fun _ _ _ _ h => h.1, fun _ _ _ _ _ _ _ _ _ _ _ _ _ h => (by obtain ⟨_, _, _, _, _, _, _, _, _, _, e, _⟩ := h; cases e)⟩
  | k + 1 => fn_body (Z := (Zdk Dx ca)) (b := fb_q_same (FFr_q_same k)) T.F_q_same sc_q_same (by decide) (fun _ _ _ h => h) fun cdv A outer s H E C hr tk => have IH := Gr_q_same T U k
  (sv_cons (sv_if (et_val (ev_callB cD_isi (by rfl) T.m_isinstance (by decide +kernel) (ev_acons (ev_var (pv 1)) (ev_acons (ev_tup (ev_acons (ev_con (pe_bltn (v := .ty "tuple") (by rfl) T.m_tuple (by decide +kernel) rfl) (fun _ _ => .ty _)) (ev_acons (ev_con (pe_bltn (v := .ty "list") (by rfl) T.m_list (by decide +kernel) rfl) (fun _ _ => .ty _)) ev_anil))) ev_anil)))) (sv_cons (sv_if (et_cmp (opD_ne hr.units) (ev_callB cD_isi (by rfl) T.m_isinstance (by decide +kernel) (ev_acons (ev_var (pv 0)) (ev_acons (ev_con (pe_bltn (v := .ty "tuple") (by rfl) T.m_tuple (by decide +kernel) rfl) (fun _ _ => .ty _)) ev_anil))) (ev_callB cD_isi (by rfl) T.m_isinstance (by decide +kernel) (ev_acons (ev_var (pv 1)) (ev_acons (ev_con (pe_bltn (v := .ty "tuple") (by rfl) T.m_tuple (by decide +kernel) rfl) (fun _ _ => .ty _)) ev_anil))) (nomark _)) (sv_one (sv_ret ev_bl)) sv_nil)
  (sv_cons (sv_if (et_cmp (opD_ne hr.units) (ev_callB cD_isi (by rfl) T.m_isinstance (by decide +kernel) (ev_acons (ev_var (pv 0)) (ev_acons (ev_con (pe_bltn (v := .ty "list") (by rfl) T.m_list (by decide +kernel) rfl) (fun _ _ => .ty _)) ev_anil))) (ev_callB cD_isi (by rfl) T.m_isinstance (by decide +kernel) (ev_acons (ev_var (pv 1)) (ev_acons (ev_con (pe_bltn (v := .ty "list") (by rfl) T.m_list (by decide +kernel) rfl) (fun _ _ => .ty _)) ev_anil))) (nomark _)) (sv_one (sv_ret ev_bl)) sv_nil)
  (sv_cons (sv_if (et_cmp (opD_ne hr.units) (ev_callB cD_len (by rfl) T.m_len PySem.boot_len (ev_acons (ev_var (pv 0)) ev_anil)) (ev_callB cD_len (by rfl) T.m_len PySem.boot_len (ev_acons (ev_var (pv 1)) ev_anil)) (nomark _)) (sv_one (sv_ret ev_bl)) sv_nil)
  (sv_one (sv_ret (ev_cmp (opD_eq hr.units) (ev_lc (own := [("_law_k", 2)]) (S := [2]) (sh := [0, 1]) rfl sc_q_same.nd (iv_range1 (by rfl) T.m_range (ev_acons (ev_callB cD_len (by rfl) T.m_len PySem.boot_len (ev_acons (ev_var (pv 1)) ev_anil)) ev_anil)) (blkOk_by (own := [("_law_k", 2)]) (N := n_q_same) (sc := defScope s_q_same) (by decide +kernel)) (fun C hw s H A cl fp => (gv_name (i := 2) sc_q_same.nd rfl (.inl rfl))) (fun s H A cl fp => ex_one fun C hw => (et_not (et_val (ev_call IH (fun _ _ _ => lenr_q_same) (takes_dead hw) (hr.mono (by omega)) (by rfl) T.g_q_same T.F_q_same.kp T.b_q_same (ev_acons (ev_ix ixR (ev_var (pv 0)) (ev_var (pv 2)) (fun _ _ => rfl)) (ev_acons (ev_ix ixR (ev_var (pv 1)) (ev_var (pv 2)) (fun _ _ => rfl)) ev_anil)))))) (fun C hw s H A cl fp => (ev_var (pv 2)))) (ev_lst ev_anil) (nomark _))))))) sv_nil)
  (sv_cons (sv_if (et_val (ev_callB cD_isi (by rfl) T.m_isinstance (by decide +kernel) (ev_acons (ev_var (pv 1)) (ev_acons (ev_con (pe_bltn (v := .ty "dict") (by rfl) T.m_dict (by decide +kernel) rfl) (fun _ _ => .ty _)) ev_anil)))) (sv_one (sv_ret (ev_and (ev_callB cD_isi (by rfl) T.m_isinstance (by decide +kernel) (ev_acons (ev_var (pv 0)) (ev_acons (ev_con (pe_bltn (v := .ty "dict") (by rfl) T.m_dict (by decide +kernel) rfl) (fun _ _ => .ty _)) ev_anil))) (ev_one (ev_cmp (opD_eq hr.units) (ev_var (pv 0)) (ev_var (pv 1)) (nomark _)))))) sv_nil)
  (sv_cons (sv_if (et_cmp opD_is (ev_var (pv 1)) ev_non (nomark _)) (sv_one (sv_ret (ev_cmp opD_is (ev_var (pv 0)) ev_non (nomark _)))) sv_nil)
  (sv_cons (sv_if (et_val (ev_callB cD_isi (by rfl) T.m_isinstance (by decide +kernel) (ev_acons (ev_var (pv 1)) (ev_acons (ev_con (pe_bltn (v := .ty "str") (by rfl) T.m_str (by decide +kernel) rfl) (fun _ _ => .ty _)) ev_anil)))) (sv_one (sv_ret (ev_and (ev_callB cD_isi (by rfl) T.m_isinstance (by decide +kernel) (ev_acons (ev_var (pv 0)) (ev_acons (ev_con (pe_bltn (v := .ty "str") (by rfl) T.m_str (by decide +kernel) rfl) (fun _ _ => .ty _)) ev_anil))) (ev_one (ev_cmp (opD_eq hr.units) (ev_var (pv 0)) (ev_var (pv 1)) (nomark _)))))) sv_nil)
  (sv_one (sv_ret (ev_and (ev_callB cD_isi (by rfl) T.m_isinstance (by decide +kernel) (ev_acons (ev_var (pv 0)) (ev_acons (ev_con (pe_bltn (v := .ty "int") (by rfl) T.m_int (by decide +kernel) rfl) (fun _ _ => .ty _)) ev_anil))) (ev_and (ev_cmp (opD_eq hr.units) (ev_callB cD_isi (by rfl) T.m_isinstance (by decide +kernel) (ev_acons (ev_var (pv 0)) (ev_acons (ev_con (pe_bltn (v := .ty "bool") (by rfl) T.m_bool (by decide +kernel) rfl) (fun _ _ => .ty _)) ev_anil))) (ev_callB cD_isi (by rfl) T.m_isinstance (by decide +kernel) (ev_acons (ev_var (pv 1)) (ev_acons (ev_con (pe_bltn (v := .ty "bool") (by rfl) T.m_bool (by decide +kernel) rfl) (fun _ _ => .ty _)) ev_anil))) (nomark _)) (ev_one (ev_cmp (opD_eq hr.units) (ev_var (pv 0)) (ev_var (pv 1)) (nomark _)))))))))))
theorem G_q_same (T : Txt K mg) (U : CaOk T ca) : FnOk P w K mg base (L2N.CX P w) 12 T.a_q_same T.d_q_same p_q_same (spF (Zdk Dx ca) 2 FF_q_same) := Gr_q_same T U 12

theorem G_q_changed (T : Txt K mg) (U : CaOk T ca) : FnOk P w K mg base (L2N.CX P w) 1 T.a_q_changed T.d_q_changed p_q_changed (spF (Zdk Dx ca) 3 FF_q_changed) :=
  fn_body (Z := (Zdk Dx ca)) (b := fb_q_changed) T.F_q_changed sc_q_changed (by decide) (fun _ _ _ h => h) fun cdv A outer s H E C hr tk => 
  (sv_cons (sv_set (i := 3) sc_q_changed.nd rfl (.inl rfl) (ev_callTy cD_list (by rfl) T.m_list (by decide +kernel) (ev_acons (ev_var (pv 0)) ev_anil)))
  (sv_cons (sv_if (et_cmp opD_isnt (ev_var (pv 1)) ev_non (nomark _)) (sv_one (sv_setIx (ev_bin opD_sub (ev_ix ixR (ev_var (pv 3)) (ev_var (pv 1)) (fun _ _ => rfl)) ev_int) (pv 3) (ev_var (pv 1)))) sv_nil)
  (sv_cons (sv_if (et_cmp opD_isnt (ev_var (pv 2)) ev_non (nomark _)) (sv_one (sv_setIx (ev_bin opD_add (ev_ix ixR (ev_var (pv 3)) (ev_var (pv 2)) (fun _ _ => rfl)) ev_int) (pv 3) (ev_var (pv 2)))) sv_nil)
  (sv_one (sv_ret (ev_callTy cD_tuple (by rfl) T.m_tuple (by decide +kernel) (ev_acons (ev_var (pv 3)) ev_anil)))))))

theorem G_q_distance (T : Txt K mg) (U : CaOk T ca) : FnOk P w K mg base (L2N.CX P w) 1 T.a_q_distance T.d_q_distance p_q_distance (spF (Zdk Dx ca) 2 FF_q_distance) :=
  fn_body (Z := (Zdk Dx ca)) (b := fb_q_distance) T.F_q_distance sc_q_distance (by decide) (fun _ _ _ h => h) fun cdv A outer s H E C hr tk => 
  (sv_cons (sv_set (i := 2) sc_q_distance.nd rfl (.inl rfl) (ev_callB (cD_sum rfl) (by rfl) T.m_sum (by decide +kernel) (ev_acons (ev_lc (own := [("_law_before", 3), ("_law_after", 4)]) (S := [3, 4]) (sh := []) rfl sc_q_distance.nd (iv_zip (by rfl) T.m_zip (ev_acons (ev_var (pv 0)) (ev_acons (ev_var (pv 1)) ev_anil))) (blkOk_by (own := [("_law_before", 3), ("_law_after", 4)]) (N := n_q_distance) (sc := defScope s_q_distance) (by decide +kernel)) (fun C hw s H A cl fp => (gv_tup rfl (gv_cons (gv_name (i := 3) sc_q_distance.nd rfl (.inl rfl)) (gv_cons (gv_name (i := 4) sc_q_distance.nd rfl (.inl rfl)) gv_nil)))) (fun _ _ _ _ _ => ex_yes) (fun C hw s H A cl fp => (ev_callB (cD_max2 rfl) (by rfl) T.m_max (by decide +kernel) (ev_acons ev_int (ev_acons (ev_bin opD_sub (ev_var (pv 4)) (ev_var (pv 3))) ev_anil))))) ev_anil)))
  (sv_one (sv_ret (ev_callB (cD_max2 rfl) (by rfl) T.m_max (by decide +kernel) (ev_acons (ev_var (pv 2)) (ev_acons (ev_callB (cD_sum rfl) (by rfl) T.m_sum (by decide +kernel) (ev_acons (ev_lc (own := [("_law_before", 3), ("_law_after", 4)]) (S := [3, 4]) (sh := []) rfl sc_q_distance.nd (iv_zip (by rfl) T.m_zip (ev_acons (ev_var (pv 0)) (ev_acons (ev_var (pv 1)) ev_anil))) (blkOk_by (own := [("_law_before", 3), ("_law_after", 4)]) (N := n_q_distance) (sc := defScope s_q_distance) (by decide +kernel)) (fun C hw s H A cl fp => (gv_tup rfl (gv_cons (gv_name (i := 3) sc_q_distance.nd rfl (.inl rfl)) (gv_cons (gv_name (i := 4) sc_q_distance.nd rfl (.inl rfl)) gv_nil)))) (fun _ _ _ _ _ => ex_yes) (fun C hw s H A cl fp => (ev_callB (cD_max2 rfl) (by rfl) T.m_max (by decide +kernel) (ev_acons ev_int (ev_acons (ev_bin opD_sub (ev_var (pv 3)) (ev_var (pv 4))) ev_anil))))) ev_anil)) ev_anil))))))

theorem G_q_units (T : Txt K mg) (U : CaOk T ca) : FnOk P w K mg base (L2N.CX P w) 2 T.a_q_units T.d_q_units p_q_units (spF (Zdk Dx ca) 3 FF_q_units) :=
  fn_body (Z := (Zdk Dx ca)) (b := fb_q_units) T.F_q_units sc_q_units (by decide) (fun _ _ _ h => h) fun cdv A outer s H E C hr tk => 
  (sv_one (sv_ret (ev_callTy cD_tuple (by rfl) T.m_tuple (by decide +kernel) (ev_acons (ev_lc (own := [("_law_k", 3)]) (S := [3]) (sh := [0, 2]) rfl sc_q_units.nd (iv_range1 (by rfl) T.m_range (ev_acons (ev_var (pv 1)) ev_anil)) (blkOk_by (own := [("_law_k", 3)]) (N := n_q_units) (sc := defScope s_q_units) (by decide +kernel)) (fun C hw s H A cl fp => (gv_name (i := 3) sc_q_units.nd rfl (.inl rfl))) (fun _ _ _ _ _ => ex_yes) (fun C hw s H A cl fp => (ev_call (G_q_next T) (fun _ _ _ => len_q_next) (takes_dead hw) (hr.mono (by omega)) (by rfl) T.g_q_next T.F_q_next.kp T.b_q_next (ev_acons (ev_var (pv 0)) (ev_acons (ev_var (pv 2)) ev_anil))))) ev_anil))))

theorem G_q_near (T : Txt K mg) (U : CaOk T ca) : FnOk P w K mg base (L2N.CX P w) 2 T.a_q_near T.d_q_near p_q_near (spF (Zdk Dx ca) 1 FF_q_near) :=
  fn_body (Z := (Zdk Dx ca)) (b := fb_q_near) T.F_q_near sc_q_near (by decide) (fun _ _ _ h => h) fun cdv A outer s H E C hr tk => 
  (sv_cons (sv_parN (i := 1) (j := 2) rfl sc_q_near.nd rfl rfl (by decide) rfl rfl (ev_bin opD_add (ev_lst (ev_acons ev_non ev_anil)) (ev_lrng1 rfl (by rfl) T.m_list (by rfl) T.m_range (ev_callB cD_len (by rfl) T.m_len PySem.boot_len (ev_acons (ev_var (pv 0)) ev_anil)))) (by rfl))
  (sv_cons (sv_for (S := [3]) (by exact passes_of rfl) rfl (iv_seq (ev_var (pv 1))) (gv_name (i := 3) sc_q_near.nd rfl (.inr rfl)) (sv_one (sv_expr (ev_extend (pv 2) (ev_acons (ev_lc (own := [("_law_more", 5)]) (S := [5]) (sh := [0, 3]) rfl sc_q_near.nd (iv_seq (ev_var (pv 1))) (blkOk_by (own := [("_law_more", 5)]) (N := n_q_near) (sc := defScope s_q_near) (by decide +kernel)) (fun C hw s H A cl fp => (gv_name (i := 5) sc_q_near.nd rfl (.inl rfl))) (fun s H A cl fp => ex_one fun C hw => (et_cmp (opD_ne hr.units) (ev_var (pv 3)) (ev_var (pv 5)) (nomark _))) (fun C hw s H A cl fp => (ev_call (G_q_changed T U) (fun _ _ _ => len_q_changed) (takes_dead hw) (hr.mono (by omega)) (by rfl) T.g_q_changed T.F_q_changed.kp T.b_q_changed (ev_acons (ev_var (pv 0)) (ev_acons (ev_var (pv 3)) (ev_acons (ev_var (pv 5)) ev_anil)))))) ev_anil)))))
  (sv_one (sv_ret (ev_lc (own := [("_law_one_here", 4)]) (S := [4]) (sh := []) rfl sc_q_near.nd (iv_seq (ev_var (pv 2))) (blkOk_by (own := [("_law_one_here", 4)]) (N := n_q_near) (sc := defScope s_q_near) (by decide +kernel)) (fun C hw s H A cl fp => (gv_name (i := 4) sc_q_near.nd rfl (.inl rfl))) (fun s H A cl fp => ex_one fun C hw => (et_cmp opD_ge (ev_callB (cD_min rfl) (by rfl) T.m_min (by decide +kernel) (ev_acons (ev_var (pv 4)) ev_anil)) ev_int (nomark _))) (fun C hw s H A cl fp => (ev_var (pv 4))))))))

theorem G_q_three_right (T : Txt K mg) (U : CaOk T ca) : FnOk P w K mg base (L2N.CX P w) 13 T.a_q_three_right T.d_q_three_right p_q_three_right (spF (Zdk Dx ca) 3 FF_q_three_right) :=
  fn_body (Z := (Zdk Dx ca)) (b := fb_q_three_right) T.F_q_three_right sc_q_three_right (by decide) (fun _ _ _ h => h) fun cdv A outer s H E C hr tk => 
  (sv_cons (sv_set (i := 3) sc_q_three_right.nd rfl (.inl rfl) (ev_lst (ev_acons (ev_call (G_distance T U) (fun _ _ _ => len_distance) tk (hr.mono (by omega)) (by rfl) T.g_distance T.F_distance.kp T.b_distance (ev_acons (ev_var (pv 0)) (ev_acons (ev_var (pv 1)) ev_anil))) (ev_acons (ev_call (G_distance T U) (fun _ _ _ => len_distance) tk (hr.mono (by omega)) (by rfl) T.g_distance T.F_distance.kp T.b_distance (ev_acons (ev_var (pv 1)) (ev_acons (ev_var (pv 2)) ev_anil))) (ev_acons (ev_call (G_distance T U) (fun _ _ _ => len_distance) tk (hr.mono (by omega)) (by rfl) T.g_distance T.F_distance.kp T.b_distance (ev_acons (ev_var (pv 0)) (ev_acons (ev_var (pv 2)) ev_anil))) ev_anil)))))
  (sv_cons (sv_if (et_not (et_val (ev_call (G_q_same T U) (fun _ _ _ => len_q_same) tk (hr.mono (by omega)) (by rfl) T.g_q_same T.F_q_same.kp T.b_q_same (ev_acons (ev_var (pv 3)) (ev_acons (ev_lst (ev_acons (ev_call (G_q_distance T U) (fun _ _ _ => len_q_distance) tk (hr.mono (by omega)) (by rfl) T.g_q_distance T.F_q_distance.kp T.b_q_distance (ev_acons (ev_var (pv 0)) (ev_acons (ev_var (pv 1)) ev_anil))) (ev_acons (ev_call (G_q_distance T U) (fun _ _ _ => len_q_distance) tk (hr.mono (by omega)) (by rfl) T.g_q_distance T.F_q_distance.kp T.b_q_distance (ev_acons (ev_var (pv 1)) (ev_acons (ev_var (pv 2)) ev_anil))) (ev_acons (ev_call (G_q_distance T U) (fun _ _ _ => len_q_distance) tk (hr.mono (by omega)) (by rfl) T.g_q_distance T.F_q_distance.kp T.b_q_distance (ev_acons (ev_var (pv 0)) (ev_acons (ev_var (pv 2)) ev_anil))) ev_anil)))) ev_anil))))) (sv_one (sv_ret ev_bl)) sv_nil)
  (sv_cons (sv_if (PW.pt (ew_or (et_cmp opD_gt (ev_ix ixR (ev_var (pv 3)) ev_int (fun _ _ => rfl)) (ev_bin opD_add (ev_ix ixR (ev_var (pv 3)) ev_int (fun _ _ => rfl)) (ev_ix ixR (ev_var (pv 3)) ev_int (fun _ _ => rfl))) (nomark _)) (ew_or1 (et_cmp (opD_ne hr.units) (ev_call (G_distance T U) (fun _ _ _ => len_distance) tk (hr.mono (by omega)) (by rfl) T.g_distance T.F_distance.kp T.b_distance (ev_acons (ev_var (pv 1)) (ev_acons (ev_var (pv 0)) ev_anil))) (ev_ix ixR (ev_var (pv 3)) ev_int (fun _ _ => rfl)) (nomark _))))) (sv_one (sv_ret ev_bl)) sv_nil)
  (sv_one (sv_ret (ev_and (ev_cmp (opD_eq hr.units) (ev_cmp (opD_eq hr.units) (ev_ix ixR (ev_var (pv 3)) ev_int (fun _ _ => rfl)) ev_int (nomark _)) (ev_cmp (opD_eq hr.units) (ev_var (pv 0)) (ev_var (pv 1)) (nomark _)) (nomark _)) (ev_one (ev_cmp (opD_eq hr.units) (ev_cmp (opD_eq hr.units) (ev_ix ixR (ev_var (pv 3)) ev_int (fun _ _ => rfl)) ev_int (nomark _)) (ev_cmp (opD_in (units65 hr)) (ev_var (pv 1)) (ev_call (G_q_near T U) (fun _ _ _ => len_q_near) tk (hr.mono (by omega)) (by rfl) T.g_q_near T.F_q_near.kp T.b_q_near (ev_acons (ev_var (pv 0)) ev_anil)) (by rfl)) (nomark _)))))))))

theorem G_q_reached_right (T : Txt K mg) (U : CaOk T ca) : FnOk P w K mg base (L2N.CX P w) 3 T.a_q_reached_right T.d_q_reached_right p_q_reached_right (spF (Zdk Dx ca) 2 FF_q_reached_right) :=
  fn_body (Z := (Zdk Dx ca)) (b := fb_q_reached_right) T.F_q_reached_right sc_q_reached_right (by decide) (fun _ _ _ h => h) fun cdv A outer s H E C hr tk => 
  (sv_cons (sv_parB (i := 2) (j := 3) rfl sc_q_reached_right.nd rfl rfl (by decide) rfl rfl (ev_lst (ev_acons (ev_var (pv 0)) ev_anil)) (fun C hw => ev_int) (by rfl))
  (sv_cons (sv_while (by exact passes_of rfl) (PW.pt (ew_and (et_cmp (opD_notIn (units65 hr)) (ev_var (pv 1)) (ev_var (pv 2)) (by rfl)) (ew_and1 (et_cmp opD_lt (ev_var (pv 3)) ev_int (nomark _))))) (sv_cons (sv_set (i := 4) sc_q_reached_right.nd rfl (.inl rfl) (ev_lst ev_anil))
  (sv_cons (sv_for (S := [5]) (by exact passes_of rfl) rfl (iv_seq (ev_var (pv 2))) (gv_name (i := 5) sc_q_reached_right.nd rfl (.inl rfl)) (sv_one (sv_expr (ev_extend (pv 4) (ev_acons (ev_lc (own := [("_law_near_here", 6)]) (S := [6]) (sh := []) rfl sc_q_reached_right.nd (iv_seq (ev_call (G_q_near T U) (fun _ _ _ => len_q_near) tk (hr.mono (by omega)) (by rfl) T.g_q_near T.F_q_near.kp T.b_q_near (ev_acons (ev_var (pv 5)) ev_anil))) (blkOk_by (own := [("_law_near_here", 6)]) (N := n_q_reached_right) (sc := defScope s_q_reached_right) (by decide +kernel)) (fun C hw s H A cl fp => (gv_name (i := 6) sc_q_reached_right.nd rfl (.inl rfl))) (fun s H A cl fp => ex_one fun C hw => (et_cmp opD_lt (ev_callB (cD_max rfl) (by rfl) T.m_max (by decide +kernel) (ev_acons (ev_var (pv 6)) ev_anil)) ev_int (nomark _))) (fun C hw s H A cl fp => (ev_var (pv 6)))) ev_anil)))))
  (sv_one (sv_parB (i := 2) (j := 3) rfl sc_q_reached_right.nd rfl rfl (by decide) rfl rfl (ev_sortSetP (units65 hr) (by rfl) T.m_sorted (by rfl) T.m_set (ev_bin opD_add (ev_var (pv 2)) (ev_var (pv 4)))) (fun C hw => (ev_bin opD_add (ev_var (pv 3)) ev_int)) (by rfl))))))
  (sv_one (sv_ret (ev_cmp (opD_eq hr.units) (ev_call (G_distance T U) (fun _ _ _ => len_distance) tk (hr.mono (by omega)) (by rfl) T.g_distance T.F_distance.kp T.b_distance (ev_acons (ev_var (pv 0)) (ev_acons (ev_var (pv 1)) ev_anil))) (ev_var (pv 3)) (nomark _))))))

end
end FD

set_option maxHeartbeats 4000000
namespace FD
open PySem PySem.Spec PyProof.Rows L2
section
variable {P : Program} {w : World} {K : PySem.W.Frag} {mg : Str → Option Value} {base : Heap}
theorem ok_q_deck (T : Txt K mg) : FnOk P w K mg base CX0 1 T.a_q_deck T.d_q_deck p_q_deck (sp_q_deck K) := by
  refine T.F_q_deck.ok sc_q_deck (fun vs H Q E h => ?_) (fun cdv A outer s H vs Q E hr h => ?_)
  · obtain ⟨a, ns, rfl, _⟩ := h
    rfl
  · obtain ⟨a, ns, rfl, hS, hl, q⟩ := h
    refine ⟨_, (pss_cons (ps_setLc (i := 1) (own := [("_law_cell", 2)]) (g := (gName 2)) (tt := tYes) rfl sc_q_deck.nd rfl rfl (sw_true rfl rfl rfl (by decide +kernel)) (pi_list (pv 0)) (blkOk_by (own := [("_law_cell", 2)]) (N := n_q_deck) (sc := defScope s_q_deck) (by decide +kernel)) (fun _ _ _ _ _ => (pg_name (i := 2) sc_q_deck.nd rfl (.inl rfl))) (fun _ _ _ _ _ => pts_nil) (fun _ _ _ _ _ => (pe_callB call_abs (by rfl) T.m_abs (by decide +kernel) (pa_cons (pv 2) pa_nil))))
(pss_one (ps_ret (pe_lst (pa_cons (pe_lc (own := [("_law_cell", 2)]) (g := (gName 2)) (tt := _) rfl sc_q_deck.nd (pi_list (pv 1)) (blkOk_by (own := [("_law_cell", 2)]) (N := n_q_deck) (sc := defScope s_q_deck) (by decide +kernel)) (fun _ _ _ _ _ => (pg_name (i := 2) sc_q_deck.nd rfl (.inl rfl))) (fun _ _ _ _ _ => pts_one (pt_cmpR op_ge (pv 2) (pe_op op_pow pe_int pe_int) (nomark _))) (fun _ _ _ _ _ => (pv 2))) (pa_cons (pe_op op_cat (pv 1) (pe_lst (pa_cons (pe_op op_add (pe_callB (call_len_seq) (by rfl) T.m_len PySem.boot_len (pa_cons (pv 1) pa_nil)) pe_int) pa_nil))) (pa_cons pe_int pa_nil))))))), ?_⟩
    refine ⟨.ref a, rfl, a, rfl, ⟨_, hS⟩, fun C nC => lc_list (K := K) (a := a) (xs := ns.map V.int) (fun i H' => Same H H' ∧ H' C = some (.lst (((ns.take i).map absI).map V.int)))
      ⟨same_new nC, upd_same⟩ (fun i H' _ h => h.1.seq hS) (fun i x H' hx hp => ?_) (fun H1 hp => ?_)⟩
    · obtain ⟨sm, eC⟩ := hp
      rw [List.getElem?_map] at hx
      cases e : ns[i]? with
      | none => rw [e] at hx; cases hx
      | some n =>
        rw [e] at hx
        cases hx
        refine ⟨rfl, ⟨_, rfl, n, rfl, _, eC, ?_, same_set sm nC, ?_⟩⟩
        · rw [List.length_map, List.length_map, List.length_take]
          exact small1000 (by omega)
        · rw [upd_same, List.take_add_one, e, List.map_append, List.map_append]
          rfl
    · obtain ⟨sm, eC⟩ := hp
      rw [List.length_map] at eC
      rw [List.take_length] at eC
      have hC : SqL K H1 C ((ns.map absI).map V.int) := .inl (.inl eC)
      refine ⟨_, rfl, C, rfl, ⟨_, hC⟩, fun B nB => lc_list (K := K) (a := C) (xs := (ns.map absI).map V.int) (fun i H' => Same H1 H' ∧ H' B = some (.lst ((bigs ((ns.map absI).take i)).map V.int)))
        ⟨same_new nB, upd_same⟩ (fun i H' _ h => h.1.seq hC) (fun i x H' hx hp => ?_) (fun H2 hp => ?_)⟩
      · obtain ⟨sm1, eB⟩ := hp
        rw [List.getElem?_map] at hx
        cases e : (ns.map absI)[i]? with
        | none => rw [e] at hx; cases hx
        | some n =>
          rw [e] at hx
          cases hx
          refine ⟨rfl, _, rfl, _, _, rfl, rfl, ⟨by decide, by decide, by decide⟩, _, _, rfl, rfl, _, rfl, ite2 (fun c => ?_) (fun c => ?_)⟩
          · have c' : (1000000000000000000 : Int) ≤ n := of_decide_eq_true c
            refine ⟨_, rfl, _, eB, ?_, same_set sm1 nB, ?_⟩
            · rw [List.length_map]
              have := List.length_filter_le (fun n => decide ((1000000000000000000 : Int) ≤ n)) ((ns.map absI).take i)
              rw [List.length_take, List.length_map] at this
              exact small1000 (by unfold bigs; omega)
            · rw [upd_same, bigs_take e, if_pos c', List.map_append]
              rfl
          · have c' : ¬ (1000000000000000000 : Int) ≤ n := fun z => c (decide_eq_true z)
            refine ⟨sm1, ?_⟩
            rw [bigs_take e, if_neg c', List.append_nil]
            exact eB
      · obtain ⟨sm1, eB⟩ := hp
        have nCB : C ≠ B := ne_of_none eC nB
        refine ⟨_, rfl, _, rfl, C, _, rfl, .inl (sm1.seq hC), _, _, rfl, rfl, le_line (by simp), fun p np => ?_⟩
        refine ⟨C, p, _, _, rfl, rfl, by rw [upd_ne (ne_of_none (sm1 _ _ eC) np)]; exact sm1 _ _ eC, upd_same, ?_, fun r nr => ⟨le_line (by simp), fun D nD => ?_⟩⟩
        · rw [List.length_map, List.length_map]
          exact Nat.le_of_lt (small1000 (by show ns.length + 1 ≤ 1000; omega))
        · have sA : Same H (upd (upd (upd H2 p (.lst [V.int (((ns.map absI).map V.int).length + 3)])) r (.lst ((ns.map absI).map V.int ++ [V.int (((ns.map absI).map V.int).length + 3)]))) D (.lst [.ref B, .ref r, .int 0])) :=
            ((sm.trans sm1).trans (same_new np)).trans ((same_new nr).trans (same_new nD))
          have eBp : (upd H2 p (.lst [V.int (((ns.map absI).map V.int).length + 3)])) B = some (.lst ((bigs (((ns.map absI)).take ((ns.map absI).map V.int).length)).map V.int)) := upd_keep np eB
          have hDB : D ≠ B := (ne_of_none (upd_keep nr eBp) nD).symm
          have hrB : r ≠ B := (ne_of_none eBp nr).symm
          have hDr : D ≠ r := fun z => by
            rw [z, upd_same] at nD
            cases nD
          have nr0 : H r = none := Same.free ((sm.trans sm1).trans (same_new np)) nr
          have nD0 : H D = none := Same.free (((sm.trans sm1).trans (same_new np)).trans (same_new nr)) nD
          have nB0 : H B = none := Same.free sm nB
          refine q _ ⟨D, B, r⟩ (bigs ((ns.map absI).take ((ns.map absI).map V.int).length)) (ns.map absI ++ [((((ns.map absI).map V.int).length : Nat) : Int) + 3]) sA nD0 nB0 nr0 ⟨?_, ?_, ?_, ?_, hDB, hDr, hrB⟩
          · rw [upd_same]
            rfl
          · rw [upd_ne hDB.symm]
            exact upd_keep nr eBp
          · rw [upd_ne hDr.symm, upd_same, List.map_append]
            rfl
          · rw [List.length_append]
            show 0 < _ + 1
            omega


theorem ok_law (T : Txt K mg) (ca : Str → Addr) (U : CaOk T ca) (pure_ : ∀ t : DS, t.c = 0 → ∃ s', fb_law (lawS 11, t) = some (.rt (.d (.bl true)), s')) : FnG P w K mg base (L2N.CX P w) 14 T.a_law T.d_law p_law (sp_law K) := by
  refine fun_okG T.F_law sc_law (fun vs H Q E h => ?_) fun cdv B outer s H vs Q E hB hr h => ?_
  · obtain ⟨a, ns, rfl, _⟩ := h
    rfl
  obtain ⟨a, ns, rfl, hS, hl, q⟩ := h
  have hG : (cxOf (L2N.CX P w) P w K mg base n_law "law" (defScope s_law) T.a_law cdv B outer s H E).A.guards = some [] := hB
  refine ⟨_, pss_cons (ps_set (i := 1) sc_law.nd rfl (.inr rfl) (pe_call (ok_q_deck T) (hr.mono (by omega)) (by rfl) T.g_q_deck T.F_q_deck.kp T.b_q_deck .nil pass0 (pa_cons (pv 0) pa_nil))) (ex_S (fv := (fun _ => .non)) (f := fb_law) (ca0 := ca) fun Dx C hw => ?rest), ?_⟩
  case rest =>
    have tk := fun {X : Cx} => takes_dead (X := X) hw
    exact (sv_cons (sv_for (S := [2]) (by exact passes_of rfl) rfl (iv_range1 (by rfl) T.m_range (ev_acons ev_int ev_anil)) (gv_name (i := 2) sc_law.nd rfl (.inl rfl)) (sv_cons (sv_asg (S := [3, 4]) (ev_tup (ev_acons (ev_bin opD_add ev_int (ev_call (G_q_next T) (fun _ _ _ => len_q_next) tk (hr.mono (by omega)) (by rfl) T.g_q_next T.F_q_next.kp T.b_q_next (ev_acons (ev_var (pv 1)) (ev_acons ev_int ev_anil)))) (ev_acons (ev_call (G_q_one T U) (fun _ _ _ => len_q_one) tk (hr.mono (by omega)) (by rfl) T.g_q_one T.F_q_one.kp T.b_q_one (ev_acons (ev_var (pv 1)) (ev_acons (ev_lst (ev_acons ev_int (ev_acons ev_int (ev_acons ev_int (ev_acons (ev_bin opD_mul ev_int (ev_bin opD_pow ev_int ev_int)) ev_anil))))) ev_anil))) ev_anil))) (gv_tup rfl (gv_cons (gv_name (i := 3) sc_law.nd rfl (.inr rfl)) (gv_cons (gv_name (i := 4) sc_law.nd rfl (.inr rfl)) gv_nil))))
  (sv_cons (sv_asg (S := [5, 6, 7]) (ev_lc (own := [("_law_k", 10)]) (S := [10]) (sh := [1, 3, 4]) rfl sc_law.nd (iv_range1 (by rfl) T.m_range (ev_acons ev_int ev_anil)) (blkOk_by (own := [("_law_k", 10)]) (N := n_law) (sc := defScope s_law) (by decide +kernel)) (fun C hw s H A cl fp => (gv_name (i := 10) sc_law.nd rfl (.inl rfl))) (fun _ _ _ _ _ => ex_yes) (fun C hw s H A cl fp => (ev_call (G_q_units T U) (fun _ _ _ => len_q_units) (takes_dead hw) (hr.mono (by omega)) (by rfl) T.g_q_units T.F_q_units.kp T.b_q_units (ev_acons (ev_var (pv 1)) (ev_acons (ev_var (pv 3)) (ev_acons (ev_var (pv 4)) ev_anil)))))) (gv_lst rfl (gv_cons (gv_name (i := 5) sc_law.nd rfl (.inl rfl)) (gv_cons (gv_name (i := 6) sc_law.nd rfl (.inl rfl)) (gv_cons (gv_name (i := 7) sc_law.nd rfl (.inl rfl)) gv_nil)))))
  (sv_cons (sv_set (i := 8) sc_law.nd rfl (.inl rfl) (ev_call (G_q_one T U) (fun _ _ _ => len_q_one) tk (hr.mono (by omega)) (by rfl) T.g_q_one T.F_q_one.kp T.b_q_one (ev_acons (ev_var (pv 1)) (ev_acons (ev_call (G_q_near T U) (fun _ _ _ => len_q_near) tk (hr.mono (by omega)) (by rfl) T.g_q_near T.F_q_near.kp T.b_q_near (ev_acons (ev_var (pv 5)) ev_anil)) ev_anil))))
  (sv_cons (sv_set (i := 9) sc_law.nd rfl (.inl rfl) (ev_callB (cD_reprX hG hr.units) (by rfl) T.m_repr (by decide +kernel) (ev_acons (ev_lst (ev_acons (ev_var (pv 5)) (ev_acons (ev_var (pv 6)) (ev_acons (ev_var (pv 7)) (ev_acons (ev_var (pv 8)) ev_anil))))) ev_anil)))
  (sv_cons (sv_if (PW.pt (ew_or (et_not (et_val (ev_call (G_q_three_right T U) (fun _ _ _ => len_q_three_right) tk (hr.mono (by omega)) (by rfl) T.g_q_three_right T.F_q_three_right.kp T.b_q_three_right (ev_acons (ev_var (pv 5)) (ev_acons (ev_var (pv 6)) (ev_acons (ev_var (pv 7)) ev_anil)))))) (ew_or1 (et_not (et_val (ev_call (G_q_three_right T U) (fun _ _ _ => len_q_three_right) tk (hr.mono (by omega)) (by rfl) T.g_q_three_right T.F_q_three_right.kp T.b_q_three_right (ev_acons (ev_var (pv 5)) (ev_acons (ev_var (pv 8)) (ev_acons (ev_var (pv 6)) ev_anil))))))))) (sv_one (sv_ret ev_bl)) sv_nil)
  (sv_one (sv_if (PW.pt (ew_or (et_not (et_val (ev_call (G_q_three_right T U) (fun _ _ _ => len_q_three_right) tk (hr.mono (by omega)) (by rfl) T.g_q_three_right T.F_q_three_right.kp T.b_q_three_right (ev_acons (ev_var (pv 5)) (ev_acons (ev_var (pv 5)) (ev_acons (ev_var (pv 6)) ev_anil)))))) (ew_or1 (et_cmp (opD_ne hr.units) (ev_callB (cD_reprX hG hr.units) (by rfl) T.m_repr (by decide +kernel) (ev_acons (ev_lst (ev_acons (ev_var (pv 5)) (ev_acons (ev_var (pv 6)) (ev_acons (ev_var (pv 7)) (ev_acons (ev_var (pv 8)) ev_anil))))) ev_anil)) (ev_var (pv 9)) (nomark _))))) (sv_one (sv_ret ev_bl)) sv_nil))))))))
  (sv_cons (sv_for (S := [2]) (by exact passes_of rfl) rfl (iv_range1 (by rfl) T.m_range (ev_acons ev_int ev_anil)) (gv_name (i := 2) sc_law.nd rfl (.inl rfl)) (sv_one (sv_if (et_not (et_val (ev_call (G_q_reached_right T U) (fun _ _ _ => len_q_reached_right) tk (hr.mono (by omega)) (by rfl) T.g_q_reached_right T.F_q_reached_right.kp T.b_q_reached_right (ev_acons (ev_call (G_q_units T U) (fun _ _ _ => len_q_units) tk (hr.mono (by omega)) (by rfl) T.g_q_units T.F_q_units.kp T.b_q_units (ev_acons (ev_var (pv 1)) (ev_acons ev_int (ev_acons ev_int ev_anil)))) (ev_acons (ev_call (G_q_units T U) (fun _ _ _ => len_q_units) tk (hr.mono (by omega)) (by rfl) T.g_q_units T.F_q_units.kp T.b_q_units (ev_acons (ev_var (pv 1)) (ev_acons ev_int (ev_acons ev_int ev_anil)))) ev_anil))))) (sv_one (sv_ret ev_bl)) sv_nil)))
  (sv_one (sv_ret (ev_and (ev_cmp (opD_eq hr.units) (ev_call (G_distance T U) (fun _ _ _ => len_distance) tk (hr.mono (by omega)) (by rfl) T.g_distance T.F_distance.kp T.b_distance (ev_acons (ev_tup (ev_acons ev_int (ev_acons ev_int ev_anil))) (ev_acons (ev_tup (ev_acons ev_int (ev_acons ev_int ev_anil))) ev_anil))) ev_int (nomark _)) (ev_one (ev_cmp (opD_eq hr.units) (ev_call (G_distance T U) (fun _ _ _ => len_distance) tk (hr.mono (by omega)) (by rfl) T.g_distance T.F_distance.kp T.b_distance (ev_acons (ev_tup (ev_acons ev_int (ev_acons ev_int ev_anil))) (ev_acons (ev_tup (ev_acons ev_int (ev_acons ev_int ev_anil))) ev_anil))) ev_int (nomark _))))))))
  refine ⟨_, rfl, a, ns, rfl, hS, hl, fun H' D big cells sm n1 n2 n3 at_ => ⟨D, ⟨(Zdk D ca).hid, H', dead, noEv⟩, rfl, law_rest (n := 11) rfl (by decide) rfl rfl at_ q pure_⟩⟩

end
end FD

/-! LR: neighbours of plans, by the far laws. -/
namespace FD
open PySem PySem.Spec PyProof.Rows L2
def onD : Option Nat → D
  | none => .non
  | some k => .int (k : Nat)
def chgL (ns : List Int) (a b : Option Nat) : List Int := match a, b with
  | none, none => ns
  | some i, none => stepL ns i (-1)
  | none, some j => stepL ns j 1
  | some i, some j => stepL (stepL ns i (-1)) j 1
theorem q_changed_eq {ns : List Int} {a b : Option Nat} {t : DS} (l : ns.length ≤ 1000) (ha : ∀ i, a = some i → i < ns.length) (hb : ∀ i, b = some i → i < ns.length) : FF_q_changed [tpI ns, onD a, onD b] t = some (.ok (tpI (chgL ns a b)) false, t) := by
  have lp : listD [tpI ns] = some (.lst (ns.map D.int), true) := v_list_tp (by omega)
  have ix : ∀ (c : List Int) (i : Nat), i < c.length → ixD (.lst (c.map D.int)) (.int (i : Nat)) = some (.int (c[i]?.getD 0), false) := fun c i h => ix_int h
  refine w_eq ?_
  unfold FF_q_changed fb_q_changed
  have ni : ∀ i : Nat, i < ns.length → ixN ns.length (i : Int) = some i := fun i h => by
    rw [ixN_of (n := ns.length) (i := (i : Int)) (by omega) (by omega), Int.toNat_natCast]
  have em : ∀ (c : List Int) (k : Nat) (d : Int), (c.map D.int).set k (.int (c[k]?.getD 0 + d)) = (stepL c k d).map D.int := fun c k d => set_int
  cases a with
  | none =>
    cases b with
    | none =>
      simp only [onD, chgL]
      simp only [fdA, List.map_cons, List.map_nil, List.length_cons, List.length_nil, List.cons_append, List.nil_append, List.replicate_succ, List.replicate_zero, Nat.zero_add, Nat.reduceAdd, Nat.reduceSub, Nat.sub_self, if_true, if_false, Bool.false_eq_true, Bool.not_true, Bool.not_false, reduceCtorEq, ite_true, ite_false, List.getElem?_cons_zero, List.getElem?_cons_succ, List.set_cons_zero, List.set_cons_succ, LEN, Nat.reduceLeDiff, Option.map_some, fvA, List.length_map, List.length_set, decide_true, decide_false, fhA, List.mem_cons, List.not_mem_nil, or_false, or_true, Nat.reduceEqDiff, Nat.succ_ne_self, fxA, fwA, fyA, and_true, true_and, imp_self, true_imp_iff, false_imp_iff, implies_true, fzA, fzW, lp]
    | some j =>
      have hj := hb j rfl
      simp only [onD, chgL]
      simp only [fdA, List.map_cons, List.map_nil, List.length_cons, List.length_nil, List.cons_append, List.nil_append, List.replicate_succ, List.replicate_zero, Nat.zero_add, Nat.reduceAdd, Nat.reduceSub, Nat.sub_self, if_true, if_false, Bool.false_eq_true, Bool.not_true, Bool.not_false, reduceCtorEq, ite_true, ite_false, List.getElem?_cons_zero, List.getElem?_cons_succ, List.set_cons_zero, List.set_cons_succ, LEN, Nat.reduceLeDiff, Option.map_some, fvA, List.length_map, List.length_set, decide_true, decide_false, fhA, List.mem_cons, List.not_mem_nil, or_false, or_true, Nat.reduceEqDiff, Nat.succ_ne_self, fxA, fwA, fyA, and_true, true_and, imp_self, true_imp_iff, false_imp_iff, implies_true, fzA, fzW, lp, ix ns j hj, ni j hj]
      rfl
  | some i =>
    have hi := ha i rfl
    cases b with
    | none =>
      simp only [onD, chgL]
      simp only [fdA, List.map_cons, List.map_nil, List.length_cons, List.length_nil, List.cons_append, List.nil_append, List.replicate_succ, List.replicate_zero, Nat.zero_add, Nat.reduceAdd, Nat.reduceSub, Nat.sub_self, if_true, if_false, Bool.false_eq_true, Bool.not_true, Bool.not_false, reduceCtorEq, ite_true, ite_false, List.getElem?_cons_zero, List.getElem?_cons_succ, List.set_cons_zero, List.set_cons_succ, LEN, Nat.reduceLeDiff, Option.map_some, fvA, List.length_map, List.length_set, decide_true, decide_false, fhA, List.mem_cons, List.not_mem_nil, or_false, or_true, Nat.reduceEqDiff, Nat.succ_ne_self, fxA, fwA, fyA, and_true, true_and, imp_self, true_imp_iff, false_imp_iff, implies_true, fzA, fzW, lp, ix ns i hi, ni i hi]
      rfl
    | some j =>
      have hj := hb j rfl
      simp only [onD, chgL]
      have ij := ix_int (ns := stepL ns i (-1)) (k := j) (by rw [stepL_len]; exact hj)
      have es : ((ns.set i (ns[i]?.getD 0 - 1)).map D.int) = (stepL ns i (-1)).map D.int := rfl
      have nj : ixN (stepL ns i (-1)).length (j : Int) = some j := by rw [stepL_len]; exact ni j hj
      simp only [fdA, List.map_cons, List.map_nil, List.length_cons, List.length_nil, List.cons_append, List.nil_append, List.replicate_succ, List.replicate_zero, Nat.zero_add, Nat.reduceAdd, Nat.reduceSub, Nat.sub_self, if_true, if_false, Bool.false_eq_true, Bool.not_true, Bool.not_false, reduceCtorEq, ite_true, ite_false, List.getElem?_cons_zero, List.getElem?_cons_succ, List.set_cons_zero, List.set_cons_succ, LEN, Nat.reduceLeDiff, Option.map_some, fvA, List.length_map, List.length_set, decide_true, decide_false, fhA, List.mem_cons, List.not_mem_nil, or_false, or_true, Nat.reduceEqDiff, Nat.succ_ne_self, fxA, fwA, fyA, and_true, true_and, imp_self, true_imp_iff, false_imp_iff, implies_true, fzA, fzW, lp, ix ns i hi, ni i hi]
      rw [es]
      simp only [fdA, List.map_cons, List.map_nil, List.length_cons, List.length_nil, List.cons_append, List.nil_append, List.replicate_succ, List.replicate_zero, Nat.zero_add, Nat.reduceAdd, Nat.reduceSub, Nat.sub_self, if_true, if_false, Bool.false_eq_true, Bool.not_true, Bool.not_false, reduceCtorEq, ite_true, ite_false, List.getElem?_cons_zero, List.getElem?_cons_succ, List.set_cons_zero, List.set_cons_succ, LEN, Nat.reduceLeDiff, Option.map_some, fvA, List.length_map, List.length_set, decide_true, decide_false, fhA, List.mem_cons, List.not_mem_nil, or_false, or_true, Nat.reduceEqDiff, Nat.succ_ne_self, fxA, fwA, fyA, and_true, true_and, imp_self, true_imp_iff, false_imp_iff, implies_true, fzA, fzW, ij, nj]
      rfl
/-- the names that the far laws go through: none, and each item -/
def namesL (n : Nat) : List (Option Nat) := none :: (List.range n).map some
def nbrs0 (ns : List Int) : List (List Int) := (namesL ns.length).flatMap fun a => ((namesL ns.length).filter fun b => decide (a ≠ b)).map fun b => chgL ns a b
theorem chgL_len {ns : List Int} {a b : Option Nat} : (chgL ns a b).length = ns.length := by
  cases a <;> cases b <;> simp [chgL, stepL_len]
theorem mem_namesL {n : Nat} {a : Option Nat} : a ∈ namesL n ↔ ∀ i, a = some i → i < n := by
  unfold namesL
  cases a with
  | none => simp
  | some i => simp
theorem names_len {n : Nat} : (namesL n).length = n + 1 := by simp [namesL]
theorem mem_nbrs0 {ns c : List Int} : c ∈ nbrs0 ns ↔ ∃ e ∈ allEx ns.length, c = movL ns e := by
  unfold nbrs0
  rw [List.mem_flatMap]
  constructor
  · rintro ⟨a, ma, h⟩
    obtain ⟨b, mb, rfl⟩ := List.mem_map.mp h
    obtain ⟨mb, ne⟩ := List.mem_filter.mp mb
    have ne := of_decide_eq_true ne
    have ra := mem_namesL.mp ma
    have rb := mem_namesL.mp mb
    cases a with
    | none =>
      cases b with
      | none => exact absurd rfl ne
      | some j => exact ⟨.more j, allEx_mem.mpr ⟨0, by omega, List.mem_map.mpr ⟨j, List.mem_range.mpr (rb j rfl), rfl⟩⟩, rfl⟩
    | some i =>
      cases b with
      | none => exact ⟨.less i, allEx_mem.mpr ⟨1, by omega, List.mem_map.mpr ⟨i, List.mem_range.mpr (ra i rfl), rfl⟩⟩, rfl⟩
      | some j => exact ⟨.move i j, allEx_mem.mpr ⟨2, by omega, List.mem_flatMap.mpr ⟨i, List.mem_range.mpr (ra i rfl), List.mem_map.mpr ⟨j, List.mem_filter.mpr ⟨List.mem_range.mpr (rb j rfl), by simpa using fun z : i = j => ne (by rw [z])⟩, rfl⟩⟩⟩, rfl⟩
  · rintro ⟨e, me, rfl⟩
    obtain ⟨w, _, mw⟩ := allEx_mem.mp me
    have inn := exs_inn e mw
    cases e with
    | more j => exact ⟨none, by simp [namesL], List.mem_map.mpr ⟨some j, List.mem_filter.mpr ⟨mem_namesL.mpr fun i h => by cases h; exact inn, by simp⟩, rfl⟩⟩
    | less i => exact ⟨some i, mem_namesL.mpr fun k h => (by cases h; exact inn), List.mem_map.mpr ⟨none, List.mem_filter.mpr ⟨by simp [namesL], by simp⟩, rfl⟩⟩
    | move i j =>
      have nij : i ≠ j := by
        match w, mw with
        | 0, m =>
          obtain ⟨_, _, h⟩ := List.mem_map.mp m
          cases h
        | 1, m =>
          obtain ⟨_, _, h⟩ := List.mem_map.mp m
          cases h
        | w + 2, m =>
          obtain ⟨a, _, h⟩ := List.mem_flatMap.mp m
          obtain ⟨b, mb, h⟩ := List.mem_map.mp h
          have := of_decide_eq_true (List.mem_filter.mp mb).2
          cases h
          exact this
      exact ⟨some i, mem_namesL.mpr fun k h => (by cases h; exact inn.1), List.mem_map.mpr ⟨some j, List.mem_filter.mpr ⟨mem_namesL.mpr fun k h => (by cases h; exact inn.2), by simpa using nij⟩, rfl⟩⟩
theorem ne_onD {a b : Option Nat} : neD (onD a) (onD b) = some (.bl (decide (a ≠ b)), false) := by
  have k : ∀ x : Option Nat, okD 64 (onD x) = true := fun x => by cases x <;> simp [onD, okD]
  have e : neD (onD a) (onD b) = some (.bl (!eqB (onD a) (onD b)), false) := by
    cases a with
    | none => cases b with
      | none => exact if_pos (e := neX .non .non) (And.intro (k none) (k none))
      | some j => exact if_pos (e := neX .non (.int (j : Nat))) (And.intro (k none) (k (some j)))
    | some i => cases b with
      | none => exact if_pos (e := neX (.int (i : Nat)) .non) (And.intro (k (some i)) (k none))
      | some j => exact if_pos (e := neX (.int (i : Nat)) (.int (j : Nat))) (And.intro (k (some i)) (k (some j)))
  rw [e]
  cases a with
  | none =>
    cases b with
    | none => simp [onD, eqB, py, PyData.eqv]
    | some j => simp [onD, eqB, py, PyData.eqv]
  | some i =>
    cases b with
    | none => simp [onD, eqB, py, PyData.eqv]
    | some j =>
      simp only [onD, eqB_int]
      by_cases c : i = j
      · simp [c]
      · have : ¬ ((i : Nat) : Int) = (j : Nat) := by omega
        simp [c, this]
def rowL (ns : List Int) (a : Option Nat) : List (List Int) := ((namesL ns.length).filter fun b => decide (a ≠ b)).map fun b => chgL ns a b
theorem rowL_len {ns : List Int} {a : Option Nat} (l : ns.length ≤ 6) : (rowL ns a).length ≤ 7 := by
  unfold rowL
  rw [List.length_map]
  have := List.length_filter_le (fun b => decide (a ≠ b)) (namesL ns.length)
  rw [names_len] at this
  omega
theorem rows_len {ns : List Int} (l : ns.length ≤ 6) : ∀ as : List (Option Nat), (as.flatMap (rowL ns)).length ≤ 7 * as.length
  | [] => by simp
  | a :: as => by
    have := rows_len l as
    have := rowL_len (a := a) l
    rw [List.flatMap_cons, List.length_append, List.length_cons]
    omega
end FD

/-! RL: systems with the same plans under other numbers: curves, groups and items in another order. -/
namespace FD
open PySem PySem.Spec PyProof.Rows L2
/-! ### falling steps are told by their sums -/
/-! ### the same totals and gains -/
/-! ### groups in another order -/
/-! ### drawn orders -/
/-! ### items in another order -/
section
variable {s : Sys} {o : List Int}
end
end FD

namespace FD
open PySem PySem.Spec PyProof.Rows L2
/-! ### plans in lists -/
theorem okAll_pl {A : List (List Int)} : okAll 63 (A.map tpI) = true := okAll_all.mpr fun d m => by
  obtain ⟨a, _, rfl⟩ := List.mem_map.mp m
  exact okD_tpI
theorem eqB_tpI {a b : List Int} : eqB (tpI a) (tpI b) = decide (a = b) := by simp [eqB, tpI, py, pys_int, PyData.eqv, eqvAll_int]
theorem any_pl {a : List Int} {A : List (List Int)} : ((A.map tpI).any fun z => eqB z (tpI a)) = decide (a ∈ A) := by
  rw [Bool.eq_iff_iff, List.any_eq_true, decide_eq_true_iff]
  constructor
  · rintro ⟨d, m, e⟩
    obtain ⟨b, mb, rfl⟩ := List.mem_map.mp m
    rw [eqB_tpI] at e
    rw [← of_decide_eq_true e]
    exact mb
  · exact fun m => ⟨_, List.mem_map.mpr ⟨a, m, rfl⟩, by rw [eqB_tpI]; exact decide_eq_true rfl⟩
theorem v_in_pl {a : List Int} {A : List (List Int)} : inD (tpI a) (.lst (A.map tpI)) = some (.bl (decide (a ∈ A)), false) := by
  show (if okD 63 (tpI a) = true ∧ okAll 63 (A.map tpI) = true then some (D.bl ((A.map tpI).any fun z => eqB z (tpI a)), false) else none) = _
  rw [if_pos ⟨okD_tpI, okAll_pl⟩, any_pl]
theorem v_nin_pl {a : List Int} {A : List (List Int)} : notInD (tpI a) (.lst (A.map tpI)) = some (.bl (!decide (a ∈ A)), false) := by
  show (if okD 63 (tpI a) = true ∧ okAll 63 (A.map tpI) = true then some (D.bl (!(A.map tpI).any fun z => eqB z (tpI a)), false) else none) = _
  rw [if_pos ⟨okD_tpI, okAll_pl⟩, any_pl]
theorem v_min_tp {c : List Int} (h : c ≠ []) : minD [tpI c] = some (.int (minL c), false) := by
  cases c with
  | nil => exact absurd rfl h
  | cons x r => simp only [tpI, minD, intsD_map]
theorem v_max_tp {c : List Int} (h : c ≠ []) : maxD [tpI c] = some (.int (maxL c), false) := by
  cases c with
  | nil => exact absurd rfl h
  | cons x r => simp only [tpI, maxD, intsD_map]
theorem minL_ge {c : List Int} (h : c ≠ []) {z : Int} : z ≤ minL c ↔ ∀ x ∈ c, z ≤ x :=
  ⟨fun q x m => Int.le_trans q (minL_le m), fun q => q _ (minL_mem h)⟩
theorem maxL_lt {c : List Int} (h : c ≠ []) {z : Int} : maxL c < z ↔ ∀ x ∈ c, x < z :=
  ⟨fun q x m => Int.lt_of_le_of_lt (maxL_le m) q, fun q => q _ (maxL_mem h)⟩
/-! ### plans one exchange away -/
def nearP (ns : List Int) : List (List Int) := (nbrs0 ns).filter fun c => decide (0 ≤ minL c)
theorem nbrs0_len {ns c : List Int} (m : c ∈ nbrs0 ns) : c.length = ns.length := by
  obtain ⟨a, _, h⟩ := List.mem_flatMap.mp m
  obtain ⟨b, _, rfl⟩ := List.mem_map.mp h
  exact chgL_len
theorem q_near_eq {ns : List Int} {t : DS} (l6 : ns.length ≤ 6) (l1 : 0 < ns.length) : FF_q_near [tpI ns] t = some (.ok (.lst ((nearP ns).map tpI)) true, t) := by
  have ln : lenD [tpI ns] = some (.int (ns.length : Nat), false) := by
    show some (D.int ((ns.map D.int).length : Nat), false) = _
    rw [List.length_map]
  have nm : addD (.lst [.non]) (.lst (rngL 0 (ns.length : Nat))) = some (.lst ((namesL ns.length).map onD), true) := by
    rw [v_cat (by rw [rngL_len]; exact Nat.le_trans (show _ ≤ 100 by simp; omega) (by decide)), rngL_nat]
    simp only [namesL, List.map_cons, List.map_map]
    rfl
  have key : wF (FF_q_near [tpI ns] t) fun o t' => t' = t ∧ o = .ok (.lst ((nearP ns).map tpI)) true := by
    unfold FF_q_near fb_q_near
    simp only [fdA, List.map_cons, List.map_nil, List.length_cons, List.length_nil, List.cons_append, List.nil_append, List.replicate_succ, List.replicate_zero, Nat.zero_add, Nat.reduceAdd, Nat.reduceSub, Nat.sub_self, if_true, if_false, Bool.false_eq_true, Bool.not_true, Bool.not_false, reduceCtorEq, ite_true, ite_false, List.getElem?_cons_zero, List.getElem?_cons_succ, List.set_cons_zero, List.set_cons_succ, LEN, Nat.reduceLeDiff, Option.map_some, fvA, List.length_map, List.length_set, decide_true, decide_false, fhA, List.mem_cons, List.not_mem_nil, or_false, or_true, Nat.reduceEqDiff, Nat.succ_ne_self, fxA, fwA, fyA, and_true, true_and, imp_self, true_imp_iff, false_imp_iff, implies_true, fzA, fzW, ln, v_lr (n := (ns.length : Nat)) (by omega) (by omega), nm]
    refine w_forA (namesL ns.length) onD rfl (fun l st => ∃ x1 x3, st = ([.v (tpI ns), x1, .o (.lst ((l.flatMap (rowL ns)).map tpI)), x3, .no, .no], t) ∧ (x1 = .v (.lst ((namesL ns.length).map onD)) ∨ x1 = .o (.lst ((namesL ns.length).map onD)))) ⟨_, _, rfl, by first | exact .inl rfl | exact .inr rfl⟩ ?_ ?_
    · rintro l a r st el ⟨x1, x3, rfl, hx1⟩
      have ma : a ∈ namesL ns.length := by rw [el]; simp
      have ll : l.length ≤ 7 := by
        have := congrArg List.length el
        rw [names_len, List.length_append, List.length_cons] at this
        omega
      have rl := rows_len (ns := ns) l6 l
      have rl2 := rowL_len (ns := ns) (a := a) l6
      have ex : extD ((l.flatMap (rowL ns)).map tpI) [.lst ((rowL ns a).map tpI)] = some ((((l ++ [a]).flatMap (rowL ns))).map tpI, .non) := by
        unfold extD
        simp only
        rw [if_pos (by rw [List.length_map, List.length_map]; exact Nat.le_trans (show _ ≤ 100 by omega) (by decide)), ← List.map_append]
        simp
      have er : ((rowL ns a).map tpI) = ((namesL ns.length).filter fun b => decide (a ≠ b)).map fun b => tpI (chgL ns a b) := by
        unfold rowL
        rw [List.map_map]
        rfl
      have nl := names_len (n := ns.length)
      rw [er] at ex
      rcases hx1 with rfl | rfl
      all_goals
        simp only [fdA, List.map_cons, List.map_nil, List.length_cons, List.length_nil, List.cons_append, List.nil_append, List.replicate_succ, List.replicate_zero, Nat.zero_add, Nat.reduceAdd, Nat.reduceSub, Nat.sub_self, if_true, if_false, Bool.false_eq_true, Bool.not_true, Bool.not_false, reduceCtorEq, ite_true, ite_false, List.getElem?_cons_zero, List.getElem?_cons_succ, List.set_cons_zero, List.set_cons_succ, LEN, Nat.reduceLeDiff, Option.map_some, fvA, List.length_map, List.length_set, decide_true, decide_false, fhA, List.mem_cons, List.not_mem_nil, or_false, or_true, Nat.reduceEqDiff, Nat.succ_ne_self, fxA, fwA, fyA, and_true, true_and, imp_self, true_imp_iff, false_imp_iff, implies_true, fzA, fzW]
        refine ⟨by omega, w_fm (namesL ns.length) onD rfl (fun b => decide (a ≠ b)) (fun b => tpI (chgL ns a b)) (fun b mb => ?_) ?_⟩
        · have qc := q_changed_eq (t := t) (ns := ns) (a := a) (b := b) (by omega) (mem_namesL.mp ma) (mem_namesL.mp mb)
          simp only [fdA, List.map_cons, List.map_nil, List.length_cons, List.length_nil, List.cons_append, List.nil_append, List.replicate_succ, List.replicate_zero, Nat.zero_add, Nat.reduceAdd, Nat.reduceSub, Nat.sub_self, if_true, if_false, Bool.false_eq_true, Bool.not_true, Bool.not_false, reduceCtorEq, ite_true, ite_false, List.getElem?_cons_zero, List.getElem?_cons_succ, List.set_cons_zero, List.set_cons_succ, LEN, Nat.reduceLeDiff, Option.map_some, fvA, List.length_map, List.length_set, decide_true, decide_false, fhA, List.mem_cons, List.not_mem_nil, or_false, or_true, Nat.reduceEqDiff, Nat.succ_ne_self, fxA, fwA, fyA, and_true, true_and, imp_self, true_imp_iff, false_imp_iff, implies_true, fzA, fzW, ne_onD, qc]
        · simp only [fdA, List.map_cons, List.map_nil, List.length_cons, List.length_nil, List.cons_append, List.nil_append, List.replicate_succ, List.replicate_zero, Nat.zero_add, Nat.reduceAdd, Nat.reduceSub, Nat.sub_self, if_true, if_false, Bool.false_eq_true, Bool.not_true, Bool.not_false, reduceCtorEq, ite_true, ite_false, List.getElem?_cons_zero, List.getElem?_cons_succ, List.set_cons_zero, List.set_cons_succ, LEN, Nat.reduceLeDiff, Option.map_some, fvA, List.length_map, List.length_set, decide_true, decide_false, fhA, List.mem_cons, List.not_mem_nil, or_false, or_true, Nat.reduceEqDiff, Nat.succ_ne_self, fxA, fwA, fyA, and_true, true_and, imp_self, true_imp_iff, false_imp_iff, implies_true, fzA, fzW, ex]
          exact ⟨_, _, rfl, .inl rfl⟩
    · rintro st ⟨x1, x3, rfl, hx1⟩
      have tl := rows_len (ns := ns) l6 (namesL ns.length)
      rw [names_len] at tl
      have e0 : (namesL ns.length).flatMap (rowL ns) = nbrs0 ns := rfl
      rw [e0] at tl ⊢
      simp only [fdA, List.map_cons, List.map_nil, List.length_cons, List.length_nil, List.cons_append, List.nil_append, List.replicate_succ, List.replicate_zero, Nat.zero_add, Nat.reduceAdd, Nat.reduceSub, Nat.sub_self, if_true, if_false, Bool.false_eq_true, Bool.not_true, Bool.not_false, reduceCtorEq, ite_true, ite_false, List.getElem?_cons_zero, List.getElem?_cons_succ, List.set_cons_zero, List.set_cons_succ, LEN, Nat.reduceLeDiff, Option.map_some, fvA, List.length_map, List.length_set, decide_true, decide_false, fhA, List.mem_cons, List.not_mem_nil, or_false, or_true, Nat.reduceEqDiff, Nat.succ_ne_self, fxA, fwA, fyA, and_true, true_and, imp_self, true_imp_iff, false_imp_iff, implies_true, fzA, fzW]
      refine ⟨by omega, w_fm (nbrs0 ns) tpI rfl (fun c => decide (0 ≤ minL c)) tpI (fun c m => ?_) ?_⟩
      · have ne : c ≠ [] := fun z => by
          have := nbrs0_len m
          rw [z] at this
          simp at this
          omega
        simp only [fdA, List.map_cons, List.map_nil, List.length_cons, List.length_nil, List.cons_append, List.nil_append, List.replicate_succ, List.replicate_zero, Nat.zero_add, Nat.reduceAdd, Nat.reduceSub, Nat.sub_self, if_true, if_false, Bool.false_eq_true, Bool.not_true, Bool.not_false, reduceCtorEq, ite_true, ite_false, List.getElem?_cons_zero, List.getElem?_cons_succ, List.set_cons_zero, List.set_cons_succ, LEN, Nat.reduceLeDiff, Option.map_some, fvA, List.length_map, List.length_set, decide_true, decide_false, fhA, List.mem_cons, List.not_mem_nil, or_false, or_true, Nat.reduceEqDiff, Nat.succ_ne_self, fxA, fwA, fyA, and_true, true_and, imp_self, true_imp_iff, false_imp_iff, implies_true, fzA, fzW, v_min_tp ne]
      · exact ⟨rfl, rfl⟩
  obtain ⟨o, t', e, rfl, rfl⟩ := key
  exact e
/-! ### distances of 1 -/
theorem ex_dist1 {a : List Int} {e : Exch} (h : e ∈ allEx a.length) : distL (movL a e) a = 1 := by
  have s0 := sumW_self (a := a)
  obtain ⟨w, _, mw⟩ := allEx_mem.mp h
  have inn := exs_inn e mw
  unfold distL
  cases e with
  | more j =>
    have hj : j < a.length := inn
    simp only [movL]
    rw [sumW_step hj rfl, sumW_step hj rfl, s0.1, s0.2]
    unfold f1 f2
    simp only [Int.lt_irrefl, if_false]
    rw [if_neg (by omega), if_pos (by omega)]
    omega
  | less i =>
    have hj : i < a.length := inn
    simp only [movL]
    rw [sumW_step hj rfl, sumW_step hj rfl, s0.1, s0.2]
    unfold f1 f2
    simp only [Int.lt_irrefl, if_false]
    rw [if_pos (by omega), if_neg (by omega)]
    omega
  | move i j =>
    obtain ⟨h1, h3⟩ : i < a.length ∧ j < a.length := inn
    have ne : i ≠ j := by
      match w, mw with
      | 0, m =>
        obtain ⟨_, _, h⟩ := List.mem_map.mp m
        cases h
      | 1, m =>
        obtain ⟨_, _, h⟩ := List.mem_map.mp m
        cases h
      | w + 2, m =>
        obtain ⟨a, _, h⟩ := List.mem_flatMap.mp m
        obtain ⟨b, mb, h⟩ := List.mem_map.mp h
        have := of_decide_eq_true (List.mem_filter.mp mb).2
        cases h
        exact this
    have e2 : (stepL a i (-1))[j]?.getD 0 = a[j]?.getD 0 := by
      unfold stepL
      rw [List.getElem?_set_ne ne]
    simp only [movL]
    rw [sumW_step (by rw [stepL_len]; exact h3) stepL_len, sumW_step (by rw [stepL_len]; exact h3) stepL_len, sumW_step h1 rfl, sumW_step h1 rfl, s0.1, s0.2, e2]
    unfold f1 f2
    simp only [Int.lt_irrefl, if_false]
    rw [if_pos (by omega), if_neg (by omega), if_neg (by omega), if_pos (by omega)]
    omega
theorem near_all {a b : List Int} {e : Exch} (h : e ∈ nearL a b) : e ∈ allEx a.length := by
  have m := mem_nearL.mp h
  refine allEx_mem.mpr ?_
  cases e with
  | more j => exact ⟨0, by omega, List.mem_map.mpr ⟨j, List.mem_range.mpr (mem_upL.mp m.2).1, rfl⟩⟩
  | less i => exact ⟨1, by omega, List.mem_map.mpr ⟨i, List.mem_range.mpr (mem_dnL.mp m.2).1, rfl⟩⟩
  | move i j =>
    obtain ⟨h1, h2⟩ := mem_dnL.mp m.1
    obtain ⟨h3, h4⟩ := mem_upL.mp m.2
    exact ⟨2, by omega, List.mem_flatMap.mpr ⟨i, List.mem_range.mpr h1, List.mem_map.mpr ⟨j, List.mem_filter.mpr ⟨List.mem_range.mpr h3, decide_eq_true fun z => by subst z; omega⟩, rfl⟩⟩⟩
theorem pos_up : ∀ {a b : List Int}, a.length = b.length → 0 < sumW f1 a b → ∃ j, j ∈ upL a b
  | [], _, _, h => by simp [sumW] at h
  | _ :: _, [], l, _ => by simp at l
  | x :: a, y :: b, l, h => by
    by_cases c : x < y
    · exact ⟨0, mem_upL.mpr ⟨by simp, by simpa using c⟩⟩
    · have z : f1 x y = 0 := if_neg c
      obtain ⟨j, m⟩ := pos_up (a := a) (b := b) (by simpa using l) (by
        unfold sumW at h ⊢
        rw [List.zipWith_cons_cons, List.sum_cons, z] at h
        omega)
      obtain ⟨m1, m2⟩ := mem_upL.mp m
      exact ⟨j + 1, mem_upL.mpr ⟨by simpa using m1, by simpa using m2⟩⟩
theorem pos_dn {a b : List Int} (l : a.length = b.length) (h : 0 < sumW f2 a b) : ∃ j, j ∈ dnL a b := by
  rw [← sumW_comm] at h
  obtain ⟨j, m⟩ := pos_up l.symm h
  obtain ⟨m1, m2⟩ := mem_upL.mp m
  exact ⟨j, mem_dnL.mpr ⟨by omega, m2⟩⟩
theorem near_some {a b : List Int} (l : a.length = b.length) (h : 0 < distL a b) : ∃ e, e ∈ nearL a b := by
  have d := sumW_diff l
  have n := sumW_nonneg (a := a) (b := b)
  unfold distL at h
  by_cases c1 : b.sum < a.sum
  · obtain ⟨i, m⟩ := pos_dn l (by omega)
    exact ⟨.less i, mem_nearL.mpr ⟨c1, m⟩⟩
  · by_cases c2 : a.sum < b.sum
    · obtain ⟨j, m⟩ := pos_up l (by omega)
      exact ⟨.more j, mem_nearL.mpr ⟨c2, m⟩⟩
    · obtain ⟨i, m⟩ := pos_dn l (by omega)
      obtain ⟨j, m'⟩ := pos_up l (by omega)
      exact ⟨.move i j, mem_nearL.mpr ⟨m, m'⟩⟩
theorem near_iff {a b : List Int} (l : a.length = b.length) (h0 : 0 < a.length) (hb : ∀ x ∈ b, 0 ≤ x) : b ∈ nearP a ↔ distL a b = 1 := by
  have nb : b ≠ [] := fun z => by
    rw [z] at l
    simp at l
    rw [l] at h0
    simp at h0
  unfold nearP
  rw [List.mem_filter, mem_nbrs0, decide_eq_true_iff, minL_ge nb]
  constructor
  · rintro ⟨⟨e, me, rfl⟩, _⟩
    rw [distL_comm]
    exact ex_dist1 me
  · intro d
    obtain ⟨e, me⟩ := near_some l (by omega)
    have := near_dist l me
    have ml : (movL a e).length = b.length := by
      rw [← l]
      cases e <;> simp [movL, stepL_len]
    exact ⟨⟨e, near_all me, (distL_zero ml (by omega)).symm⟩, hb⟩
theorem v_eq_tp {a b : List Int} : eqD (tpI a) (tpI b) = some (.bl (decide (a = b)), false) := v_eq_tpI
def UnitsOk (n : Nat) (ns : List Int) : Prop := ns.length = n ∧ ∀ x ∈ ns, 0 ≤ x ∧ x ≤ 10 ^ 12
theorem three_eq {n : Nat} {a b c : List Int} {t : DS} (h0 : 0 < n) (h6 : n ≤ 6) (ha : UnitsOk n a) (hb : UnitsOk n b) (hc : UnitsOk n c) : FF_q_three_right [tpI a, tpI b, tpI c] t = some (.ok (.bl true) false, t) := by
  obtain ⟨la, pa⟩ := ha
  obtain ⟨lb, pb⟩ := hb
  obtain ⟨lc, pc⟩ := hc
  have ab := distance_eq (a := a) (b := b) (t := t) (by omega) (by omega)
  have bc := distance_eq (a := b) (b := c) (t := t) (by omega) (by omega)
  have ac := distance_eq (a := a) (b := c) (t := t) (by omega) (by omega)
  have ba := distance_eq (a := b) (b := a) (t := t) (by omega) (by omega)
  have qab := q_distance_eq (a := a) (b := b) (t := t) (by omega) (by omega)
  have qbc := q_distance_eq (a := b) (b := c) (t := t) (by omega) (by omega)
  have qac := q_distance_eq (a := a) (b := c) (t := t) (by omega) (by omega)
  have tri := dist_tri (a := a) (b := b) (c := c) (by omega) (by omega)
  have com := distL_comm (a := b) (b := a)
  have nr := q_near_eq (ns := a) (t := t) (by omega) (by omega)
  have ni := near_iff (a := a) (b := b) (by omega) (by omega) fun x m => (pb x m).1
  have vin := v_in_pl (a := b) (A := nearP a)
  have zero : distL a b = 0 ↔ a = b := ⟨fun z => distL_zero (by omega) z, fun z => by rw [z, distL_self]⟩
  have sm : FFr_q_same 12 [.lst [.int (distL a b), .int (distL b c), .int (distL a c)], .lst [.int (distL a b), .int (distL b c), .int (distL a c)]] t = some (.ok (.bl true) false, t) :=
    same_refl 3 (B := (distL a b).natAbs + (distL b c).natAbs + (distL a c).natAbs) (ord_lst (ordA_cons (ord_int (by omega)) (ordA_cons (ord_int (by omega)) (ordA_cons (ord_int (by omega)) ordA_nil)))) (by simp [noDct, noDctA]) (by simp [blk, blkA]) (j := 12) (by decide)
  have i0 : ∀ x y z : D, ixD (.lst [x, y, z]) (.int 0) = some (x, false) := fun x y z => v_ix_l at0
  have i1 : ∀ x y z : D, ixD (.lst [x, y, z]) (.int 1) = some (y, false) := fun x y z => v_ix_l at1
  have i2 : ∀ x y z : D, ixD (.lst [x, y, z]) (.int 2) = some (z, false) := fun x y z => v_ix_l at2
  have g : decide (distL a b + distL b c < distL a c) = false := decide_eq_false (by omega)
  have ne : neD (.int (distL a b)) (.int (distL a b)) = some (.bl false, false) := by rw [v_ne_int]; simp
  rw [com] at ba
  have key : wF (FF_q_three_right [tpI a, tpI b, tpI c] t) fun o t' => t' = t ∧ o = .ok (.bl true) false := by
    unfold FF_q_three_right fb_q_three_right
    simp only [fdA, List.map_cons, List.map_nil, List.length_cons, List.length_nil, List.cons_append, List.nil_append, List.replicate_succ, List.replicate_zero, Nat.zero_add, Nat.reduceAdd, Nat.reduceSub, Nat.sub_self, if_true, if_false, Bool.false_eq_true, Bool.not_true, Bool.not_false, reduceCtorEq, ite_true, ite_false, List.getElem?_cons_zero, List.getElem?_cons_succ, List.set_cons_zero, List.set_cons_succ, LEN, Nat.reduceLeDiff, Option.map_some, fvA, List.length_map, List.length_set, decide_true, decide_false, fhA, List.mem_cons, List.not_mem_nil, or_false, or_true, Nat.reduceEqDiff, Nat.succ_ne_self, fxA, fwA, fyA, and_true, true_and, imp_self, true_imp_iff, false_imp_iff, implies_true, fzA, fzW, ab, bc, ac, qab, qbc, qac, FF_q_same, sm, i0, i1, i2, g, ba, ne, v_eq_tp, v_eq_bl, nr, vin]
    have e1 : decide (distL a b = 0) = decide (a = b) := decide_eq_decide.mpr zero
    have e2 : decide (distL a b = 1) = decide (b ∈ nearP a) := decide_eq_decide.mpr ni.symm
    rw [e1, e2]
    simp
  obtain ⟨o, t', e, rfl, rfl⟩ := key
  exact e
theorem units_eq {n : Nat} {k : Nat} {g : Int} {t : DS} (hk : k ≤ 6) (h0 : 0 < g) (hg : g ≤ 10 ^ 12) (hc : t.c + 100 < 2 ^ 40) : ∃ ns t', FF_q_units [.hnd n, .int (k : Nat), .int g] t = some (.ok (tpI ns) false, t') ∧ ns.length = k ∧ (∀ x ∈ ns, 0 ≤ x ∧ x < g) ∧ t'.c ≤ t.c + k := by
  have key : wF (FF_q_units [.hnd n, .int (k : Nat), .int g] t) fun o t' => ∃ ns, o = .ok (tpI ns) false ∧ ns.length = k ∧ (∀ x ∈ ns, 0 ≤ x ∧ x < g) ∧ t'.c ≤ t.c + k := by
    unfold FF_q_units fb_q_units
    simp only [fdA, List.map_cons, List.map_nil, List.length_cons, List.length_nil, List.cons_append, List.nil_append, List.replicate_succ, List.replicate_zero, Nat.zero_add, Nat.reduceAdd, Nat.reduceSub, Nat.sub_self, if_true, if_false, Bool.false_eq_true, Bool.not_true, Bool.not_false, reduceCtorEq, ite_true, ite_false, List.getElem?_cons_zero, List.getElem?_cons_succ, List.set_cons_zero, List.set_cons_succ, LEN, Nat.reduceLeDiff, Option.map_some, fvA, List.length_map, List.length_set, decide_true, decide_false, fhA, List.mem_cons, List.not_mem_nil, or_false, or_true, Nat.reduceEqDiff, Nat.succ_ne_self, fxA, fwA, fyA, and_true, true_and, imp_self, true_imp_iff, false_imp_iff, implies_true, fzA, fzW, v_rng1 (j := (k : Nat)) (small_of (by omega))]
    refine ⟨by rw [rngL_len]; omega, w_lcI (fun i w => w.c ≤ t.c + i) (fun _ v => ∃ x : Int, v = .int x ∧ 0 ≤ x ∧ x < g) (by simp) (fun i d w hd hw => ?_) (fun out w hl hp hw => ?_)⟩
    · have hi : i < (rngL 0 (k : Nat)).length := (List.getElem?_eq_some_iff.mp hd).1
      rw [rngL_len] at hi
      have a1 := w.draw_in (m := g) h0
      have d1 : (w.step g).c ≤ w.c + 1 := DS.step_c
      simp only [fdA, List.map_cons, List.map_nil, List.length_cons, List.length_nil, List.cons_append, List.nil_append, List.replicate_succ, List.replicate_zero, Nat.zero_add, Nat.reduceAdd, Nat.reduceSub, Nat.sub_self, if_true, if_false, Bool.false_eq_true, Bool.not_true, Bool.not_false, reduceCtorEq, ite_true, ite_false, List.getElem?_cons_zero, List.getElem?_cons_succ, List.set_cons_zero, List.set_cons_succ, LEN, Nat.reduceLeDiff, Option.map_some, fvA, List.length_map, List.length_set, decide_true, decide_false, fhA, List.mem_cons, List.not_mem_nil, or_false, or_true, Nat.reduceEqDiff, Nat.succ_ne_self, fxA, fwA, fyA, and_true, true_and, imp_self, true_imp_iff, false_imp_iff, implies_true, fzA, fzW, next_eq (n := n) (t := w) (m := g) h0 (by omega) (by omega)]
      exact ⟨⟨_, rfl, a1.1, a1.2⟩, by omega⟩
    · rw [rngL_len] at hl hw
      obtain ⟨ns, rfl, hn⟩ := list_of D.int (P := fun x => 0 ≤ x ∧ x < g) fun i v e => hp i v e
      rw [List.length_map] at hl
      exact ⟨ns, rfl, by omega, hn, by omega⟩
  obtain ⟨o, t', e, ns, rfl, h1, h2, h3⟩ := key
  exact ⟨ns, t', e, h1, h2, h3⟩
/-! ### plans of two items with up to three units -/
def box : List (List Int) := [[0, 0], [0, 1], [0, 2], [0, 3], [1, 0], [1, 1], [1, 2], [1, 3], [2, 0], [2, 1], [2, 2], [2, 3], [3, 0], [3, 1], [3, 2], [3, 3]]
def prOf : List Int → Int × Int
  | [x, y] => (x, y)
  | _ => (0, 0)
def codeL (c : List Int) : Int := codeP (prOf c)
theorem mem_box {c : List Int} : c ∈ box ↔ c.length = 2 ∧ ∀ x ∈ c, 0 ≤ x ∧ x < 4 := by
  constructor
  · intro m
    have h : ∀ c ∈ box, c.length = 2 ∧ ∀ x ∈ c, 0 ≤ x ∧ x < 4 := by decide +kernel
    exact h c m
  · rintro ⟨l, h⟩
    match c, l with
    | [x, y], _ =>
      have hx := h x (by simp)
      have hy := h y (by simp)
      obtain rfl | rfl | rfl | rfl : x = 0 ∨ x = 1 ∨ x = 2 ∨ x = 3 := by omega
      all_goals
        obtain rfl | rfl | rfl | rfl : y = 0 ∨ y = 1 ∨ y = 2 ∨ y = 3 := by omega
        all_goals decide +kernel
theorem box_near : ∀ a ∈ box, ∀ b ∈ box, a ≠ b → ∃ c ∈ box, distL a c + 1 = distL a b ∧ distL c b = 1 := by
  have h : (box.all fun a => box.all fun b => decide (a = b) || box.any fun c => decide (distL a c + 1 = distL a b) && decide (distL c b = 1)) = true := by decide +kernel
  intro a ma b mb ne
  have h1 := List.all_eq_true.mp (List.all_eq_true.mp h a ma) b mb
  rw [decide_eq_false ne, Bool.false_or] at h1
  obtain ⟨c, mc, h2⟩ := List.any_eq_true.mp h1
  rw [Bool.and_eq_true] at h2
  exact ⟨c, mc, of_decide_eq_true h2.1, of_decide_eq_true h2.2⟩
theorem box_dist : ∀ a ∈ box, ∀ b ∈ box, distL a b ≤ 6 := by decide +kernel
theorem box_asc : (box.map codeL).Pairwise (· < ·) := by decide +kernel
theorem box_pt : ∀ c ∈ box, tpI c = .tup [.int (prOf c).1, .int (prOf c).2] ∧ 0 ≤ (prOf c).1 ∧ (prOf c).1 < 64 ∧ 0 ≤ (prOf c).2 ∧ (prOf c).2 < 64 := by
  intro c m
  obtain ⟨l, h⟩ := mem_box.mp m
  match c, l with
  | [x, y], _ =>
    have hx := h x (by simp)
    have hy := h y (by simp)
    refine ⟨rfl, ?_⟩
    simp only [prOf]
    omega
def reachK (a : List Int) (k : Nat) : List (List Int) := box.filter fun c => decide (distL a c ≤ k)
def near4 (c : List Int) : List (List Int) := (nearP c).filter fun d => decide (maxL d < 4)
theorem mem_reach {a c : List Int} {k : Nat} : c ∈ reachK a k ↔ c ∈ box ∧ distL a c ≤ k := by
  unfold reachK
  rw [List.mem_filter, decide_eq_true_iff]
theorem reach_len {a : List Int} {k : Nat} : (reachK a k).length ≤ 16 := List.length_filter_le ..
theorem near_len2 {c : List Int} (m : c ∈ box) : (nearP c).length ≤ 30 := by
  have l := (mem_box.mp m).1
  have h1 := List.length_filter_le (fun c => decide (0 ≤ minL c)) (nbrs0 c)
  have h2 := rows_len (ns := c) (by omega) (namesL c.length)
  rw [names_len] at h2
  have h3 : (nbrs0 c).length ≤ 7 * (c.length + 1) := h2
  unfold nearP
  omega
theorem mem_near4 {c d : List Int} (m : c ∈ box) : d ∈ near4 c ↔ d ∈ box ∧ distL c d = 1 := by
  have lc := (mem_box.mp m).1
  unfold near4
  rw [List.mem_filter, decide_eq_true_iff]
  constructor
  · rintro ⟨m1, m2⟩
    obtain ⟨m3, m4⟩ := List.mem_filter.mp m1
    have ld := nbrs0_len m3
    have ne : d ≠ [] := fun z => by
      rw [z] at ld
      simp at ld
      omega
    have lo := (minL_ge ne).mp (of_decide_eq_true m4)
    have hi := (maxL_lt ne).mp m2
    exact ⟨mem_box.mpr ⟨by omega, fun x mx => ⟨lo x mx, hi x mx⟩⟩, (near_iff (by omega) (by omega) lo).mp m1⟩
  · rintro ⟨mb, d1⟩
    obtain ⟨ld, h⟩ := mem_box.mp mb
    have ne : d ≠ [] := fun z => by
      rw [z] at ld
      simp at ld
    exact ⟨(near_iff (by omega) (by omega) fun x mx => (h x mx).1).mpr d1, (maxL_lt ne).mpr fun x mx => (h x mx).2⟩
theorem near_sum (L : List (List Int)) : (∀ c ∈ L, c ∈ box) → (L.flatMap near4).length ≤ 30 * L.length := by
  induction L with
  | nil => simp
  | cons c L ih =>
    intro h
    have := ih fun c m => h c (List.mem_cons_of_mem _ m)
    have n1 := near_len2 (h c List.mem_cons_self)
    have n2 := List.length_filter_le (fun d => decide (maxL d < 4)) (nearP c)
    rw [List.flatMap_cons, List.length_append, List.length_cons]
    unfold near4 at this ⊢
    omega
/-- one step further -/
theorem reach_more {a : List Int} {k : Nat} (ma : a ∈ box) {c : List Int} : c ∈ reachK a k ++ (reachK a k).flatMap near4 ↔ c ∈ reachK a (k + 1) := by
  rw [List.mem_append, List.mem_flatMap, mem_reach, mem_reach]
  have la := (mem_box.mp ma).1
  constructor
  · rintro (⟨m, d⟩ | ⟨b, mb, m⟩)
    · exact ⟨m, by omega⟩
    · obtain ⟨m1, m2⟩ := mem_reach.mp mb
      obtain ⟨m3, m4⟩ := (mem_near4 m1).mp m
      have := dist_tri (a := a) (b := b) (c := c) (by rw [la, (mem_box.mp m1).1]) (by rw [(mem_box.mp m1).1, (mem_box.mp m3).1])
      exact ⟨m3, by omega⟩
  · rintro ⟨m, d⟩
    by_cases q : distL a c ≤ k
    · exact .inl ⟨m, q⟩
    · have ne : a ≠ c := fun z => by
        rw [z, distL_self] at q
        omega
      obtain ⟨b, mb, d1, d2⟩ := box_near a ma c m ne
      exact .inr ⟨b, mem_reach.mpr ⟨mb, by omega⟩, (mem_near4 mb).mpr ⟨m, d2⟩⟩
theorem sort_reach {a : List Int} {k : Nat} (ma : a ∈ box) : sortSetPD (.lst ((reachK a k ++ (reachK a k).flatMap near4).map tpI)) = some (.lst ((reachK a (k + 1)).map tpI), true) := by
  have inb : ∀ c ∈ reachK a k ++ (reachK a k).flatMap near4, c ∈ box := fun c m => (mem_reach.mp ((reach_more ma).mp m)).1
  have e1 : (reachK a k ++ (reachK a k).flatMap near4).map tpI = ((reachK a k ++ (reachK a k).flatMap near4).map prOf).map fun p => .tup [.int p.1, .int p.2] := by
    rw [List.map_map]
    exact List.map_congr_left fun c m => (box_pt c (inb c m)).1
  have cs : ((reachK a k ++ (reachK a k).flatMap near4).map prOf).map codeP = (reachK a k ++ (reachK a k).flatMap near4).map codeL := by
    rw [List.map_map]
    rfl
  have e2 : ascL ((reachK a k ++ (reachK a k).flatMap near4).map codeL) = (reachK a (k + 1)).map codeL := by
    refine asc_ext ascL_asc (List.Pairwise.sublist (List.Sublist.map codeL List.filter_sublist) box_asc) fun z => ?_
    rw [mem_ascL, List.mem_map, List.mem_map]
    exact ⟨fun ⟨c, m, e⟩ => ⟨c, (reach_more ma).mp m, e⟩, fun ⟨c, m, e⟩ => ⟨c, (reach_more ma).mpr m, e⟩⟩
  have ll := reach_len (a := a) (k := k)
  have ll2 := reach_len (a := a) (k := k + 1)
  have l3 := near_sum (reachK a k) fun c m => (mem_reach.mp m).1
  have v := v_sortSetP (ps := (reachK a k ++ (reachK a k).flatMap near4).map prOf) (fun p m => by
    obtain ⟨c, mc, rfl⟩ := List.mem_map.mp m
    exact (box_pt c (inb c mc)).2) (by rw [List.length_map, List.length_append]; omega) (by rw [cs, e2, List.length_map]; omega)
  rw [e1, v, cs, e2, List.map_map]
  refine congrArg (fun x => some (D.lst x, true)) (List.map_congr_left fun c m => ?_)
  have q := box_pt c (mem_reach.mp m).1
  rw [q.1]
  exact code_un q.2
theorem reached_eq {a b : List Int} {t : DS} (ma : a ∈ box) (mb : b ∈ box) : FF_q_reached_right [tpI a, tpI b] t = some (.ok (.bl true) false, t) := by
  have la := (mem_box.mp ma).1
  have lb := (mem_box.mp mb).1
  have far := box_dist a ma b mb
  have dn := distL_nonneg (a := a) (b := b)
  have de := distance_eq (a := a) (b := b) (t := t) (by omega) (by omega)
  have r0 : reachK a 0 = [a] := by
    have h : ∀ a ∈ box, reachK a 0 = [a] := by decide +kernel
    exact h a ma
  have key : wF (FF_q_reached_right [tpI a, tpI b] t) fun o t' => t' = t ∧ o = .ok (.bl true) false := by
    unfold FF_q_reached_right fb_q_reached_right
    simp only [fdA, List.map_cons, List.map_nil, List.length_cons, List.length_nil, List.cons_append, List.nil_append, List.replicate_succ, List.replicate_zero, Nat.zero_add, Nat.reduceAdd, Nat.reduceSub, Nat.sub_self, if_true, if_false, Bool.false_eq_true, Bool.not_true, Bool.not_false, reduceCtorEq, ite_true, ite_false, List.getElem?_cons_zero, List.getElem?_cons_succ, List.set_cons_zero, List.set_cons_succ, LEN, Nat.reduceLeDiff, Option.map_some, fvA, List.length_map, List.length_set, decide_true, decide_false, fhA, List.mem_cons, List.not_mem_nil, or_false, or_true, Nat.reduceEqDiff, Nat.succ_ne_self, fxA, fwA, fyA, and_true, true_and, imp_self, true_imp_iff, false_imp_iff, implies_true, fzA, fzW]
    refine w_while (fun st => ∃ (k : Nat) (x2 x4 x5 x6 : Sl), st = ([.v (tpI a), .v (tpI b), x2, .v (.int (k : Nat)), x4, x5, x6], t) ∧ (x2 = .v (.lst ((reachK a k).map tpI)) ∨ x2 = .o (.lst ((reachK a k).map tpI))) ∧ k ≤ 6 ∧ (k : Int) ≤ distL a b) (fun st => match st.1[3]? with | some (Sl.v (D.int k)) => (6 - k).toNat | _ => 0) ⟨0, _, _, _, _, rfl, by rw [r0]; first | exact .inl rfl | exact .inr rfl, by omega, by omega⟩ ?_
    rintro st ⟨k, x2, x4, x5, x6, rfl, h2, hk, hd⟩
    have nin := v_nin_pl (a := b) (A := reachK a k)
    have ll := reach_len (a := a) (k := k)
    have done : b ∈ reachK a k → distL a b = k := fun m => by
      have := (mem_reach.mp m).2
      omega
    rcases h2 with rfl | rfl
    all_goals
      simp only [fdA, List.map_cons, List.map_nil, List.length_cons, List.length_nil, List.cons_append, List.nil_append, List.replicate_succ, List.replicate_zero, Nat.zero_add, Nat.reduceAdd, Nat.reduceSub, Nat.sub_self, if_true, if_false, Bool.false_eq_true, Bool.not_true, Bool.not_false, reduceCtorEq, ite_true, ite_false, List.getElem?_cons_zero, List.getElem?_cons_succ, List.set_cons_zero, List.set_cons_succ, LEN, Nat.reduceLeDiff, Option.map_some, fvA, List.length_map, List.length_set, decide_true, decide_false, fhA, List.mem_cons, List.not_mem_nil, or_false, or_true, Nat.reduceEqDiff, Nat.succ_ne_self, fxA, fwA, fyA, and_true, true_and, imp_self, true_imp_iff, false_imp_iff, implies_true, fzA, fzW, nin]
      refine ⟨fun nm => ⟨fun c => ?_, fun c => ?_⟩, fun m => ?_⟩
      · have c := of_decide_eq_true c
        have nm : b ∉ reachK a k := by simpa using nm
        have far2 : (k : Int) < distL a b := by
          rcases Int.lt_or_le k (distL a b) with q | q
          · exact q
          · exact absurd (mem_reach.mpr ⟨mb, q⟩) nm
        refine w_forA (reachK a k) tpI rfl (fun l st => ∃ x2 x5 x6, st = ([.v (tpI a), .v (tpI b), x2, .v (.int (k : Nat)), .o (.lst ((l.flatMap near4).map tpI)), x5, x6], t) ∧ (x2 = .v (.lst ((reachK a k).map tpI)) ∨ x2 = .o (.lst ((reachK a k).map tpI)))) ⟨_, _, _, rfl, by first | exact .inl rfl | exact .inr rfl⟩ ?_ ?_
        · rintro l d r st el ⟨x2, x5, x6, rfl, h2⟩
          have md : d ∈ reachK a k := by rw [el]; simp
          have bd := (mem_reach.mp md).1
          have ld := (mem_box.mp bd).1
          have sub : ∀ c ∈ l, c ∈ box := fun c m => (mem_reach.mp (show c ∈ reachK a k by rw [el]; exact List.mem_append_left _ m)).1
          have l1 := near_sum l sub
          have l2 := near_len2 bd
          have l3 : l.length ≤ 16 := by
            have := congrArg List.length el
            rw [List.length_append, List.length_cons] at this
            omega
          have l4 : (near4 d).length ≤ 30 := Nat.le_trans (List.length_filter_le ..) l2
          have qn := q_near_eq (ns := d) (t := t) (by omega) (by omega)
          have ex : extD ((l.flatMap near4).map tpI) [.lst ((near4 d).map tpI)] = some (((l ++ [d]).flatMap near4).map tpI, .non) := by
            unfold extD
            simp only
            rw [if_pos (by rw [List.length_map, List.length_map]; exact Nat.le_trans (show _ ≤ 1000 by omega) (by decide)), ← List.map_append]
            simp
          have en : (near4 d).map tpI = ((nearP d).filter fun c => decide (maxL c < 4)).map tpI := rfl
          rw [en] at ex
          rcases h2 with rfl | rfl
          all_goals
            simp only [fdA, List.map_cons, List.map_nil, List.length_cons, List.length_nil, List.cons_append, List.nil_append, List.replicate_succ, List.replicate_zero, Nat.zero_add, Nat.reduceAdd, Nat.reduceSub, Nat.sub_self, if_true, if_false, Bool.false_eq_true, Bool.not_true, Bool.not_false, reduceCtorEq, ite_true, ite_false, List.getElem?_cons_zero, List.getElem?_cons_succ, List.set_cons_zero, List.set_cons_succ, LEN, Nat.reduceLeDiff, Option.map_some, fvA, List.length_map, List.length_set, decide_true, decide_false, fhA, List.mem_cons, List.not_mem_nil, or_false, or_true, Nat.reduceEqDiff, Nat.succ_ne_self, fxA, fwA, fyA, and_true, true_and, imp_self, true_imp_iff, false_imp_iff, implies_true, fzA, fzW, qn]
            refine ⟨by omega, w_fm (nearP d) tpI rfl (fun c => decide (maxL c < 4)) tpI (fun c m => ?_) ?_⟩
            · have ne : c ≠ [] := fun z => by
                have := nbrs0_len (List.mem_filter.mp m).1
                rw [z] at this
                simp at this
                omega
              simp only [fdA, List.map_cons, List.map_nil, List.length_cons, List.length_nil, List.cons_append, List.nil_append, List.replicate_succ, List.replicate_zero, Nat.zero_add, Nat.reduceAdd, Nat.reduceSub, Nat.sub_self, if_true, if_false, Bool.false_eq_true, Bool.not_true, Bool.not_false, reduceCtorEq, ite_true, ite_false, List.getElem?_cons_zero, List.getElem?_cons_succ, List.set_cons_zero, List.set_cons_succ, LEN, Nat.reduceLeDiff, Option.map_some, fvA, List.length_map, List.length_set, decide_true, decide_false, fhA, List.mem_cons, List.not_mem_nil, or_false, or_true, Nat.reduceEqDiff, Nat.succ_ne_self, fxA, fwA, fyA, and_true, true_and, imp_self, true_imp_iff, false_imp_iff, implies_true, fzA, fzW, v_max_tp ne]
            · simp only [fdA, List.map_cons, List.map_nil, List.length_cons, List.length_nil, List.cons_append, List.nil_append, List.replicate_succ, List.replicate_zero, Nat.zero_add, Nat.reduceAdd, Nat.reduceSub, Nat.sub_self, if_true, if_false, Bool.false_eq_true, Bool.not_true, Bool.not_false, reduceCtorEq, ite_true, ite_false, List.getElem?_cons_zero, List.getElem?_cons_succ, List.set_cons_zero, List.set_cons_succ, LEN, Nat.reduceLeDiff, Option.map_some, fvA, List.length_map, List.length_set, decide_true, decide_false, fhA, List.mem_cons, List.not_mem_nil, or_false, or_true, Nat.reduceEqDiff, Nat.succ_ne_self, fxA, fwA, fyA, and_true, true_and, imp_self, true_imp_iff, false_imp_iff, implies_true, fzA, fzW, ex]
              exact ⟨_, _, _, rfl, by first | exact .inl rfl | exact .inr rfl⟩
        · rintro st ⟨x2, x5, x6, rfl, h2⟩
          have l1 := near_sum (reachK a k) fun c m => (mem_reach.mp m).1
          have ca : addD (.lst ((reachK a k).map tpI)) (.lst (((reachK a k).flatMap near4).map tpI)) = some (.lst ((reachK a k ++ (reachK a k).flatMap near4).map tpI), true) := by
            rw [v_cat (by rw [List.length_map, List.length_map]; exact Nat.le_trans (show _ ≤ 1000 by omega) (by decide)), ← List.map_append]
          have so := sort_reach (k := k) ma
          rcases h2 with rfl | rfl
          all_goals
            simp only [fdA, List.map_cons, List.map_nil, List.length_cons, List.length_nil, List.cons_append, List.nil_append, List.replicate_succ, List.replicate_zero, Nat.zero_add, Nat.reduceAdd, Nat.reduceSub, Nat.sub_self, if_true, if_false, Bool.false_eq_true, Bool.not_true, Bool.not_false, reduceCtorEq, ite_true, ite_false, List.getElem?_cons_zero, List.getElem?_cons_succ, List.set_cons_zero, List.set_cons_succ, LEN, Nat.reduceLeDiff, Option.map_some, fvA, List.length_map, List.length_set, decide_true, decide_false, fhA, List.mem_cons, List.not_mem_nil, or_false, or_true, Nat.reduceEqDiff, Nat.succ_ne_self, fxA, fwA, fyA, and_true, true_and, imp_self, true_imp_iff, false_imp_iff, implies_true, fzA, fzW, ca, so]
            exact ⟨⟨k + 1, _, _, _, _, rfl, by first | exact .inl rfl | exact .inr rfl, by omega, by omega⟩, by omega⟩
      · have c := of_decide_eq_false c
        simp only [fdA, List.map_cons, List.map_nil, List.length_cons, List.length_nil, List.cons_append, List.nil_append, List.replicate_succ, List.replicate_zero, Nat.zero_add, Nat.reduceAdd, Nat.reduceSub, Nat.sub_self, if_true, if_false, Bool.false_eq_true, Bool.not_true, Bool.not_false, reduceCtorEq, ite_true, ite_false, List.getElem?_cons_zero, List.getElem?_cons_succ, List.set_cons_zero, List.set_cons_succ, LEN, Nat.reduceLeDiff, Option.map_some, fvA, List.length_map, List.length_set, decide_true, decide_false, fhA, List.mem_cons, List.not_mem_nil, or_false, or_true, Nat.reduceEqDiff, Nat.succ_ne_self, fxA, fwA, fyA, and_true, true_and, imp_self, true_imp_iff, false_imp_iff, implies_true, fzA, fzW, de]
        rw [decide_eq_true (show distL a b = (k : Int) by omega)]
      · have m : b ∈ reachK a k := by simpa using m
        have := done m
        simp only [fdA, List.map_cons, List.map_nil, List.length_cons, List.length_nil, List.cons_append, List.nil_append, List.replicate_succ, List.replicate_zero, Nat.zero_add, Nat.reduceAdd, Nat.reduceSub, Nat.sub_self, if_true, if_false, Bool.false_eq_true, Bool.not_true, Bool.not_false, reduceCtorEq, ite_true, ite_false, List.getElem?_cons_zero, List.getElem?_cons_succ, List.set_cons_zero, List.set_cons_succ, LEN, Nat.reduceLeDiff, Option.map_some, fvA, List.length_map, List.length_set, decide_true, decide_false, fhA, List.mem_cons, List.not_mem_nil, or_false, or_true, Nat.reduceEqDiff, Nat.succ_ne_self, fxA, fwA, fyA, and_true, true_and, imp_self, true_imp_iff, false_imp_iff, implies_true, fzA, fzW, de]
        rw [decide_eq_true this]
  obtain ⟨o, t', e, rfl, rfl⟩ := key
  exact e
theorem next_one {n : Nat} {L : List (List Int)} {t : DS} (h : 0 < L.length) (h2 : L.length ≤ 1000) (hc : t.c < 2 ^ 40) : ∃ c ∈ L, ∃ t', FF_q_one [.hnd n, .lst (L.map tpI)] t = some (.ok (tpI c) false, t') ∧ t'.c ≤ t.c + 1 := by
  have a0 := t.draw_in (m := ((L.map tpI).length : Nat)) (by rw [List.length_map]; omega)
  obtain ⟨d, hd, e⟩ := atI_ex (ds := L.map tpI) a0.1 a0.2
  obtain ⟨c, mc, rfl⟩ := List.mem_map.mp hd
  exact ⟨c, mc, _, one_eq (by rw [List.length_map]; omega) (by rw [List.length_map]; omega) hc e, DS.step_c⟩
theorem one_more {ns : List Int} (h : 0 < ns.length) (hn : ∀ x ∈ ns, 0 ≤ x) : stepL ns 0 1 ∈ nearP ns := by
  have lm : (stepL ns 0 1).length = ns.length := stepL_len
  have ne : stepL ns 0 1 ≠ [] := fun z => by
    rw [z] at lm
    simp at lm
    omega
  refine List.mem_filter.mpr ⟨mem_nbrs0.mpr ⟨.more 0, allEx_mem.mpr ⟨0, by omega, List.mem_map.mpr ⟨0, List.mem_range.mpr h, rfl⟩⟩, rfl⟩, decide_eq_true ((minL_ge ne).mpr fun x m => ?_)⟩
  unfold stepL at m
  rcases List.mem_or_eq_of_mem_set m with m | rfl
  · exact hn x m
  · have : 0 ≤ (ns[0]?.getD 0 : Int) := by
      rw [List.getElem?_eq_getElem h]
      exact hn _ (List.getElem_mem h)
    omega
theorem near_units {n : Nat} {a c : List Int} {g : Int} (la : a.length = n) (h : ∀ x ∈ a, 0 ≤ x ∧ x < g) (m : c ∈ nearP a) : c.length = n ∧ ∀ x ∈ c, 0 ≤ x ∧ x ≤ g := by
  obtain ⟨m1, m2⟩ := List.mem_filter.mp m
  have lc := nbrs0_len m1
  refine ⟨by omega, fun x mx => ⟨Int.le_trans (of_decide_eq_true m2) (minL_le mx), ?_⟩⟩
  obtain ⟨e, me, rfl⟩ := mem_nbrs0.mp m1
  have one : ∀ {b : List Int} {k : Nat} {d y z : Int}, (∀ x ∈ b, x ≤ y) → y + max d 0 ≤ z → k < b.length → ∀ x ∈ stepL b k d, x ≤ z := fun {b k d y z} hb hz hk x mx => by
    unfold stepL at mx
    rcases List.mem_or_eq_of_mem_set mx with mx | rfl
    · have := hb x mx
      omega
    · have := hb (b[k]'hk) (List.getElem_mem hk)
      rw [List.getElem?_eq_getElem hk, Option.getD_some]
      omega
  obtain ⟨w, _, mw⟩ := allEx_mem.mp me
  have inn := exs_inn e mw
  have ha : ∀ x ∈ a, x ≤ g - 1 := fun x mx => by
    have := h x mx
    omega
  cases e with
  | more j => exact one ha (by omega) inn x mx
  | less i => exact one ha (by omega) inn x mx
  | move i j => exact one (one ha (z := g - 1) (by omega) inn.1) (by omega) (by rw [stepL_len]; exact inn.2) x mx
theorem pure_law : ∀ t : DS, t.c = 0 → ∃ s', fb_law (lawS 11, t) = some (.rt (.d (.bl true)), s') := by
  intro t ht
  have e0 : lawS 11 = [.no, .v (.hnd 0), .no, .no, .no, .no, .no, .no, .no, .no, .no] := rfl
  have key : wS (fb_law (lawS 11, t)) fun o _ => o = .rt (.d (.bl true)) := by
    rw [e0]
    unfold fb_law
    simp only [fdA, List.map_cons, List.map_nil, List.length_cons, List.length_nil, List.cons_append, List.nil_append, List.replicate_succ, List.replicate_zero, Nat.zero_add, Nat.reduceAdd, Nat.reduceSub, Nat.sub_self, if_true, if_false, Bool.false_eq_true, Bool.not_true, Bool.not_false, reduceCtorEq, ite_true, ite_false, List.getElem?_cons_zero, List.getElem?_cons_succ, List.set_cons_zero, List.set_cons_succ, LEN, Nat.reduceLeDiff, Option.map_some, fvA, List.length_map, List.length_set, decide_true, decide_false, fhA, List.mem_cons, List.not_mem_nil, or_false, or_true, Nat.reduceEqDiff, Nat.succ_ne_self, fxA, fwA, fyA, and_true, true_and, imp_self, true_imp_iff, false_imp_iff, implies_true, fzA, fzW, v_rng1 (j := 10) (small_of (by decide))]
    refine w_for (fun k s => ∃ x2 x3 x4 x5 x6 x7 x8 x9, s.1 = [.no, .v (.hnd 0), x2, x3, x4, x5, x6, x7, x8, x9, .no] ∧ s.2.c ≤ 1000 * k) ⟨_, _, _, _, _, _, _, _, rfl, by simp [ht]⟩ ?_ ?_
    · rintro i d ⟨τ, u⟩ hd ⟨x2, x3, x4, x5, x6, x7, x8, x9, rfl, hc⟩
      have hi : i < (rngL 0 10).length := (List.getElem?_eq_some_iff.mp hd).1
      rw [rngL_len] at hi
      dsimp only at hc
      have a0 := u.draw_in (m := 6) (by decide)
      have c0 : (u.step 6).c ≤ u.c + 1 := DS.step_c
      obtain ⟨n, hn⟩ : ∃ n : Nat, 1 + u.draw 6 = (n : Nat) := ⟨(1 + u.draw 6).toNat, by omega⟩
      have v9 : mulD (.int 9) (.int 100000000000) = some (.int 900000000000, false) := by first | rfl | exact v_mul_int (by decide) (by decide)
      obtain ⟨g, t1, eg, g0, g1, c1⟩ : ∃ (g : Int) (t1 : DS), FF_q_one [.hnd 0, .lst [.int 2, .int 4, .int 9, .int 900000000000]] (u.step 6) = some (.ok (.int g) false, t1) ∧ 0 < g ∧ g < 10 ^ 12 ∧ t1.c ≤ (u.step 6).c + 1 := by
        have a1 := (u.step 6).draw_in (m := (([.int 2, .int 4, .int 9, .int 900000000000] : List D).length : Nat)) (by decide)
        obtain ⟨d, hd, e⟩ := atI_ex (ds := [.int 2, .int 4, .int 9, .int 900000000000]) a1.1 a1.2
        have e2 := one_eq (n := 0) (by decide) (by decide) (by omega) e
        simp only [List.mem_cons, List.not_mem_nil, or_false] at hd
        rcases hd with rfl | rfl | rfl | rfl
        all_goals exact ⟨_, _, e2, by decide, by decide, DS.step_c⟩
      simp only [fdA, List.map_cons, List.map_nil, List.length_cons, List.length_nil, List.cons_append, List.nil_append, List.replicate_succ, List.replicate_zero, Nat.zero_add, Nat.reduceAdd, Nat.reduceSub, Nat.sub_self, if_true, if_false, Bool.false_eq_true, Bool.not_true, Bool.not_false, reduceCtorEq, ite_true, ite_false, List.getElem?_cons_zero, List.getElem?_cons_succ, List.set_cons_zero, List.set_cons_succ, LEN, Nat.reduceLeDiff, Option.map_some, fvA, List.length_map, List.length_set, decide_true, decide_false, fhA, List.mem_cons, List.not_mem_nil, or_false, or_true, Nat.reduceEqDiff, Nat.succ_ne_self, fxA, fwA, fyA, and_true, true_and, imp_self, true_imp_iff, false_imp_iff, implies_true, fzA, fzW, v_rng1 (j := 3) (small_of (by decide)), next_eq (n := 0) (t := u) (m := 6) (by decide) (by decide) (by omega), hn, v_pow11, v9, eg]
      refine ⟨by rw [rngL_len]; decide, w_lcI (fun i w => w.c ≤ t1.c + 10 * i) (fun _ v => ∃ ns : List Int, v = tpI ns ∧ ns.length = n ∧ ∀ x ∈ ns, 0 ≤ x ∧ x < g) (by simp) (fun i d2 w hd2 hw => ?_) (fun out w hl hp hw => ?_)⟩
      · have hi2 : i < (rngL 0 3).length := (List.getElem?_eq_some_iff.mp hd2).1
        rw [rngL_len] at hi2
        obtain ⟨ns, w2, eu, l1, l2, c2⟩ := units_eq (n := 0) (k := n) (g := g) (t := w) (by omega) g0 (by omega) (by omega)
        simp only [fdA, List.map_cons, List.map_nil, List.length_cons, List.length_nil, List.cons_append, List.nil_append, List.replicate_succ, List.replicate_zero, Nat.zero_add, Nat.reduceAdd, Nat.reduceSub, Nat.sub_self, if_true, if_false, Bool.false_eq_true, Bool.not_true, Bool.not_false, reduceCtorEq, ite_true, ite_false, List.getElem?_cons_zero, List.getElem?_cons_succ, List.set_cons_zero, List.set_cons_succ, LEN, Nat.reduceLeDiff, Option.map_some, fvA, List.length_map, List.length_set, decide_true, decide_false, fhA, List.mem_cons, List.not_mem_nil, or_false, or_true, Nat.reduceEqDiff, Nat.succ_ne_self, fxA, fwA, fyA, and_true, true_and, imp_self, true_imp_iff, false_imp_iff, implies_true, fzA, fzW, eu]
        exact ⟨⟨ns, rfl, l1, l2⟩, by omega⟩
      · rw [rngL_len] at hl hw
        obtain ⟨ss, rfl, hss⟩ := list_of tpI (P := fun ns => ns.length = n ∧ ∀ x ∈ ns, 0 ≤ x ∧ x < g) hp
        rw [List.length_map] at hl
        match ss, hl with
        | [a, b, c], _ =>
          obtain ⟨la, ha⟩ := hss a (by simp)
          obtain ⟨lb, hb⟩ := hss b (by simp)
          obtain ⟨lc, hcc⟩ := hss c (by simp)
          have up : ∀ {m : List Int}, m.length = n → (∀ x ∈ m, 0 ≤ x ∧ x < g) → UnitsOk n m := fun {m} l h => ⟨l, fun x mx => by
            have := h x mx
            omega⟩
          have qn := q_near_eq (ns := a) (t := w) (by omega) (by omega)
          have nl : (nearP a).length ≤ 49 := by
            have h1 := List.length_filter_le (fun c => decide (0 ≤ minL c)) (nbrs0 a)
            have h2 := rows_len (ns := a) (by omega) (namesL a.length)
            rw [names_len] at h2
            have h3 : (nbrs0 a).length ≤ 7 * (a.length + 1) := h2
            unfold nearP
            omega
          obtain ⟨e, me, w2, en, c2⟩ := next_one (n := 0) (L := nearP a) (t := w) (List.length_pos_of_mem (one_more (by omega) fun x m => (ha x m).1)) (by omega) (by omega)
          obtain ⟨le, he⟩ := near_units la ha me
          have oe : UnitsOk n e := ⟨le, fun x m => by
            have := he x m
            omega⟩
          have t3 := three_eq (t := w2) (by omega) (by omega) (up la ha) (up lb hb) (up lc hcc)
          have t4 := three_eq (t := w2) (by omega) (by omega) (up la ha) oe (up lb hb)
          have t5 := three_eq (t := w2) (by omega) (by omega) (up la ha) (up la ha) (up lb hb)
          obtain ⟨kept, qr⟩ : ∃ kept, reprXD [.lst [tpI a, tpI b, tpI c, tpI e]] = some (.str kept, false) := by
            have one : ∀ {m : List Int}, UnitsOk n m → ord (10 ^ 59) 3 (tpI m) = true ∧ blk (tpI m) ≤ 100 := fun {m} h => by
              refine ⟨ord_tup (ordA_map fun x mx => ord_int (by have := h.2 x mx; omega)), ?_⟩
              have := blkA_map (n := 1) (f := D.int) (as := m) fun a _ => by simp [blk]
              have := h.1
              simp only [tpI, blk]
              omega
            have p1 := one (up la ha)
            have p2 := one (up lb hb)
            have p3 := one (up lc hcc)
            have p4 := one oe
            refine repr_lst (B := 10 ^ 59) (k := 3) (ordA_cons p1.1 (ordA_cons p2.1 (ordA_cons p3.1 (ordA_cons p4.1 ordA_nil)))) (by decide) (by decide) ?_
            simp only [blkA]
            omega
          have neS : neD (.str kept) (.str kept) = some (.bl false, false) := by
            rw [v_ne_str]
            simp
          rw [if_pos (show (List.map tpI [a, b, c]).length = 3 from rfl)]
          simp only [List.map_cons, List.map_nil]
          simp only [fdA, List.map_cons, List.map_nil, List.length_cons, List.length_nil, List.cons_append, List.nil_append, List.replicate_succ, List.replicate_zero, Nat.zero_add, Nat.reduceAdd, Nat.reduceSub, Nat.sub_self, if_true, if_false, Bool.false_eq_true, Bool.not_true, Bool.not_false, reduceCtorEq, ite_true, ite_false, List.getElem?_cons_zero, List.getElem?_cons_succ, List.set_cons_zero, List.set_cons_succ, LEN, Nat.reduceLeDiff, Option.map_some, fvA, List.length_map, List.length_set, decide_true, decide_false, fhA, List.mem_cons, List.not_mem_nil, or_false, or_true, Nat.reduceEqDiff, Nat.succ_ne_self, fxA, fwA, fyA, and_true, true_and, imp_self, true_imp_iff, false_imp_iff, implies_true, fzA, fzW, qn, en, qr, t3, t4, t5, neS]
          exact ⟨_, _, _, _, _, _, _, _, rfl, by omega⟩
    · rintro ⟨τ, u⟩ ⟨x2, x3, x4, x5, x6, x7, x8, x9, rfl, hc⟩
      dsimp only at hc
      rw [rngL_len] at hc
      simp only [fdA, List.map_cons, List.map_nil, List.length_cons, List.length_nil, List.cons_append, List.nil_append, List.replicate_succ, List.replicate_zero, Nat.zero_add, Nat.reduceAdd, Nat.reduceSub, Nat.sub_self, if_true, if_false, Bool.false_eq_true, Bool.not_true, Bool.not_false, reduceCtorEq, ite_true, ite_false, List.getElem?_cons_zero, List.getElem?_cons_succ, List.set_cons_zero, List.set_cons_succ, LEN, Nat.reduceLeDiff, Option.map_some, fvA, List.length_map, List.length_set, decide_true, decide_false, fhA, List.mem_cons, List.not_mem_nil, or_false, or_true, Nat.reduceEqDiff, Nat.succ_ne_self, fxA, fwA, fyA, and_true, true_and, imp_self, true_imp_iff, false_imp_iff, implies_true, fzA, fzW, v_rng1 (j := 3) (small_of (by decide))]
      refine w_for (fun k s => ∃ x2, s.1 = [.no, .v (.hnd 0), x2, x3, x4, x5, x6, x7, x8, x9, .no] ∧ s.2.c ≤ u.c + 100 * k) ⟨_, rfl, by simp⟩ ?_ ?_
      · rintro i d ⟨τ, v⟩ hd ⟨x2, rfl, hc2⟩
        have hi : i < (rngL 0 3).length := (List.getElem?_eq_some_iff.mp hd).1
        rw [rngL_len] at hi
        dsimp only at hc2
        obtain ⟨a, v1, e1, l1, b1, c1⟩ := units_eq (n := 0) (k := 2) (g := 4) (t := v) (by decide) (by decide) (by decide) (by omega)
        obtain ⟨b, v2, e2, l2, b2, c2⟩ := units_eq (n := 0) (k := 2) (g := 4) (t := v1) (by decide) (by decide) (by decide) (by omega)
        have rr := reached_eq (t := v2) (mem_box.mpr ⟨l1, b1⟩) (mem_box.mpr ⟨l2, b2⟩)
        have e1 : FF_q_units [.hnd 0, .int 2, .int 4] v = some (.ok (tpI a) false, v1) := e1
        have e2 : FF_q_units [.hnd 0, .int 2, .int 4] v1 = some (.ok (tpI b) false, v2) := e2
        simp only [fdA, List.map_cons, List.map_nil, List.length_cons, List.length_nil, List.cons_append, List.nil_append, List.replicate_succ, List.replicate_zero, Nat.zero_add, Nat.reduceAdd, Nat.reduceSub, Nat.sub_self, if_true, if_false, Bool.false_eq_true, Bool.not_true, Bool.not_false, reduceCtorEq, ite_true, ite_false, List.getElem?_cons_zero, List.getElem?_cons_succ, List.set_cons_zero, List.set_cons_succ, LEN, Nat.reduceLeDiff, Option.map_some, fvA, List.length_map, List.length_set, decide_true, decide_false, fhA, List.mem_cons, List.not_mem_nil, or_false, or_true, Nat.reduceEqDiff, Nat.succ_ne_self, fxA, fwA, fyA, and_true, true_and, imp_self, true_imp_iff, false_imp_iff, implies_true, fzA, fzW, e1, e2, rr]
        exact ⟨_, rfl, by omega⟩
      · rintro ⟨τ, v⟩ ⟨x2, rfl, hc2⟩
        have d1 := distance_eq (a := [0, 2]) (b := [2, 0]) (t := v) (by decide) (by decide)
        have d2 := distance_eq (a := [0, 0]) (b := [2, 1]) (t := v) (by decide) (by decide)
        rw [show distL [0, 2] [2, 0] = 2 by decide +kernel] at d1
        rw [show distL [0, 0] [2, 1] = 3 by decide +kernel] at d2
        simp only [tpI, List.map_cons, List.map_nil] at d1 d2
        simp only [fdA, List.map_cons, List.map_nil, List.length_cons, List.length_nil, List.cons_append, List.nil_append, List.replicate_succ, List.replicate_zero, Nat.zero_add, Nat.reduceAdd, Nat.reduceSub, Nat.sub_self, if_true, if_false, Bool.false_eq_true, Bool.not_true, Bool.not_false, reduceCtorEq, ite_true, ite_false, List.getElem?_cons_zero, List.getElem?_cons_succ, List.set_cons_zero, List.set_cons_succ, LEN, Nat.reduceLeDiff, Option.map_some, fvA, List.length_map, List.length_set, decide_true, decide_false, fhA, List.mem_cons, List.not_mem_nil, or_false, or_true, Nat.reduceEqDiff, Nat.succ_ne_self, fxA, fwA, fyA, and_true, true_and, imp_self, true_imp_iff, false_imp_iff, implies_true, fzA, fzW, d1, d2]
  obtain ⟨o, s', e, rfl⟩ := key
  exact ⟨s', e⟩
end FD

namespace FD
open PySem PySem.Spec PyProof.Rows L2
set_option maxHeartbeats 0 in
theorem all_mk {P : Program} {w : World} {K : PySem.W.Frag} {h : Heap} {mg : Str → Option Value} {fa : Addr} (X : K.In h) (G : h.Ns mainGlobals mg) (hfa : mg "law" = some (.ref fa))
    {f0 : Addr} {od0 an0 : Option Addr} {sl0 : Array (Option Value)} {oc0 kV0 dc0 pm0 cd0 ct0 : Value}
    {f1 : Addr} {od1 an1 : Option Addr} {sl1 : Array (Option Value)} {oc1 kV1 dc1 pm1 cd1 ct1 : Value}
    {f2 : Addr} {od2 an2 : Option Addr} {sl2 : Array (Option Value)} {oc2 kV2 dc2 pm2 cd2 ct2 : Value}
    {f3 : Addr} {od3 an3 : Option Addr} {sl3 : Array (Option Value)} {oc3 kV3 dc3 pm3 cd3 ct3 : Value}
    {f4 : Addr} {od4 an4 : Option Addr} {sl4 : Array (Option Value)} {oc4 kV4 dc4 pm4 cd4 ct4 : Value}
    {f5 : Addr} {od5 an5 : Option Addr} {sl5 : Array (Option Value)} {oc5 kV5 dc5 pm5 cd5 ct5 : Value}
    {f6 : Addr} {od6 an6 : Option Addr} {sl6 : Array (Option Value)} {oc6 kV6 dc6 pm6 cd6 ct6 : Value}
    {f7 : Addr} {od7 an7 : Option Addr} {sl7 : Array (Option Value)} {oc7 kV7 dc7 pm7 cd7 ct7 : Value}
    {f8 : Addr} {od8 an8 : Option Addr} {sl8 : Array (Option Value)} {oc8 kV8 dc8 pm8 cd8 ct8 : Value}
    {f9 : Addr} {od9 an9 : Option Addr} {sl9 : Array (Option Value)} {oc9 kV9 dc9 pm9 cd9 ct9 : Value}
    {f10 : Addr} {od10 an10 : Option Addr} {sl10 : Array (Option Value)} {oc10 kV10 dc10 pm10 cd10 ct10 : Value}
    {f11 : Addr} {od11 an11 : Option Addr} {sl11 : Array (Option Value)} {oc11 kV11 dc11 pm11 cd11 ct11 : Value}
    (a0 : PySem.W.nsIn K mainGlobals "distance" = some (some (.ref f0))) (l0 : K.lookup f0 = some ⟨oc0, od0, .func (PySem.W.fnOf "distance" "distance" (defArgs s_distance) (defBody s_distance) (defScope s_distance) .none kV0 dc0 pm0 an0 cd0 ct0), sl0⟩) (c0 : PySem.W.codeIn K cd0 "distance" = true) (k0 : PySem.W.keepIn K (.ref f0) = true)
    (a1 : PySem.W.nsIn K mainGlobals "_law_deck" = some (some (.ref f1))) (l1 : K.lookup f1 = some ⟨oc1, od1, .func (PySem.W.fnOf "_law_deck" "_law_deck" (defArgs s_q_deck) (defBody s_q_deck) (defScope s_q_deck) .none kV1 dc1 pm1 an1 cd1 ct1), sl1⟩) (c1 : PySem.W.codeIn K cd1 "_law_deck" = true) (k1 : PySem.W.keepIn K (.ref f1) = true)
    (a2 : PySem.W.nsIn K mainGlobals "_law_next" = some (some (.ref f2))) (l2 : K.lookup f2 = some ⟨oc2, od2, .func (PySem.W.fnOf "_law_next" "_law_next" (defArgs s_q_next) (defBody s_q_next) (defScope s_q_next) .none kV2 dc2 pm2 an2 cd2 ct2), sl2⟩) (c2 : PySem.W.codeIn K cd2 "_law_next" = true) (k2 : PySem.W.keepIn K (.ref f2) = true)
    (a3 : PySem.W.nsIn K mainGlobals "_law_one" = some (some (.ref f3))) (l3 : K.lookup f3 = some ⟨oc3, od3, .func (PySem.W.fnOf "_law_one" "_law_one" (defArgs s_q_one) (defBody s_q_one) (defScope s_q_one) .none kV3 dc3 pm3 an3 cd3 ct3), sl3⟩) (c3 : PySem.W.codeIn K cd3 "_law_one" = true) (k3 : PySem.W.keepIn K (.ref f3) = true)
    (a4 : PySem.W.nsIn K mainGlobals "_law_same" = some (some (.ref f4))) (l4 : K.lookup f4 = some ⟨oc4, od4, .func (PySem.W.fnOf "_law_same" "_law_same" (defArgs s_q_same) (defBody s_q_same) (defScope s_q_same) .none kV4 dc4 pm4 an4 cd4 ct4), sl4⟩) (c4 : PySem.W.codeIn K cd4 "_law_same" = true) (k4 : PySem.W.keepIn K (.ref f4) = true)
    (a5 : PySem.W.nsIn K mainGlobals "_law_changed" = some (some (.ref f5))) (l5 : K.lookup f5 = some ⟨oc5, od5, .func (PySem.W.fnOf "_law_changed" "_law_changed" (defArgs s_q_changed) (defBody s_q_changed) (defScope s_q_changed) .none kV5 dc5 pm5 an5 cd5 ct5), sl5⟩) (c5 : PySem.W.codeIn K cd5 "_law_changed" = true) (k5 : PySem.W.keepIn K (.ref f5) = true)
    (a6 : PySem.W.nsIn K mainGlobals "_law_distance" = some (some (.ref f6))) (l6 : K.lookup f6 = some ⟨oc6, od6, .func (PySem.W.fnOf "_law_distance" "_law_distance" (defArgs s_q_distance) (defBody s_q_distance) (defScope s_q_distance) .none kV6 dc6 pm6 an6 cd6 ct6), sl6⟩) (c6 : PySem.W.codeIn K cd6 "_law_distance" = true) (k6 : PySem.W.keepIn K (.ref f6) = true)
    (a7 : PySem.W.nsIn K mainGlobals "_law_units" = some (some (.ref f7))) (l7 : K.lookup f7 = some ⟨oc7, od7, .func (PySem.W.fnOf "_law_units" "_law_units" (defArgs s_q_units) (defBody s_q_units) (defScope s_q_units) .none kV7 dc7 pm7 an7 cd7 ct7), sl7⟩) (c7 : PySem.W.codeIn K cd7 "_law_units" = true) (k7 : PySem.W.keepIn K (.ref f7) = true)
    (a8 : PySem.W.nsIn K mainGlobals "_law_near" = some (some (.ref f8))) (l8 : K.lookup f8 = some ⟨oc8, od8, .func (PySem.W.fnOf "_law_near" "_law_near" (defArgs s_q_near) (defBody s_q_near) (defScope s_q_near) .none kV8 dc8 pm8 an8 cd8 ct8), sl8⟩) (c8 : PySem.W.codeIn K cd8 "_law_near" = true) (k8 : PySem.W.keepIn K (.ref f8) = true)
    (a9 : PySem.W.nsIn K mainGlobals "_law_three_right" = some (some (.ref f9))) (l9 : K.lookup f9 = some ⟨oc9, od9, .func (PySem.W.fnOf "_law_three_right" "_law_three_right" (defArgs s_q_three_right) (defBody s_q_three_right) (defScope s_q_three_right) .none kV9 dc9 pm9 an9 cd9 ct9), sl9⟩) (c9 : PySem.W.codeIn K cd9 "_law_three_right" = true) (k9 : PySem.W.keepIn K (.ref f9) = true)
    (a10 : PySem.W.nsIn K mainGlobals "_law_reached_right" = some (some (.ref f10))) (l10 : K.lookup f10 = some ⟨oc10, od10, .func (PySem.W.fnOf "_law_reached_right" "_law_reached_right" (defArgs s_q_reached_right) (defBody s_q_reached_right) (defScope s_q_reached_right) .none kV10 dc10 pm10 an10 cd10 ct10), sl10⟩) (c10 : PySem.W.codeIn K cd10 "_law_reached_right" = true) (k10 : PySem.W.keepIn K (.ref f10) = true)
    (a11 : PySem.W.nsIn K mainGlobals "law" = some (some (.ref f11))) (l11 : K.lookup f11 = some ⟨oc11, od11, .func (PySem.W.fnOf "law" "law" (defArgs s_law) (defBody s_law) (defScope s_law) .none kV11 dc11 pm11 an11 cd11 ct11), sl11⟩) (c11 : PySem.W.codeIn K cd11 "law" = true) (k11 : PySem.W.keepIn K (.ref f11) = true)
    (z0 : PySem.W.nsIn K mainGlobals "sum" = some none)
    (z1 : PySem.W.nsIn K mainGlobals "max" = some none)
    (z2 : PySem.W.nsIn K mainGlobals "isinstance" = some none)
    (z3 : PySem.W.nsIn K mainGlobals "dict" = some none)
    (z4 : PySem.W.nsIn K mainGlobals "str" = some none)
    (z5 : PySem.W.nsIn K mainGlobals "list" = some none)
    (z6 : PySem.W.nsIn K mainGlobals "tuple" = some none)
    (z7 : PySem.W.nsIn K mainGlobals "range" = some none)
    (z8 : PySem.W.nsIn K mainGlobals "abs" = some none)
    (z9 : PySem.W.nsIn K mainGlobals "int" = some none)
    (z10 : PySem.W.nsIn K mainGlobals "repr" = some none)
    (z11 : PySem.W.nsIn K mainGlobals "len" = some none)
    (z12 : PySem.W.nsIn K mainGlobals "bool" = some none)
    (z13 : PySem.W.nsIn K mainGlobals "sorted" = some none)
    (z14 : PySem.W.nsIn K mainGlobals "zip" = some none)
    (z15 : PySem.W.nsIn K mainGlobals "min" = some none)
    (z16 : PySem.W.nsIn K mainGlobals "set" = some none)
    : ∃ fd : FuncData, (∀ (s : Shared) (v : Value), BindsTo s fd ⟨[v], []⟩ [("_law_script", v)]) ∧ ∀ base : Heap, K.In base → base.Ns mainGlobals mg → FnG P w K mg base (L2N.CX P w) 14 fa fd p_law (sp_law K) := by
  have e := hfa.symm.trans (PySem.W.mg_of X G a11)
  cases e
  have F0 := fun_mk (st := s_distance) l0 c0 k0
  have b0 := F0.binds (ps := p_distance) fun _ _ _ _ _ _ us hl => match us, hl with | [_, _], _ => rfl
  have F1 := fun_mk (st := s_q_deck) l1 c1 k1
  have b1 := F1.binds (ps := p_q_deck) fun _ _ _ _ _ _ us hl => match us, hl with | [_], _ => rfl
  have F2 := fun_mk (st := s_q_next) l2 c2 k2
  have b2 := F2.binds (ps := p_q_next) fun _ _ _ _ _ _ us hl => match us, hl with | [_, _], _ => rfl
  have F3 := fun_mk (st := s_q_one) l3 c3 k3
  have b3 := F3.binds (ps := p_q_one) fun _ _ _ _ _ _ us hl => match us, hl with | [_, _], _ => rfl
  have F4 := fun_mk (st := s_q_same) l4 c4 k4
  have b4 := F4.binds (ps := p_q_same) fun _ _ _ _ _ _ us hl => match us, hl with | [_, _], _ => rfl
  have F5 := fun_mk (st := s_q_changed) l5 c5 k5
  have b5 := F5.binds (ps := p_q_changed) fun _ _ _ _ _ _ us hl => match us, hl with | [_, _, _], _ => rfl
  have F6 := fun_mk (st := s_q_distance) l6 c6 k6
  have b6 := F6.binds (ps := p_q_distance) fun _ _ _ _ _ _ us hl => match us, hl with | [_, _], _ => rfl
  have F7 := fun_mk (st := s_q_units) l7 c7 k7
  have b7 := F7.binds (ps := p_q_units) fun _ _ _ _ _ _ us hl => match us, hl with | [_, _, _], _ => rfl
  have F8 := fun_mk (st := s_q_near) l8 c8 k8
  have b8 := F8.binds (ps := p_q_near) fun _ _ _ _ _ _ us hl => match us, hl with | [_], _ => rfl
  have F9 := fun_mk (st := s_q_three_right) l9 c9 k9
  have b9 := F9.binds (ps := p_q_three_right) fun _ _ _ _ _ _ us hl => match us, hl with | [_, _, _], _ => rfl
  have F10 := fun_mk (st := s_q_reached_right) l10 c10 k10
  have b10 := F10.binds (ps := p_q_reached_right) fun _ _ _ _ _ _ us hl => match us, hl with | [_, _], _ => rfl
  have F11 := fun_mk (st := s_law) l11 c11 k11
  have b11 := F11.binds (ps := p_law) fun _ _ _ _ _ _ us hl => match us, hl with | [_], _ => rfl
  let T : Txt K mg := {
    f_distance := ⟨f0, _, F0, b0, PySem.W.mg_of X G a0⟩,
    f_q_deck := ⟨f1, _, F1, b1, PySem.W.mg_of X G a1⟩,
    f_q_next := ⟨f2, _, F2, b2, PySem.W.mg_of X G a2⟩,
    f_q_one := ⟨f3, _, F3, b3, PySem.W.mg_of X G a3⟩,
    f_q_same := ⟨f4, _, F4, b4, PySem.W.mg_of X G a4⟩,
    f_q_changed := ⟨f5, _, F5, b5, PySem.W.mg_of X G a5⟩,
    f_q_distance := ⟨f6, _, F6, b6, PySem.W.mg_of X G a6⟩,
    f_q_units := ⟨f7, _, F7, b7, PySem.W.mg_of X G a7⟩,
    f_q_near := ⟨f8, _, F8, b8, PySem.W.mg_of X G a8⟩,
    f_q_three_right := ⟨f9, _, F9, b9, PySem.W.mg_of X G a9⟩,
    f_q_reached_right := ⟨f10, _, F10, b10, PySem.W.mg_of X G a10⟩,
    f_law := ⟨fa, _, F11, b11, PySem.W.mg_of X G a11⟩,
    m_sum := PySem.W.mg_none_of X G z0, m_max := PySem.W.mg_none_of X G z1, m_isinstance := PySem.W.mg_none_of X G z2, m_dict := PySem.W.mg_none_of X G z3, m_str := PySem.W.mg_none_of X G z4, m_list := PySem.W.mg_none_of X G z5, m_tuple := PySem.W.mg_none_of X G z6, m_range := PySem.W.mg_none_of X G z7, m_abs := PySem.W.mg_none_of X G z8, m_int := PySem.W.mg_none_of X G z9, m_repr := PySem.W.mg_none_of X G z10, m_len := PySem.W.mg_none_of X G z11, m_bool := PySem.W.mg_none_of X G z12, m_sorted := PySem.W.mg_none_of X G z13, m_zip := PySem.W.mg_none_of X G z14, m_min := PySem.W.mg_none_of X G z15, m_set := PySem.W.mg_none_of X G z16 }
  let ca : Str → Addr := fun x => (0 : Addr)
  have U : CaOk T ca := { one := trivial }
  exact ⟨_, fun s v => .of_eq rfl, fun base _ _ => ok_law T ca U pure_law⟩
end FD
open PySem PySem.W PyProof.Rows
set_option maxHeartbeats 0 in
theorem PySem.Challenge.cw_groupcaps_k35_whole_distances_holds : PySem.Challenge.rw_groupcaps_k35_whole_distances.Holds := by
  w_on; o_law; k_head; (case hw => w_witness2)
  k_fill
  refine FD.walkG (l := PySem.Challenge.rw_groupcaps_k35_whole_distances) (n := 63) (k := 14) (x := "_law_script") (CX := fun w => L2N.CX (PySem.Challenge.rw_groupcaps_k35_whole_distances).prog w) (sp := fun w => FD.sp_law _) rfl (by decide) rfl ⟨rfl, by decide, by decide⟩ (fun w h Y => PySem.W.kIn_of Y) ?F (fun _ _ a ns hl hS => ⟨a, ns, rfl, hS, hl, fun _ => rfl⟩) (fun _ _ _ _ _ h => FD.noCX _ _ _ _ h)
  case F =>
    intro w mg fa h KX G hmg
    refine' FD.all_mk KX G hmg ?a0 ?l0 ?c0 ?k0 ?a1 ?l1 ?c1 ?k1 ?a2 ?l2 ?c2 ?k2 ?a3 ?l3 ?c3 ?k3 ?a4 ?l4 ?c4 ?k4 ?a5 ?l5 ?c5 ?k5 ?a6 ?l6 ?c6 ?k6 ?a7 ?l7 ?c7 ?k7 ?a8 ?l8 ?c8 ?k8 ?a9 ?l9 ?c9 ?k9 ?a10 ?l10 ?c10 ?k10 ?a11 ?l11 ?c11 ?k11 ?z0 ?z1 ?z2 ?z3 ?z4 ?z5 ?z6 ?z7 ?z8 ?z9 ?z10 ?z11 ?z12 ?z13 ?z14 ?z15 ?z16
    (case a0 => k_is); (case l0 => k_is); (case c0 => k_is); (case k0 => k_is); (case a1 => k_is); (case l1 => k_is); (case c1 => k_is); (case k1 => k_is); (case a2 => k_is); (case l2 => k_is); (case c2 => k_is); (case k2 => k_is); (case a3 => k_is); (case l3 => k_is); (case c3 => k_is); (case k3 => k_is); (case a4 => k_is); (case l4 => k_is); (case c4 => k_is); (case k4 => k_is); (case a5 => k_is); (case l5 => k_is); (case c5 => k_is); (case k5 => k_is); (case a6 => k_is); (case l6 => k_is); (case c6 => k_is); (case k6 => k_is); (case a7 => k_is); (case l7 => k_is); (case c7 => k_is); (case k7 => k_is); (case a8 => k_is); (case l8 => k_is); (case c8 => k_is); (case k8 => k_is); (case a9 => k_is); (case l9 => k_is); (case c9 => k_is); (case k9 => k_is); (case a10 => k_is); (case l10 => k_is); (case c10 => k_is); (case k10 => k_is); (case a11 => k_is); (case l11 => k_is); (case c11 => k_is); (case k11 => k_is); (case z0 => k_is); (case z1 => k_is); (case z2 => k_is); (case z3 => k_is); (case z4 => k_is); (case z5 => k_is); (case z6 => k_is); (case z7 => k_is); (case z8 => k_is); (case z9 => k_is); (case z10 => k_is); (case z11 => k_is); (case z12 => k_is); (case z13 => k_is); (case z14 => k_is); (case z15 => k_is); (case z16 => k_is)


import PyProof.Rows.All
import Wide.All
import OpenK.AllK
import Wide.FinOn
import HandS.ForMost
import HandS.ForExc
import HandS.TupMul
import HandS.Wide
import HandS.TupAny
import HandS.Deep
import HandS.TupLe
import HandS.Style
import HandS.Walk
import HandS.Zip
import HandS.Rev
import HandS.RevRange
import HandS.CallSlots
import HandS.IsInst
import HandS.TryOnly
import HandS.SortInts
import HandS.Conv
import HandS.SortKw
import HandS.Ends
import KE.KRevSl
import PySem.Challenge.RW_groupcaps_k41_evenness_judged
set_option Elab.async false
set_option linter.all false
set_option maxRecDepth 100000
/-! F0: data, what stands for them in the heap, the world, the state of a frame. -/
namespace FD
open PySem PySem.Spec PyProof.Rows L2

/-- a datum: what a value means, without addresses -/
inductive D where
  | non | bl (b : Bool) | int (i : Int) | str (x : Str)
  | tup (ds : List D) | lst (ds : List D)
  | dct (kvs : List (Key × D))
  | obj (c : Str) (fs : List (Str × D))
  | ty (n : String) | hnd (n : Nat)

/-- the world: what is hidden from the data (the deck), with its state; the classes' addresses -/
structure Wd where
  T : Type
  On : T → Hp → Prop
  hid : Addr → Prop
  val : Nat → V
  ca : Str → Addr
  loc : ∀ t H H', On t H → (∀ a o, hid a → H a = some o → H' a = some o) → On t H'
  trk : ∀ t H a, On t H → hid a → ∃ o, H a = some o ∧ ∀ xs, o ≠ .tup xs

mutual
inductive Den (Z : Wd) (O : Addr → Prop) (H : Hp) : V → D → Prop
  | non : Den Z O H .non .non
  | bl (b : Bool) : Den Z O H (.bl b) (.bl b)
  | int (i : Int) : Den Z O H (.int i) (.int i)
  | str (x : Str) : Den Z O H (.str x) (.str x)
  | ty (n : String) : Den Z O H (.ty n) (.ty n)
  | hnd (n : Nat) : Den Z O H (Z.val n) (.hnd n)
  | ref {a : Addr} {o : HO} {d : D} : H a = some o → ¬ O a → Cont Z O H o d → Den Z O H (.ref a) d
/-- what an object holds -/
inductive Cont (Z : Wd) (O : Addr → Prop) (H : Hp) : HO → D → Prop
  | tup {xs : List V} {ds : List D} : DenA Z O H xs ds → Cont Z O H (.tup xs) (.tup ds)
  | lst {xs : List V} {ds : List D} : DenA Z O H xs ds → Cont Z O H (.lst xs) (.lst ds)
  | dct {xs : List (Key × V)} {ds : List (Key × D)} : DenK Z O H xs ds → Cont Z O H (.dK xs) (.dct ds)
  | obj {c : Str} {dx : Addr} {fs : List (Str × V)} {ds : List (Str × D)} : DenF Z O H fs ds → Cont Z O H (.ins (Z.ca c) dx fs) (.obj c ds)
inductive DenA (Z : Wd) (O : Addr → Prop) (H : Hp) : List V → List D → Prop
  | nil : DenA Z O H [] []
  | cons {v : V} {vs : List V} {d : D} {ds : List D} : Den Z O H v d → DenA Z O H vs ds → DenA Z O H (v :: vs) (d :: ds)
inductive DenK (Z : Wd) (O : Addr → Prop) (H : Hp) : List (Key × V) → List (Key × D) → Prop
  | nil : DenK Z O H [] []
  | cons {k : Key} {v : V} {vs : List (Key × V)} {d : D} {ds : List (Key × D)} : Den Z O H v d → DenK Z O H vs ds → DenK Z O H ((k, v) :: vs) ((k, d) :: ds)
inductive DenF (Z : Wd) (O : Addr → Prop) (H : Hp) : List (Str × V) → List (Str × D) → Prop
  | nil : DenF Z O H [] []
  | cons {k : Str} {v : V} {vs : List (Str × V)} {d : D} {ds : List (Str × D)} : Den Z O H v d → DenF Z O H vs ds → DenF Z O H ((k, v) :: vs) ((k, d) :: ds)
end

section
variable {Z : Wd} {O O' : Addr → Prop} {H H' : Hp}
mutual
theorem Den.mono (k : ∀ a o, H a = some o → ¬ O a → H' a = some o ∧ ¬ O' a) : ∀ {v : V} {d : D}, Den Z O H v d → Den Z O' H' v d
  | _, _, .non => .non
  | _, _, .bl b => .bl b
  | _, _, .int i => .int i
  | _, _, .str x => .str x
  | _, _, .ty x => .ty x
  | _, _, .hnd n => .hnd n
  | _, _, .ref e n c => .ref (k _ _ e n).1 (k _ _ e n).2 (Cont.mono k c)
theorem Cont.mono (k : ∀ a o, H a = some o → ¬ O a → H' a = some o ∧ ¬ O' a) : ∀ {o : HO} {d : D}, Cont Z O H o d → Cont Z O' H' o d
  | _, _, .tup c => .tup (DenA.mono k c)
  | _, _, .lst c => .lst (DenA.mono k c)
  | _, _, .dct c => .dct (DenK.mono k c)
  | _, _, .obj c => .obj (DenF.mono k c)
theorem DenA.mono (k : ∀ a o, H a = some o → ¬ O a → H' a = some o ∧ ¬ O' a) : ∀ {v : List V} {d : List D}, DenA Z O H v d → DenA Z O' H' v d
  | _, _, .nil => .nil
  | _, _, .cons h r => .cons (Den.mono k h) (DenA.mono k r)
theorem DenK.mono (k : ∀ a o, H a = some o → ¬ O a → H' a = some o ∧ ¬ O' a) : ∀ {v : List (Key × V)} {d : List (Key × D)}, DenK Z O H v d → DenK Z O' H' v d
  | _, _, .nil => .nil
  | _, _, .cons h r => .cons (Den.mono k h) (DenK.mono k r)
theorem DenF.mono (k : ∀ a o, H a = some o → ¬ O a → H' a = some o ∧ ¬ O' a) : ∀ {v : List (Str × V)} {d : List (Str × D)}, DenF Z O H v d → DenF Z O' H' v d
  | _, _, .nil => .nil
  | _, _, .cons h r => .cons (Den.mono k h) (DenF.mono k r)
end
theorem DenA.len : ∀ {vs : List V} {ds : List D}, DenA Z O H vs ds → vs.length = ds.length
  | _, _, .nil => rfl
  | _, _, .cons _ r => by rw [List.length_cons, List.length_cons, DenA.len r]
theorem DenA.get : ∀ {vs : List V} {ds : List D} {i : Nat} {v : V}, DenA Z O H vs ds → vs[i]? = some v → ∃ d, ds[i]? = some d ∧ Den Z O H v d
  | _, _, _, _, .nil, e => by cases e
  | _, _, 0, _, .cons h _, e => by
    cases e
    exact ⟨_, rfl, h⟩
  | _, _, i + 1, _, .cons _ r, e => DenA.get (i := i) r e
theorem DenA.get2 : ∀ {vs : List V} {ds : List D} {i : Nat} {d : D}, DenA Z O H vs ds → ds[i]? = some d → ∃ v, vs[i]? = some v ∧ Den Z O H v d
  | _, _, _, _, .nil, e => by cases e
  | _, _, 0, _, .cons h _, e => by
    cases e
    exact ⟨_, rfl, h⟩
  | _, _, i + 1, _, .cons _ r, e => DenA.get2 (i := i) r e
theorem DenA.app : ∀ {vs ws : List V} {ds es : List D}, DenA Z O H vs ds → DenA Z O H ws es → DenA Z O H (vs ++ ws) (ds ++ es)
  | _, _, _, _, .nil, k => k
  | _, _, _, _, .cons h r, k => .cons h (DenA.app r k)
theorem DenA.one {v : V} {d : D} (h : Den Z O H v d) : DenA Z O H [v] [d] := .cons h .nil
theorem DenA.take : ∀ {vs : List V} {ds : List D} (n : Nat), DenA Z O H vs ds → DenA Z O H (vs.take n) (ds.take n)
  | _, _, 0, _ => .nil
  | _, _, _ + 1, .nil => .nil
  | _, _, n + 1, .cons r t => .cons r (DenA.take n t)
theorem DenA.drop : ∀ {vs : List V} {ds : List D} (n : Nat), DenA Z O H vs ds → DenA Z O H (vs.drop n) (ds.drop n)
  | _, _, 0, r => r
  | _, _, _ + 1, .nil => .nil
  | _, _, n + 1, .cons _ t => DenA.drop n t
theorem DenA.set : ∀ {vs : List V} {ds : List D} {v : V} {d : D} (n : Nat), DenA Z O H vs ds → Den Z O H v d → DenA Z O H (vs.set n v) (ds.set n d)
  | _, _, _, _, _, .nil, _ => .nil
  | _, _, _, _, 0, .cons _ t, h => .cons h t
  | _, _, _, _, n + 1, .cons r t, h => .cons r (DenA.set n t h)
theorem denA_ints : ∀ ns : List Int, DenA Z O H (ns.map V.int) (ns.map D.int)
  | [] => .nil
  | n :: r => .cons (.int n) (denA_ints r)
theorem DenF.lookup {f : Str} : ∀ {vs : List (Str × V)} {ds : List (Str × D)} {d : D}, DenF Z O H vs ds → ds.lookup f = some d → ∃ v, vs.lookup f = some v ∧ Den Z O H v d
  | _, _, _, .nil, e => by cases e
  | (k, v) :: vs, (_, d) :: ds, d', .cons h r, e => by
    rw [List.lookup_cons] at e ⊢
    cases q : f == k with
    | true =>
      rw [q] at e
      cases e
      exact ⟨v, rfl, h⟩
    | false =>
      rw [q] at e
      exact DenF.lookup r e
theorem DenF.keys {f : Str} : ∀ {vs : List (Str × V)} {ds : List (Str × D)}, DenF Z O H vs ds → vs.map (·.1) = ds.map (·.1)
  | _, _, .nil => rfl
  | _, _, .cons _ r => by rw [List.map_cons, List.map_cons, DenF.keys (f := f) r]
end

/-- a slot: unset, a datum that others may hold too, a datum that no one else holds -/
inductive Sl where
  | no | v (d : D) | o (d : D)

/-- the addresses that are not to be seen through data: the callers', the slots' own ones and the pending one (at 0) -/
def Hid (O₀ : Addr → Prop) (ow : Nat → Option Addr) : Addr → Prop := fun a => O₀ a ∨ ∃ i, ow i = some a

/-- what stands in slot i -/
def SlotOk (Z : Wd) (O : Addr → Prop) (H : Hp) (ow : Nat → Option Addr) (σ : L2.St) (i : Nat) : Sl → Prop
  | .no => True
  | .v d => ∃ v, σ[i]? = some (some v) ∧ Den Z O H v d
  | .o d => ∃ a o, ow (i + 1) = some a ∧ σ[i]? = some (some (V.ref a)) ∧ H a = some o ∧ Cont Z O H o d

/-- the frame's state, by data -/
structure Rel (Z : Wd) (O₀ : Addr → Prop) (H₀ : Hp) (ow : Nat → Option Addr) (τ : List Sl) (t : Z.T) (σ : L2.St) (H : Hp) : Prop where
  on : Z.On t H
  hid : ∀ a, Z.hid a → O₀ a
  hidT : ∀ a, O₀ a → ∃ o, H₀ a = some o ∧ ∀ xs, o ≠ .tup xs
  grow : ∀ a o, H₀ a = some o → ¬ Z.hid a → H a = some o
  len : τ.length = σ.length
  slot : ∀ (i : Nat) (s : Sl), τ[i]? = some s → SlotOk Z (Hid O₀ ow) H ow σ i s
  inj : ∀ i j a, ow i = some a → ow j = some a → i = j
  new : ∀ i a, ow i = some a → H₀ a = none ∧ ∃ o, H a = some o ∧ ∀ xs, o ≠ .tup xs

/-- what was to be seen is to be seen, as it was -/
structure Ext (O : Addr → Prop) (H : Hp) (O' : Addr → Prop) (H' : Hp) : Prop where
  kept : ∀ a o, H a = some o → ¬ O a → H' a = some o
  hid : ∀ a, O' a → O a ∨ H a = none
theorem Ext.refl {O : Addr → Prop} {H : Hp} : Ext O H O H := ⟨fun _ _ e _ => e, fun _ h => .inl h⟩
theorem Ext.see {O O' : Addr → Prop} {H H' : Hp} (x : Ext O H O' H') : ∀ a o, H a = some o → ¬ O a → H' a = some o ∧ ¬ O' a := fun a o e n =>
  ⟨x.kept a o e n, fun h => (x.hid a h).elim n fun z => by rw [e] at z; cases z⟩
theorem Ext.trans {O O1 O2 : Addr → Prop} {H H1 H2 : Hp} (x : Ext O H O1 H1) (y : Ext O1 H1 O2 H2) : Ext O H O2 H2 := by
  refine ⟨fun a o e n => y.kept a o (x.kept a o e n) (x.see a o e n).2, fun a h => ?_⟩
  rcases y.hid a h with h | h
  · exact x.hid a h
  · cases e : H a with
    | none => exact .inr rfl
    | some o =>
      refine .inl (Classical.byContradiction fun n => ?_)
      rw [x.kept a o e n] at h
      cases h
theorem Den.ext {Z : Wd} {O O' : Addr → Prop} {H H' : Hp} (x : Ext O H O' H') {v : V} {d : D} (h : Den Z O H v d) : Den Z O' H' v d := h.mono x.see
theorem DenA.ext {Z : Wd} {O O' : Addr → Prop} {H H' : Hp} (x : Ext O H O' H') {v : List V} {d : List D} (h : DenA Z O H v d) : DenA Z O' H' v d := h.mono x.see
theorem Cont.ext {Z : Wd} {O O' : Addr → Prop} {H H' : Hp} (x : Ext O H O' H') {v : HO} {d : D} (h : Cont Z O H v d) : Cont Z O' H' v d := h.mono x.see

end FD

/-! F1: results, readings by functions, operators. -/
namespace FD
open PySem PySem.Spec PyProof.Rows L2

/-- what an expression gives: a datum others may hold, a new one that no one holds, the value of slot i -/
inductive Res where
  | d (d : D) | f (d : D) | s (i : Nat)
/-- an expression's end: a result, an exception -/
inductive Out where
  | ok (r : Res) | ex (c : Str) (fs : List (Str × D))
abbrev Sg (T : Type) := List Sl × T
abbrev EF (T : Type) := Sg T → Option (Out × Sg T)

/-- the frame: the world, the callers' hidden addresses, the heap at the entry, what is wanted of exceptions -/
structure Fx (Z : Wd) where
  O : Addr → Prop
  H : Hp
  W : WX

abbrev Fx.Rel {Z : Wd} (C : Fx Z) (ow : Nat → Option Addr) (τ : List Sl) (t : Z.T) (σ : L2.St) (H : Hp) : Prop := FD.Rel Z C.O C.H ow τ t σ H
abbrev Fx.Hid {Z : Wd} (C : Fx Z) (ow : Nat → Option Addr) : Addr → Prop := FD.Hid C.O ow

def ResOk {Z : Wd} (C : Fx Z) (ow : Nat → Option Addr) (τ : List Sl) (σ : L2.St) (H : Hp) (v : V) : Res → Prop
  | .d d => ow 0 = none ∧ Den Z (C.Hid ow) H v d
  | .f d => ∃ a o, ow 0 = some a ∧ v = .ref a ∧ H a = some o ∧ Cont Z (C.Hid ow) H o d
  | .s i => ow 0 = none ∧ σ[i]? = some (some v)

/-- an exception's fields -/
def ExOk (Z : Wd) (O : Addr → Prop) (H : Hp) : Option Addr → List (Str × D) → Prop
  | none, fs => fs = []
  | some a, fs => ∃ vs, H a = some (.xd vs) ∧ DenF Z O H vs fs

/-- what is wanted behind an expression -/
def Fin {Z : Wd} (C : Fx Z) (ow : Nat → Option Addr) (σ : L2.St) (H : Hp) (Q : VK) (s' : Sg Z.T) : Out → Prop
  | .ok r => ∀ ow' v H', C.Rel ow' s'.1 s'.2 σ H' → ResOk C ow' s'.1 σ H' v r → Ext (C.Hid ow) H (C.Hid ow') H' → Q v H'
  | .ex c fs => ∀ ow' d H', C.Rel ow' s'.1 s'.2 σ H' → ow' 0 = none → Ext (C.Hid ow) H (C.Hid ow') H' → ExOk Z (C.Hid ow') H' d fs → C.W (.ref (Z.ca c)) d σ H'
/-- the reading of an expression by a function of the data -/
def tF {Z : Wd} (C : Fx Z) (f : EF Z.T) : TE := fun σ H Q => ∃ ow τ t o s', C.Rel ow τ t σ H ∧ ow 0 = none ∧ f (τ, t) = some (o, s') ∧ Fin C ow σ H Q s' o

/-! ### states -/
section
variable {Z : Wd} {C : Fx Z} {ow ow' : Nat → Option Addr} {τ : List Sl} {t : Z.T} {σ : L2.St} {H H' : Hp} {v : V} {r : Res} {d : D}

/-- fewer addresses hidden -/
def drop (ow : Nat → Option Addr) (i : Nat) : Nat → Option Addr := fun j => if j = i then none else ow j
theorem drop_same {ow : Nat → Option Addr} {i : Nat} : drop ow i i = none := if_pos rfl
theorem drop_ne {ow : Nat → Option Addr} {i j : Nat} (h : j ≠ i) : drop ow i j = ow j := if_neg h
theorem drop_some {ow : Nat → Option Addr} {i j : Nat} {a : Addr} (h : drop ow i j = some a) : ow j = some a ∧ j ≠ i := by
  unfold drop at h
  split at h
  · cases h
  · exact ⟨h, by assumption⟩
theorem hid_drop {O₀ : Addr → Prop} {ow : Nat → Option Addr} {i : Nat} {a : Addr} (h : Hid O₀ (drop ow i) a) : Hid O₀ ow a :=
  h.imp id fun ⟨j, e⟩ => ⟨j, (drop_some e).1⟩
theorem ext_drop {O₀ : Addr → Prop} {ow : Nat → Option Addr} {i : Nat} {H : Hp} : Ext (Hid O₀ ow) H (Hid O₀ (drop ow i)) H :=
  ⟨fun _ _ e _ => e, fun _ h => .inl (hid_drop h)⟩

theorem Rel.open_ (R : C.Rel ow τ t σ H) {i : Nat} {a : Addr} (e : ow i = some a) : ¬ C.Hid (drop ow i) a := by
  rintro (h | ⟨j, h⟩)
  · obtain ⟨o, h1, _⟩ := R.hidT a h
    rw [(R.new i a e).1] at h1
    cases h1
  · obtain ⟨h1, h2⟩ := drop_some h
    exact h2 (R.inj j i a h1 e)

/-- slots behind a change of what is hidden -/
theorem SlotOk.ext {Z : Wd} {O O' : Addr → Prop} {H H' : Hp} {ow ow' : Nat → Option Addr} {σ : L2.St} {i : Nat} {s : Sl} (x : Ext O H O' H') (k : ∀ a, ow (i + 1) = some a → ow' (i + 1) = some a ∧ H' a = H a) (h : SlotOk Z O H ow σ i s) :
    SlotOk Z O' H' ow' σ i s := by
  cases s with
  | no => trivial
  | v d =>
    obtain ⟨v, e, h⟩ := h
    exact ⟨v, e, h.ext x⟩
  | o d =>
    obtain ⟨a, o, e1, e2, e3, c⟩ := h
    obtain ⟨k1, k2⟩ := k a e1
    exact ⟨a, o, k1, e2, k2.trans e3, c.ext x⟩

/-- the pending object is let go of: it is a datum like others -/
theorem Rel.release (R : C.Rel ow τ t σ H) : C.Rel (drop ow 0) τ t σ H where
  on := R.on
  hid := R.hid
  hidT := R.hidT
  grow := R.grow
  len := R.len
  slot := fun i s e => (R.slot i s e).ext ext_drop fun a h => ⟨by rw [drop_ne (by omega)]; exact h, rfl⟩
  inj := fun i j a h1 h2 => R.inj i j a (drop_some h1).1 (drop_some h2).1
  new := fun i a h => R.new i a (drop_some h).1

/-- slot i is shared from now on -/
theorem Rel.share {i : Nat} (R : C.Rel ow τ t σ H) (e : τ[i]? = some (.o d)) : C.Rel (drop ow (i + 1)) (τ.set i (.v d)) t σ H where
  on := R.on
  hid := R.hid
  hidT := R.hidT
  grow := R.grow
  len := by rw [List.length_set]; exact R.len
  slot := fun j s h => by
    by_cases q : j = i
    · subst q
      have hl : j < τ.length := (List.getElem?_eq_some_iff.mp e).1
      rw [List.getElem?_set_self hl] at h
      cases h
      obtain ⟨a, o, e1, e2, e3, c⟩ := R.slot j _ e
      exact ⟨.ref a, e2, .ref e3 (R.open_ e1) (c.ext ext_drop)⟩
    · rw [List.getElem?_set_ne (Ne.symm q)] at h
      exact (R.slot j s h).ext ext_drop fun a h => ⟨by rw [drop_ne (by omega)]; exact h, rfl⟩
  inj := fun i j a h1 h2 => R.inj i j a (drop_some h1).1 (drop_some h2).1
  new := fun i a h => R.new i a (drop_some h).1

/-- the heap grows -/
def Grow (H H' : Hp) : Prop := ∀ a o, H a = some o → H' a = some o
theorem Grow.refl {H : Hp} : Grow H H := fun _ _ h => h
theorem Grow.new {H : Hp} {p : Addr} {o : HO} (h : H p = none) : Grow H (upd H p o) := fun a u e => by
  rw [upd_ne (ne_of_none e h)]
  exact e
theorem Grow.trans {H H1 H2 : Hp} (a : Grow H H1) (b : Grow H1 H2) : Grow H H2 := fun x o h => b x o (a x o h)
theorem Grow.ext {O : Addr → Prop} (g : Grow H H') : Ext O H O H' := ⟨fun a o e _ => g a o e, fun _ h => .inl h⟩

theorem Rel.grown (R : C.Rel ow τ t σ H) (g : Grow H H') : C.Rel ow τ t σ H' where
  on := Z.loc t H H' R.on fun a o _ e => g a o e
  hid := R.hid
  hidT := R.hidT
  grow := fun a o e n => g a o (R.grow a o e n)
  len := R.len
  slot := fun i s e => (R.slot i s e).ext g.ext fun a h => ⟨h, by
    obtain ⟨_, o, e, _⟩ := R.new _ a h
    rw [e]
    exact g a o e⟩
  inj := R.inj
  new := fun i a h => by
    obtain ⟨h1, o, e, n⟩ := R.new i a h
    exact ⟨h1, o, g a o e, n⟩

theorem Rel.track (R : C.Rel ow τ t σ H) {a : Addr} (h : C.Hid ow a) : ∃ o, H a = some o ∧ ∀ xs, o ≠ .tup xs := by
  rcases h with h | ⟨i, h⟩
  · by_cases q : Z.hid a
    · exact Z.trk t H a R.on q
    · obtain ⟨o, e, n⟩ := R.hidT a h
      exact ⟨o, R.grow a o e q, n⟩
  · exact (R.new i a h).2
theorem Rel.nohid (R : C.Rel ow τ t σ H) {p : Addr} (h : H p = none) : ¬ C.Hid ow p := fun q => by
  obtain ⟨o, e, _⟩ := R.track q
  rw [h] at e
  cases e

/-- what an operation on data hands back: (d, true) a new object -/
def Gets (Z : Wd) (O : Addr → Prop) (H : Hp) (v : V) (H' : Hp) (z : D × Bool) : Prop :=
  match z.2 with
  | false => Grow H H' ∧ Den Z O H' v z.1
  | true => ∃ p o, v = .ref p ∧ H p = none ∧ H' = upd H p o ∧ Cont Z O H o z.1 ∧ ∀ xs, o ≠ .tup xs
def resOf (z : D × Bool) : Res := if z.2 then .f z.1 else .d z.1
def put (ow : Nat → Option Addr) (i : Nat) (p : Addr) : Nat → Option Addr := fun j => if j = i then some p else ow j
theorem put_same {ow : Nat → Option Addr} {i : Nat} {p : Addr} : put ow i p i = some p := if_pos rfl
theorem put_ne {ow : Nat → Option Addr} {i j : Nat} {p : Addr} (h : j ≠ i) : put ow i p j = ow j := if_neg h
theorem put_some {ow : Nat → Option Addr} {i j : Nat} {p a : Addr} (h : put ow i p j = some a) : (j = i ∧ a = p) ∨ (j ≠ i ∧ ow j = some a) := by
  unfold put at h
  split at h
  · cases h
    exact .inl ⟨by assumption, rfl⟩
  · exact .inr ⟨by assumption, h⟩
theorem hid_put {O₀ : Addr → Prop} {ow : Nat → Option Addr} {i : Nat} {a p : Addr} (h : Hid O₀ (put ow i p) a) : Hid O₀ ow a ∨ a = p := by
  rcases h with h | ⟨j, e⟩
  · exact .inl (.inl h)
  · rcases put_some e with ⟨_, h⟩ | ⟨_, h⟩
    · exact .inr h
    · exact .inl (.inr ⟨j, h⟩)
theorem ext_put {O₀ : Addr → Prop} {ow : Nat → Option Addr} {i : Nat} {H : Hp} {p : Addr} {o : HO} (h : H p = none) : Ext (Hid O₀ ow) H (Hid O₀ (put ow i p)) (upd H p o) :=
  ⟨fun a u e _ => Grow.new h a u e, fun a q => (hid_put q).imp id fun z => by rw [z]; exact h⟩
/-- a new object is laid and pending -/
theorem Rel.pend {p : Addr} {o : HO} (R : C.Rel ow τ t σ H) (h0 : ow 0 = none) (h : H p = none) (hn : ∀ xs, o ≠ .tup xs) : C.Rel (put ow 0 p) τ t σ (upd H p o) where
  on := Z.loc t H _ R.on fun a u _ e => Grow.new h a u e
  hid := R.hid
  hidT := R.hidT
  grow := fun a u e n => Grow.new h a u (R.grow a u e n)
  len := R.len
  slot := fun i s e => (R.slot i s e).ext (ext_put h) fun a q => ⟨by rw [put_ne (by omega)]; exact q, by
    obtain ⟨_, u, e, _⟩ := R.new _ a q
    rw [e]
    exact Grow.new h a u e⟩
  inj := fun i j a h1 h2 => by
    have old : ∀ i a, ow i = some a → a ≠ p := fun i a q z => by
      obtain ⟨_, u, e, _⟩ := R.new i a q
      rw [z, h] at e
      cases e
    rcases put_some h1 with ⟨e1, e2⟩ | ⟨_, e2⟩
    · rcases put_some h2 with ⟨e3, _⟩ | ⟨_, e4⟩
      · rw [e1, e3]
      · exact absurd e2 (old j a e4)
    · rcases put_some h2 with ⟨_, e3⟩ | ⟨_, e4⟩
      · exact absurd e3 (old i a e2)
      · exact R.inj i j a e2 e4
  new := fun i a q => by
    rcases put_some q with ⟨_, e⟩ | ⟨_, e⟩
    · subst e
      refine ⟨?_, o, upd_same, hn⟩
      cases z : C.H a with
      | none => rfl
      | some u =>
        by_cases g : Z.hid a
        · obtain ⟨u', e', _⟩ := Z.trk t H a R.on g
          rw [h] at e'
          cases e'
        · have := R.grow a u z g
          rw [h] at this
          cases this
    · obtain ⟨h1, u, e2, n⟩ := R.new i a e
      exact ⟨h1, u, Grow.new h a u e2, n⟩
theorem Rel.gets {H' : Hp} {v : V} {z : D × Bool} (R : C.Rel ow τ t σ H) (h0 : ow 0 = none) (g : Gets Z (C.Hid ow) H v H' z) :
    ∃ ow', C.Rel ow' τ t σ H' ∧ ResOk C ow' τ σ H' v (resOf z) ∧ Ext (C.Hid ow) H (C.Hid ow') H' := by
  obtain ⟨d, fr⟩ := z
  cases fr with
  | false => exact ⟨ow, R.grown g.1, ⟨h0, g.2⟩, g.1.ext⟩
  | true =>
    obtain ⟨p, o, rfl, h, rfl, c, n⟩ := g
    exact ⟨put ow 0 p, R.pend h0 h n, ⟨p, o, put_same, rfl, upd_same, c.ext (ext_put h)⟩, ext_put h⟩

/-! ### results used -/
/-- what a result holds, without sharing it -/
def peek (τ : List Sl) : Res → Option D
  | .d d => some d
  | .f d => some d
  | .s i => match τ[i]? with
    | some (.v d) => some d
    | some (.o d) => some d
    | _ => none
/-- a result as a datum for others -/
def give (τ : List Sl) : Res → Option (D × List Sl)
  | .d d => some (d, τ)
  | .f d => some (d, τ)
  | .s i => match τ[i]? with
    | some (.v d) => some (d, τ)
    | some (.o d) => some (d, τ.set i (.v d))
    | _ => none
/-- a result that waits while another expression runs -/
def hold : Res → Res
  | .f d => .d d
  | r => r
/-- a value shows a datum: it may be one's own -/
inductive Shows (Z : Wd) (O : Addr → Prop) (H : Hp) : V → D → Prop
  | den {v : V} {d : D} : Den Z O H v d → Shows Z O H v d
  | own {a : Addr} {o : HO} {d : D} : H a = some o → (∀ xs, o ≠ .tup xs) → Cont Z O H o d → Shows Z O H (.ref a) d
theorem ResOk.peek {d : D} (R : C.Rel ow τ t σ H) (h : ResOk C ow τ σ H v r) (e : FD.peek τ r = some d) : Shows Z (C.Hid ow) H v d := by
  cases r with
  | d _ =>
    cases e
    exact .den h.2
  | f _ =>
    cases e
    obtain ⟨a, o, h1, rfl, h3, c⟩ := h
    obtain ⟨_, u, e1, n⟩ := R.new _ a h1
    rw [h3] at e1
    cases e1
    exact .own h3 n c
  | s i =>
    obtain ⟨_, h2⟩ := h
    simp only [FD.peek] at e
    cases h3 : τ[i]? with
    | none => rw [h3] at e; cases e
    | some s =>
      have q := R.slot i s h3
      rw [h3] at e
      cases s with
      | no => cases e
      | v _ =>
        cases e
        obtain ⟨v', e1, q⟩ := q
        rw [h2] at e1
        cases e1
        exact .den q
      | o _ =>
        cases e
        obtain ⟨a, o, e1, e2, e3, c⟩ := q
        rw [h2] at e2
        cases e2
        obtain ⟨_, u, e4, n⟩ := R.new _ a e1
        rw [e3] at e4
        cases e4
        exact .own e3 n c
theorem ResOk.hold (R : C.Rel ow τ t σ H) (h : ResOk C ow τ σ H v r) : ∃ ow', C.Rel ow' τ t σ H ∧ ow' 0 = none ∧ ResOk C ow' τ σ H v (FD.hold r) ∧ Ext (C.Hid ow) H (C.Hid ow') H := by
  cases r with
  | d _ => exact ⟨ow, R, h.1, h, .refl⟩
  | s _ => exact ⟨ow, R, h.1, h, .refl⟩
  | f _ =>
    obtain ⟨a, o, h1, rfl, h3, c⟩ := h
    exact ⟨drop ow 0, R.release, drop_same, ⟨drop_same, .ref h3 (R.open_ h1) (c.ext ext_drop)⟩, ext_drop⟩
/-- what was held, later -/
theorem ResOk.later {ow' : Nat → Option Addr} {τ' : List Sl} {t' : Z.T} {H' : Hp} (R' : C.Rel ow' τ' t' σ H') (h : ResOk C ow τ σ H v (FD.hold r)) (x : Ext (C.Hid ow) H (C.Hid ow') H') {d : D} (e : FD.peek τ' (FD.hold r) = some d) :
    Shows Z (C.Hid ow') H' v d := by
  cases r with
  | d _ =>
    cases e
    exact .den (h.2.ext x)
  | f _ =>
    cases e
    exact .den (h.2.ext x)
  | s i =>
    obtain ⟨_, h2⟩ := h
    simp only [FD.hold, FD.peek] at e
    cases h3 : τ'[i]? with
    | none => rw [h3] at e; cases e
    | some s =>
      have q := R'.slot i s h3
      rw [h3] at e
      cases s with
      | no => cases e
      | v _ =>
        cases e
        obtain ⟨v', e1, q⟩ := q
        rw [h2] at e1
        cases e1
        exact .den q
      | o _ =>
        cases e
        obtain ⟨a, o, e1, e2, e3, c⟩ := q
        rw [h2] at e2
        cases e2
        obtain ⟨_, u, e4, n⟩ := R'.new _ a e1
        rw [e3] at e4
        cases e4
        exact .own e3 n c
theorem ResOk.give {d : D} {τ' : List Sl} (R : C.Rel ow τ t σ H) (h : ResOk C ow τ σ H v r) (e : FD.give τ r = some (d, τ')) :
    ∃ ow', C.Rel ow' τ' t σ H ∧ ow' 0 = none ∧ Den Z (C.Hid ow') H v d ∧ Ext (C.Hid ow) H (C.Hid ow') H := by
  cases r with
  | d _ =>
    cases e
    exact ⟨ow, R, h.1, h.2, .refl⟩
  | f _ =>
    cases e
    obtain ⟨a, o, h1, rfl, h3, c⟩ := h
    exact ⟨drop ow 0, R.release, drop_same, .ref h3 (R.open_ h1) (c.ext ext_drop), ext_drop⟩
  | s i =>
    obtain ⟨h1, h2⟩ := h
    simp only [FD.give] at e
    cases h3 : τ[i]? with
    | none => rw [h3] at e; cases e
    | some s =>
      have q := R.slot i s h3
      rw [h3] at e
      cases s with
      | no => cases e
      | v _ =>
        cases e
        obtain ⟨v', e1, q⟩ := q
        rw [h2] at e1
        cases e1
        exact ⟨ow, R, h1, q, .refl⟩
      | o _ =>
        cases e
        obtain ⟨a, o, e1, e2, e3, c⟩ := q
        rw [h2] at e2
        cases e2
        exact ⟨drop ow (i + 1), R.share h3, by rw [drop_ne (by omega)]; exact h1, .ref e3 (R.open_ e1) (c.ext ext_drop), ext_drop⟩
end
end FD

/-! F2: names, constants, operators, comparisons, tests. -/
namespace FD
open PySem PySem.Spec PyProof.Rows L2

/-- what is left to run, from where one stands -/
def Kn {Z : Wd} (C : Fx Z) (f : EF Z.T) (ow : Nat → Option Addr) (τ : List Sl) (t : Z.T) (σ : L2.St) (H : Hp) (Q : VK) : Prop := ∃ o s', f (τ, t) = some (o, s') ∧ Fin C ow σ H Q s' o

def bindF {T : Type} (f : EF T) (k : Res → EF T) : EF T := fun s => match f s with
  | none => none
  | some (.ex c fs, s1) => some (.ex c fs, s1)
  | some (.ok r, s1) => k r s1
/-- an operation on what the results hold -/
def doneF {T : Type} (g : List Sl → Option (D × Bool)) : EF T := fun s => match g s.1 with
  | none => none
  | some z => some (.ok (resOf z), s)

section
variable {Z : Wd} {C : Fx Z} {ow ow' : Nat → Option Addr} {τ : List Sl} {t : Z.T} {σ : L2.St} {H H' : Hp} {Q : VK} {f : EF Z.T} {k : Res → EF Z.T}
theorem Fin.from (x : Ext (C.Hid ow) H (C.Hid ow') H') {s' : Sg Z.T} {o : Out} (h : Fin C ow σ H Q s' o) : Fin C ow' σ H' Q s' o := by
  cases o with
  | ok r => exact fun ow2 v H2 R2 r2 x2 => h ow2 v H2 R2 r2 (x.trans x2)
  | ex c fs => exact fun ow2 d H2 R2 z x2 e => h ow2 d H2 R2 z (x.trans x2) e
theorem Kn.from (x : Ext (C.Hid ow) H (C.Hid ow') H') (h : Kn C f ow τ t σ H Q) : Kn C f ow' τ t σ H' Q := by
  obtain ⟨o, s', e, h⟩ := h
  exact ⟨o, s', e, h.from x⟩
theorem tF.at_ (h : tF C f σ H Q) : ∃ ow τ t, C.Rel ow τ t σ H ∧ ow 0 = none ∧ Kn C f ow τ t σ H Q := by
  obtain ⟨ow, τ, t, o, s', R, h0, e, h⟩ := h
  exact ⟨ow, τ, t, R, h0, o, s', e, h⟩
theorem tF_mono {Q' : VK} (h : tF C f σ H Q) (k : ∀ v H, Q v H → Q' v H) : tF C f σ H Q' := by
  obtain ⟨ow, τ, t, o, s', R, h0, e, h⟩ := h
  refine ⟨ow, τ, t, o, s', R, h0, e, ?_⟩
  cases o with
  | ok r => exact fun ow' v H' R' r' x => k v H' (h ow' v H' R' r' x)
  | ex c fs => exact h
theorem Kn.tF (h : Kn C f ow τ t σ H Q) (R : C.Rel ow τ t σ H) (h0 : ow 0 = none) : FD.tF C f σ H Q := by
  obtain ⟨o, s', e, h⟩ := h
  exact ⟨ow, τ, t, o, s', R, h0, e, h⟩
/-- behind the first of two -/
def Behind {Z : Wd} (C : Fx Z) (k : Res → EF Z.T) (ow : Nat → Option Addr) (σ : L2.St) (H : Hp) (Q : VK) (v : V) (H1 : Hp) : Prop :=
  ∃ ow1 τ1 t1 r, C.Rel ow1 τ1 t1 σ H1 ∧ ResOk C ow1 τ1 σ H1 v r ∧ Kn C (k r) ow1 τ1 t1 σ H1 Q ∧ Ext (C.Hid ow) H (C.Hid ow1) H1
theorem Kn.bind (h : Kn C (bindF f k) ow τ t σ H Q) (R : C.Rel ow τ t σ H) (h0 : ow 0 = none) : FD.tF C f σ H (Behind C k ow σ H Q) := by
  obtain ⟨o, s', e, h⟩ := h
  unfold bindF at e
  cases q : f (τ, t) with
  | none => rw [q] at e; cases e
  | some z =>
    obtain ⟨o1, s1⟩ := z
    rw [q] at e
    cases o1 with
    | ex c fs =>
      cases e
      exact ⟨ow, τ, t, _, _, R, h0, q, h⟩
    | ok r => exact ⟨ow, τ, t, _, _, R, h0, q, fun ow1 v H1 R1 r1 x1 => ⟨ow1, s1.1, s1.2, r, R1, r1, ⟨o, s', e, h.from x1⟩, x1⟩⟩
theorem Kn.done {g : List Sl → Option (D × Bool)} (h : Kn C (doneF g) ow τ t σ H Q) (R : C.Rel ow τ t σ H) (h0 : ow 0 = none) : ∃ z, g τ = some z ∧ ∀ v H', Gets Z (C.Hid ow) H v H' z → Q v H' := by
  obtain ⟨o, s', e, h⟩ := h
  unfold doneF at e
  cases q : g τ with
  | none => simp only [q] at e; cases e
  | some z =>
    simp only [q] at e
    cases e
    refine ⟨z, rfl, fun v H' g => ?_⟩
    obtain ⟨ow', R', r', x⟩ := R.gets h0 g
    exact h ow' v H' R' r' x
end

/-- an operation of two data -/
def rD2 (Z : Wd) (op : D → D → Option (D × Bool)) : R2 := fun x y H Q => ∃ O dx dy z, (∀ p, H p = none → ¬ O p) ∧ Shows Z O H x dx ∧ Shows Z O H y dy ∧ op dx dy = some z ∧ ∀ v H', Gets Z O H v H' z → Q v H'
def OpD (Z : Wd) (X : Cx) (f : Value → Value → Sem Value) (op : D → D → Option (D × Bool)) : Prop := OpR X f (rD2 Z op)
def binF {T : Type} (op : D → D → Option (D × Bool)) (fa fb : EF T) : EF T := bindF fa fun ra => bindF fb fun rb => doneF fun τ => match peek τ (hold ra), peek τ (hold rb) with
  | some x, some y => op x y
  | _, _ => none

section
variable {Z : Wd} {C : Fx Z} {X : Cx} {a b e : Expr} {fa fb fc : EF Z.T} {pos : Pos}
theorem tOp_of {op : D → D → Option (D × Bool)} {σ : L2.St} {H : Hp} {Q : VK} (h : tF C (binF op fa fb) σ H Q) : tOp (rD2 Z op) (tF C fa) (tF C fb) σ H Q := by
  obtain ⟨ow, τ, t, R, h0, h⟩ := h.at_
  refine tF_mono (h.bind R h0) fun x H1 ⟨ow1, τ1, t1, ra, R1, r1, h1, _⟩ => ?_
  obtain ⟨ow1', R1', z1, r1', x1⟩ := r1.hold R1
  refine tF_mono ((h1.from x1).bind R1' z1) fun y H2 ⟨ow2, τ2, t2, rb, R2, r2, h2, x2⟩ => ?_
  obtain ⟨ow3, R3, z3, r3, x3⟩ := r2.hold R2
  obtain ⟨z, e, q⟩ := (h2.from x3).done R3 z3
  cases pa : peek τ2 (hold ra) with
  | none => simp only [pa] at e; cases e
  | some dx =>
    cases pb : peek τ2 (hold rb) with
    | none => simp only [pa, pb] at e; cases e
    | some dy =>
      simp only [pa, pb] at e
      exact ⟨_, dx, dy, z, fun p hp => R3.nohid hp, r1'.later R3 (x2.trans x3) pa, r3.peek R3 pb, e, q⟩
theorem ev_bin {op : Operator} {g : D → D → Option (D × Bool)} (ho : OpD Z X (binaryOp op) g) (ha : PE X a (tF C fa)) (hb : PE X b (tF C fb)) : PE X (.BinOp a op b pos) (tF C (binF g fa fb)) :=
  ⟨fun pins s σ H Q I h => (pe_op ho ha hb).run pins s σ H Q I (tOp_of h)⟩
theorem ev_cmp {op : CmpOp} {g : D → D → Option (D × Bool)} (ho : OpD Z X (compareOp op) g) (ha : PE X a (tF C fa)) (hb : PE X b (tF C fb)) (hm : behindInMarks op b = false) : PE X (.Compare a [op] [b] pos) (tF C (binF g fa fb)) :=
  ⟨fun pins s σ H Q I h => (pe_cmpR ho ha hb hm).run pins s σ H Q I (tOp_of h)⟩

/-! ### names, constants -/
def varF {T : Type} (i : Nat) : EF T := fun s => match s.1[i]? with
  | some (.v _) => some (.ok (.s i), s)
  | some (.o _) => some (.ok (.s i), s)
  | _ => none
def conF {T : Type} (d : D) : EF T := fun s => some (.ok (.d d), s)
theorem ev_var {i : Nat} (he : PE X e (tVar i)) : PE X e (tF C (varF i)) := ⟨fun pins s σ H Q I h => he.run pins s σ H Q I (by
  obtain ⟨ow, τ, t, o, s', R, h0, e, h⟩ := h
  unfold varF at e
  cases q : τ[i]? with
  | none => simp only [q] at e; cases e
  | some sl =>
    have ok := R.slot i sl q
    cases sl with
    | no => simp only [q] at e; cases e
    | v d =>
      simp only [q] at e
      cases e
      obtain ⟨v, e1, _⟩ := ok
      exact ⟨v, e1, h ow v H R ⟨h0, e1⟩ .refl⟩
    | o d =>
      simp only [q] at e
      cases e
      obtain ⟨a, u, _, e1, _⟩ := ok
      exact ⟨.ref a, e1, h ow _ H R ⟨h0, e1⟩ .refl⟩)⟩
/-- a constant: flat data alone -/
theorem ev_con {v : V} {d : D} (he : PE X e (tC v)) (hd : ∀ O H, Den Z O H v d) : PE X e (tF C (conF d)) := ⟨fun pins s σ H Q I h => he.run pins s σ H Q I (by
  obtain ⟨ow, τ, t, o, s', R, h0, e, h⟩ := h
  cases e
  exact h ow v H R ⟨h0, hd _ _⟩ .refl)⟩
theorem ev_int {i : Int} {j : Nat} : PE X (.Constant (.int i) j pos) (tF C (conF (.int i))) := ev_con pe_int fun _ _ => .int i
theorem ev_bl {i : Bool} {j : Nat} : PE X (.Constant (.bool i) j pos) (tF C (conF (.bl i))) := ev_con pe_bl fun _ _ => .bl i
theorem ev_non {j : Nat} : PE X (.Constant .none j pos) (tF C (conF .non)) := ev_con pe_non fun _ _ => .non
theorem ev_str {i : Str} {j : Nat} : PE X (.Constant (.str i) j pos) (tF C (conF (.str i))) := ev_con pe_str fun _ _ => .str i

/-! ### one operand -/
def rD1 (Z : Wd) (op : D → Option (D × Bool)) : V → Hp → VK → Prop := fun x H Q => ∃ O dx z, (∀ p, H p = none → ¬ O p) ∧ Shows Z O H x dx ∧ op dx = some z ∧ ∀ v H', Gets Z O H v H' z → Q v H'
def UnD (Z : Wd) (X : Cx) (f : Value → Sem Value) (op : D → Option (D × Bool)) : Prop := UnR X f (rD1 Z op)
def unF {T : Type} (op : D → Option (D × Bool)) (fa : EF T) : EF T := bindF fa fun ra => doneF fun τ => match peek τ (hold ra) with
  | some x => op x
  | none => none
theorem tUn_of {op : D → Option (D × Bool)} {σ : L2.St} {H : Hp} {Q : VK} (h : tF C (unF op fa) σ H Q) : tUn (rD1 Z op) (tF C fa) σ H Q := by
  obtain ⟨ow, τ, t, R, h0, h⟩ := h.at_
  refine tF_mono (h.bind R h0) fun x H1 ⟨ow1, τ1, t1, ra, R1, r1, h1, _⟩ => ?_
  obtain ⟨ow1', R1', z1, r1', x1⟩ := r1.hold R1
  obtain ⟨z, e, q⟩ := (h1.from x1).done R1' z1
  cases pa : peek τ1 (hold ra) with
  | none => simp only [pa] at e; cases e
  | some dx =>
    simp only [pa] at e
    exact ⟨_, dx, z, fun p hp => R1'.nohid hp, r1'.peek R1' pa, e, q⟩
theorem ev_un {op : UnaryOp} {g : D → Option (D × Bool)} (ho : UnD Z X (unaryOp op) g) (ha : PE X a (tF C fa)) : PE X (.UnaryOp op a pos) (tF C (unF g fa)) :=
  ⟨fun pins s σ H Q I h => (pe_un ho ha).run pins s σ H Q I (tUn_of h)⟩
end
end FD

set_option maxHeartbeats 1000000
/-! F2b: a tuple, once or not at all. -/
namespace FD
open PySem PySem.Spec PyProof.Rows L2
theorem mulT1 (l : Addr) (items : Array Value) (n : Nat) (dd : Option Addr) (sl : Array (Option Value)) (x : Int) (u : Tok) (c0 : (decide (x < -(2 ^ 63)) || decide (x ≥ 2 ^ 63)) = false) (c1 : (items.isEmpty || x == 1) = true) :
    Meets (Builtin.«tuple.__mul__» ⟨[.ref l, .int x u], []⟩) (fun _ R s => s.heap.get? l = some { cls := .type "tuple", dict := dd, data := .seq items n, slots := sl } ∧ R (.ok (.ret (.ref l))) s) :=
  .of_wp fun prog w A R s h => by
    obtain ⟨hp, g, d, tk, os⟩ := s
    obtain ⟨hl, h⟩ := h
    have f1 := AutoSeq1.idx_int
    wp_walk using wpAny_loadPart' hl
    refine wpAny_ite_false (decide_eq_false (by rw [c0]; exact Bool.false_ne_true)) ?_
    wp_walk using wpAny_loadPart' hl
    exact ⟨_, rfl, h⟩
theorem mulT0 (l : Addr) (items : Array Value) (n : Nat) (dd : Option Addr) (sl : Array (Option Value)) (x : Int) (u : Tok) (c0 : (decide (x < -(2 ^ 63)) || decide (x ≥ 2 ^ 63)) = false) (c1 : (items.isEmpty || x == 1) = false) (c2 : (decide (x ≤ 0) || items.isEmpty) = true) :
    Meets (Builtin.«tuple.__mul__» ⟨[.ref l, .int x u], []⟩) (fun _ R s => s.heap.get? l = some { cls := .type "tuple", dict := dd, data := .seq items n, slots := sl } ∧
      R (.ok (.ret (Value.ref s.heap.objs.size))) { s with heap := s.heap.push { cls := Value.type "tuple", data := Data.seq #[] }, toks := s.toks }) :=
  .of_wp fun prog w A R s h => by
    obtain ⟨hp, g, d, tk, os⟩ := s
    obtain ⟨hl, h⟩ := h
    have f1 := AutoSeq1.idx_int
    wp_walk using wpAny_loadPart' hl
    refine wpAny_ite_false (decide_eq_false (by rw [c0]; exact Bool.false_ne_true)) ?_
    wp_walk using wpAny_loadPart' hl
    repeat (first
      | (refine wpAny_ite_false (decide_eq_false (by rw [c1]; exact Bool.false_ne_true)) ?_; wp_walk using wpAny_loadPart' hl)
      | (refine wpAny_ite_true (decide_eq_true (by rw [c2])) ?_; wp_walk using wpAny_loadPart' hl))
    exact ⟨_, rfl, h⟩
def rRep1 (K : PySem.W.Frag) : R2 := fun x y H Q => ∃ l xs, x = .ref l ∧ y = .int 1 ∧ SqT K H l xs ∧ Q (.ref l) H
def rRep0 (K : PySem.W.Frag) : R2 := fun x y H Q => ∃ l k xs, x = .ref l ∧ y = .int k ∧ SqT K H l xs ∧ xs ≠ [] ∧ -1000 ≤ k ∧ k ≤ 0 ∧ ∀ p, H p = none → Q (.ref p) (upd H p (.tup []))
section
variable {X : Cx}
theorem op_rep1 : OpR X (binaryOp .Mult) (rRep1 X.K) := by
  intro pins s σ H x y v u Q I rx ry h
  obtain ⟨l, xs, rfl, rfl, hT, q⟩ := h
  cases rx
  obtain ⟨t, rfl⟩ := ry
  obtain ⟨its, r, ⟨⟨cls, dd, data, sl⟩, ho, hc, n, hd⟩, _⟩ := I.tuple hT
  simp only at hc hd
  subst hc hd
  exact wpAny_binaryOp_repeat_ref (T := "tuple") (U := "int") (by decide) ⟨_, ho, rfl⟩ (fun s' => typeIs_int s' 1 t) noFill_tuple_mul F.fills_int_mul F.slot_int_rmul repeat_tuple F.slot_int_index.lookup
    (call_meets F.slot_int_rmul (typeIs_int s 1 t) F.entry_int_rmul (F.args_int_rmul_2 _ _) (int_rmul_tuple 1 t l its.toArray n dd sl)
      ⟨ho, rfl, ⟨_, ho, rfl⟩, call_meets F.slot_tuple_mul ⟨_, ho, rfl⟩ F.entry_tuple_mul (F.args_tuple_mul_2 _ _) (mulT1 l its.toArray n dd sl 1 t (by decide) (by simp)) ⟨ho, .ref l, H, I, rfl, q⟩⟩)
theorem op_rep0 : OpR X (binaryOp .Mult) (rRep0 X.K) := by
  intro pins s σ H x y v u Q I rx ry h
  obtain ⟨l, k, xs, rfl, rfl, hT, hne, h1, h2, q⟩ := h
  cases rx
  obtain ⟨t, rfl⟩ := ry
  obtain ⟨its, r, ⟨⟨cls, dd, data, sl⟩, ho, hc, n, hd⟩, _⟩ := I.tuple hT
  simp only at hc hd
  subst hc hd
  have hi : its.toArray.isEmpty = false := by
    cases its with
    | nil => exact absurd (List.eq_nil_of_length_eq_zero (r.length.trans rfl)) hne
    | cons a b => rfl
  have c0 : (decide (k < -(2 ^ 63)) || decide (k ≥ 2 ^ 63)) = false := by
    rw [decide_eq_false (by omega), decide_eq_false (by omega)] <;> rfl
  have c1 : (its.toArray.isEmpty || k == 1) = false := by
    rw [hi, Bool.false_or]
    exact beq_eq_false_iff_ne.mpr (by omega)
  have c2 : (decide (k ≤ 0) || its.toArray.isEmpty) = true := by
    rw [hi, Bool.or_false]
    exact decide_eq_true h2
  refine wpAny_binaryOp_repeat_ref (T := "tuple") (U := "int") (by decide) ⟨_, ho, rfl⟩ (fun s' => typeIs_int s' k t) noFill_tuple_mul F.fills_int_mul F.slot_int_rmul repeat_tuple F.slot_int_index.lookup
    (call_meets F.slot_int_rmul (typeIs_int s k t) F.entry_int_rmul (F.args_int_rmul_2 _ _) (int_rmul_tuple k t l its.toArray n dd sl)
      ⟨ho, rfl, ⟨_, ho, rfl⟩, call_meets F.slot_tuple_mul ⟨_, ho, rfl⟩ F.entry_tuple_mul (F.args_tuple_mul_2 _ _) (mulT0 l its.toArray n dd sl k t c0 c1 c2) ⟨ho, ?_⟩⟩)
  refine ⟨.ref s.heap.objs.size, _, I.laid (t' := s.toks) (o := .tup []) (fun b ob q => Heap.get?_push_of_some _ q) (Nat.le_refl _) ?_, rfl, q _ (I.hok.fresh (Nat.le_refl _))⟩
  exact ⟨Nat.zero_le _, [], .nil, IsTup.new _ _⟩
end
end FD

/-! F3: the operators on data. -/
namespace FD
open PySem PySem.Spec PyProof.Rows L2

section
variable {Z : Wd} {O : Addr → Prop} {H : Hp} {v : V}
theorem Shows.int {i : Int} (h : Shows Z O H v (.int i)) : v = .int i := by
  cases h with
  | den h => cases h with
    | int => rfl
    | ref e n c => cases c
  | own e n c => cases c
theorem Shows.bl {i : Bool} (h : Shows Z O H v (.bl i)) : v = .bl i := by
  cases h with
  | den h => cases h with
    | bl => rfl
    | ref e n c => cases c
  | own e n c => cases c
theorem Shows.str {i : Str} (h : Shows Z O H v (.str i)) : v = .str i := by
  cases h with
  | den h => cases h with
    | str => rfl
    | ref e n c => cases c
  | own e n c => cases c
theorem Shows.non (h : Shows Z O H v .non) : v = .non := by
  cases h with
  | den h => cases h with
    | non => rfl
    | ref e n c => cases c
  | own e n c => cases c
theorem Shows.ty {n : String} (h : Shows Z O H v (.ty n)) : v = .ty n := by
  cases h with
  | den h => cases h with
    | ty => rfl
    | ref e n c => cases c
  | own e n c => cases c
theorem Shows.lst {ds : List D} (h : Shows Z O H v (.lst ds)) : ∃ a xs, v = .ref a ∧ H a = some (.lst xs) ∧ DenA Z O H xs ds := by
  cases h with
  | den h => cases h with
    | ref e n c => cases c with
      | lst c => exact ⟨_, _, rfl, e, c⟩
  | own e n c => cases c with
    | lst c => exact ⟨_, _, rfl, e, c⟩
theorem Shows.tup {ds : List D} (h : Shows Z O H v (.tup ds)) : ∃ a xs, v = .ref a ∧ H a = some (.tup xs) ∧ DenA Z O H xs ds ∧ ¬ O a := by
  cases h with
  | den h => cases h with
    | ref e n c => cases c with
      | tup c => exact ⟨_, _, rfl, e, c, n⟩
  | own e n c => cases c with
    | tup c => exact absurd rfl (n _)
theorem Shows.obj {k : Str} {fs : List (Str × D)} (h : Shows Z O H v (.obj k fs)) : ∃ a dx xs, v = .ref a ∧ H a = some (.ins (Z.ca k) dx xs) ∧ DenF Z O H xs fs := by
  cases h with
  | den h => cases h with
    | ref e n c => cases c with
      | obj c => exact ⟨_, _, _, rfl, e, c⟩
  | own e n c => cases c with
    | obj c => exact ⟨_, _, _, rfl, e, c⟩
theorem Shows.dct {fs : List (Key × D)} (h : Shows Z O H v (.dct fs)) : ∃ a xs, v = .ref a ∧ H a = some (.dK xs) ∧ DenK Z O H xs fs := by
  cases h with
  | den h => cases h with
    | ref e n c => cases c with
      | dct c => exact ⟨_, _, rfl, e, c⟩
  | own e n c => cases c with
    | dct c => exact ⟨_, _, rfl, e, c⟩
theorem DenA.ints : ∀ {vs : List V} {ns : List Int}, DenA Z O H vs (ns.map D.int) → vs = ns.map V.int
  | _, [], .nil => rfl
  | _, n :: r, .cons h k => by
    rw [(Shows.den h).int, DenA.ints k]
    rfl
/-- new objects -/
theorem Gets.lst {p : Addr} {xs : List V} {ds : List D} (hp : H p = none) (h : DenA Z O H xs ds) : Gets Z O H (.ref p) (upd H p (.lst xs)) (.lst ds, true) :=
  ⟨p, _, rfl, hp, rfl, .lst h, fun _ z => by cases z⟩
theorem Gets.tup {p : Addr} {xs : List V} {ds : List D} (hO : ∀ p, H p = none → ¬ O p) (hp : H p = none) (h : DenA Z O H xs ds) : Gets Z O H (.ref p) (upd H p (.tup xs)) (.tup ds, false) :=
  ⟨Grow.new hp, .ref upd_same (hO p hp) (.tup (h.mono fun a o e n => ⟨Grow.new hp a o e, n⟩))⟩
theorem Gets.same {d : D} (h : Den Z O H v d) : Gets Z O H v H (d, false) := ⟨Grow.refl, h⟩
end

/-! ### equality -/
mutual
def okD : Nat → D → Bool
  | _, .non | _, .bl _ | _, .int _ => true
  | _, .str x => PyData.canLay0 (.str x)
  | n + 1, .tup ds => okAll n ds
  | n + 1, .lst ds => okAll n ds
  | _, _ => false
def okAll : Nat → List D → Bool
  | _, [] => true
  | n, d :: ds => okD n d && okAll n ds
end
mutual
def py : D → PyData
  | .non => .none
  | .bl b => .bool b
  | .int i => .int i
  | .str x => .str x
  | .tup ds => .tuple (pys ds)
  | .lst ds => .list (pys ds)
  | _ => .none
def pys : List D → List PyData
  | [] => []
  | d :: ds => py d :: pys ds
end
mutual
theorem okD_lay : ∀ (n : Nat) (d : D), okD n d = true → (py d).canLay0 = true
  | _, .non, _ => by simp [py, PyData.canLay0]
  | _, .bl _, _ => by simp [py, PyData.canLay0]
  | _, .int _, _ => by simp [py, PyData.canLay0]
  | n, .str x, h => by cases n <;> simpa [okD, py] using h
  | 0, .tup _, h => by simp [okD] at h
  | 0, .lst _, h => by simp [okD] at h
  | n + 1, .tup ds, h => by
    simp only [py, PyData.canLay0]
    exact okAll_lay n ds (by simpa [okD] using h)
  | n + 1, .lst ds, h => by
    simp only [py, PyData.canLay0]
    exact okAll_lay n ds (by simpa [okD] using h)
  | n, .dct _, h => by cases n <;> simp [okD] at h
  | n, .obj _ _, h => by cases n <;> simp [okD] at h
  | n, .ty _, h => by cases n <;> simp [okD] at h
  | n, .hnd _, h => by cases n <;> simp [okD] at h
theorem okAll_lay : ∀ (n : Nat) (d : List D), okAll n d = true → PyData.canLayAll0 (pys d) = true
  | _, [], _ => by simp [pys, PyData.canLayAll0]
  | n, d :: ds, h => by
    simp only [okAll, Bool.and_eq_true] at h
    simp only [pys, PyData.canLayAll0, okD_lay n d h.1, okAll_lay n ds h.2, Bool.and_self]
end
mutual
theorem okD_depth : ∀ (n : Nat) (d : D), okD n d = true → (py d).depth ≤ n
  | _, .non, _ => by simp [py, PyData.depth]
  | _, .bl _, _ => by simp [py, PyData.depth]
  | _, .int _, _ => by simp [py, PyData.depth]
  | n, .str x, h => by simp [py, PyData.depth]
  | 0, .tup _, h => by simp [okD] at h
  | 0, .lst _, h => by simp [okD] at h
  | n + 1, .tup ds, h => by
    simp only [py, PyData.depth]
    have := okAll_depth n ds (by simpa [okD] using h)
    omega
  | n + 1, .lst ds, h => by
    simp only [py, PyData.depth]
    have := okAll_depth n ds (by simpa [okD] using h)
    omega
  | n, .dct _, h => by cases n <;> simp [okD] at h
  | n, .obj _ _, h => by cases n <;> simp [okD] at h
  | n, .ty _, h => by cases n <;> simp [okD] at h
  | n, .hnd _, h => by cases n <;> simp [okD] at h
theorem okAll_depth : ∀ (n : Nat) (d : List D), okAll n d = true → PyData.depthAll (pys d) ≤ n
  | _, [], _ => by simp [pys, PyData.depthAll]
  | n, d :: ds, h => by
    simp only [okAll, Bool.and_eq_true] at h
    have h1 := okD_depth n d h.1
    have h2 := okAll_depth n ds h.2
    simp only [pys, PyData.depthAll]
    omega
end
theorem okD_shaped {d : D} (h : okD 64 d = true) : SeqAt.shaped (py d) = true := by
  unfold SeqAt.shaped
  rw [okD_lay 64 d h, Bool.true_and]
  exact decide_eq_true (okD_depth 64 d h)
section
variable {Z : Wd} {O : Addr → Prop} {H : Hp}
mutual
theorem Den.dp {K : PySem.W.Frag} : ∀ {n : Nat} {v : V} {d : D}, okD n d = true → Den Z O H v d → Dp K H v (py d)
  | _, _, _, _, .non => .non
  | _, _, _, _, .bl b => .bl b
  | _, _, _, _, .int i => .int i
  | _, _, _, _, .str x => .str x
  | n, .ty _, .ty _, h, .ty _ => by cases n <;> simp [okD] at h
  | n, _, .hnd _, h, .hnd _ => by cases n <;> simp [okD] at h
  | n, _, _, h, .ref e m c => Cont.dp h e c
theorem Cont.dp {K : PySem.W.Frag} : ∀ {n : Nat} {a : Addr} {o : HO} {d : D}, okD n d = true → H a = some o → Cont Z O H o d → Dp K H (.ref a) (py d)
  | 0, _, _, _, h, e, .tup c => by simp [okD] at h
  | 0, _, _, _, h, e, .lst c => by simp [okD] at h
  | n + 1, _, _, .tup ds, h, e, .tup c => .tup (SqT.of e) (DenA.dp (n := n) (by simpa [okD] using h) c)
  | n + 1, _, _, .lst ds, h, e, .lst c => .lst (SqL.of e) (DenA.dp (n := n) (by simpa [okD] using h) c)
  | n, _, _, .dct _, h, e, .dct c => by cases n <;> simp [okD] at h
  | n, _, _, .obj _ _, h, e, .obj c => by cases n <;> simp [okD] at h
theorem DenA.dp {K : PySem.W.Frag} : ∀ {n : Nat} {vs : List V} {ds : List D}, okAll n ds = true → DenA Z O H vs ds → DpAll K H vs (pys ds)
  | _, _, _, _, .nil => .nil
  | n, _, d :: ds, h, .cons q r => by
    simp only [okAll, Bool.and_eq_true] at h
    exact .cons (Den.dp h.1 q) (DenA.dp h.2 r)
end
theorem Shows.dp {K : PySem.W.Frag} {v : V} {d : D} (h : okD 64 d = true) (s : Shows Z O H v d) : Dp K H v (py d) := by
  cases s with
  | den s => exact s.dp h
  | own e _ c => exact c.dp h e
end

abbrev LEN : Nat := 100000
theorem len_line {n : Nat} (h : n ≤ LEN) : n ≤ sizeLine := Nat.le_trans h (by decide)
/-- numbers that may be multiplied -/
def Fair (i : Int) : Prop := i.natAbs < 2 ^ 8000
instance (i : Int) : Decidable (Fair i) := inferInstanceAs (Decidable (_ < _))

def addD : D → D → Option (D × Bool)
  | .int i, .int j => some (.int (i + j), false)
  | .int i, .bl j => some (.int (i + b2i j), false)
  | .str x, .str y => if x.length + y.length ≤ LEN then some (.str (x ++ y), false) else none
  | .lst x, .lst y => if x.length + y.length ≤ LEN then some (.lst (x ++ y), true) else none
  | .tup x, .tup y => if x.length + y.length ≤ LEN then some (.tup (x ++ y), false) else none
  | _, _ => none
def subD : D → D → Option (D × Bool)
  | .int i, .int j => some (.int (i - j), false)
  | _, _ => none
def mulD : D → D → Option (D × Bool)
  | .int i, .int j => if Fair i ∧ Fair j then some (.int (i * j), false) else none
  | .lst x, .int k => if -1000 ≤ k ∧ k ≤ 1000 ∧ x.length ≤ 1000 ∧ x.length * k.toNat ≤ LEN then some (.lst (List.replicate k.toNat x).flatten, true) else none
  | .tup x, .int k => if x ≠ [] ∧ -1000 ≤ k ∧ k ≤ 1000 ∧ x.length ≤ 1000 then some (.tup (List.replicate k.toNat x).flatten, false) else none
  | _, _ => none
def fdivD : D → D → Option (D × Bool)
  | .int i, .int j => if 0 < j ∧ Fair j then some (.int (i / j), false) else none
  | _, _ => none
def modD : D → D → Option (D × Bool)
  | .int i, .int j => if 0 < j then some (.int (i % j), false) else none
  | _, _ => none
def powD : D → D → Option (D × Bool)
  | .int i, .int j => if 0 ≤ j ∧ j ≤ 1000 ∧ i.natAbs < 2 ^ 64 then some (.int (i ^ j.toNat), false) else none
  | _, _ => none

section
variable {Z : Wd} {X : Cx}
theorem DenA.reps {O : Addr → Prop} {H : Hp} {xs : List V} {ds : List D} (h : DenA Z O H xs ds) : ∀ k : Nat, DenA Z O H (List.replicate k xs).flatten (List.replicate k ds).flatten
  | 0 => .nil
  | k + 1 => by
    rw [List.replicate_succ, List.flatten_cons, List.replicate_succ, List.flatten_cons]
    exact h.app (DenA.reps h k)
theorem fair_log {i : Int} (h : Fair i) : i.natAbs.log2 < 8000 := by
  refine PySem.Flt.log2_lt_of (by decide) h
theorem opD_add : OpD Z X (binaryOp .Add) addD := by
  intro pins s σ H x y v u Q I rx ry h
  obtain ⟨O, dx, dy, z, hO, sx, sy, e, q⟩ := h
  unfold addD at e
  split at e
  · cases e
    cases sx.int; cases sy.int
    exact op_add pins s σ H _ _ v u Q I rx ry ⟨_, _, rfl, rfl, q _ _ (.same (.int _))⟩
  · cases e
    cases sx.int; cases sy.bl
    exact op_add_ib pins s σ H _ _ v u Q I rx ry ⟨_, _, rfl, rfl, q _ _ (.same (.int _))⟩
  · split at e
    · rename_i hl
      cases e
      cases sx.str; cases sy.str
      exact op_add_str pins s σ H _ _ v u Q I rx ry ⟨_, _, rfl, rfl, len_line hl, q _ _ (.same (.str _))⟩
    · cases e
  · split at e
    · rename_i hl
      cases e
      obtain ⟨a, xs, rfl, h1, c1⟩ := sx.lst
      obtain ⟨b, ys, rfl, h2, c2⟩ := sy.lst
      exact op_cat pins s σ H _ _ v u Q I rx ry ⟨a, b, xs, ys, rfl, rfl, h1, h2, by rw [c1.len, c2.len]; exact len_line hl, fun p hp => q _ _ (.lst hp (c1.app c2))⟩
    · cases e
  · split at e
    · rename_i hl
      cases e
      obtain ⟨a, xs, rfl, h1, c1, n1⟩ := sx.tup
      obtain ⟨b, ys, rfl, h2, c2, n2⟩ := sy.tup
      refine op_catA pins s σ H _ _ v u Q I rx ry ⟨a, b, xs, ys, rfl, rfl, SqT.of h1, SqT.of h2, by rw [c1.len, c2.len]; exact len_line hl, ?_, ?_, ?_⟩
      · intro z
        subst z
        cases c1
        exact q _ _ (.same (.ref h2 n2 (.tup c2)))
      · intro _ z
        subst z
        cases c2
        rw [List.append_nil] at q
        exact q _ _ (.same (.ref h1 n1 (.tup c1)))
      · exact fun _ _ p hp => q _ _ (.tup hO hp (c1.app c2))
    · cases e
  · cases e
theorem opD_sub : OpD Z X (binaryOp .Sub) subD := by
  intro pins s σ H x y v u Q I rx ry h
  obtain ⟨O, dx, dy, z, hO, sx, sy, e, q⟩ := h
  unfold subD at e
  split at e
  · cases e
    cases sx.int; cases sy.int
    exact op_sub pins s σ H _ _ v u Q I rx ry ⟨_, _, rfl, rfl, q _ _ (.same (.int _))⟩
  · cases e
theorem opD_mul : OpD Z X (binaryOp .Mult) mulD := by
  intro pins s σ H x y v u Q I rx ry h
  obtain ⟨O, dx, dy, z, hO, sx, sy, e, q⟩ := h
  unfold mulD at e
  split at e
  · split at e
    · rename_i hc
      cases e
      cases sx.int; cases sy.int
      exact op_mulW pins s σ H _ _ v u Q I rx ry ⟨_, _, rfl, rfl, wide_mul hc.1 hc.2 (by decide) (by decide) (by decide), q _ _ (.same (.int _))⟩
    · cases e
  · split at e
    · rename_i hc
      cases e
      obtain ⟨a, xs, rfl, h1, c1⟩ := sx.lst
      cases sy.int
      exact op_rep pins s σ H _ _ v u Q I rx ry ⟨a, _, xs, rfl, rfl, h1, by omega, by omega, by rw [c1.len]; exact len_line hc.2.2.2, fun p hp => q _ _ (.lst hp (c1.reps _))⟩
    · cases e
  · split at e
    · rename_i hc
      cases e
      obtain ⟨a, xs, rfl, h1, c1, n1⟩ := sx.tup
      cases sy.int
      rename_i k
      have ne : xs ≠ [] := fun z => hc.1 (by subst z; cases c1; rfl)
      by_cases k1 : k = 1
      · subst k1
        refine op_rep1 pins s σ H _ _ v u Q I rx ry ⟨a, xs, rfl, rfl, SqT.of h1, q _ _ (.same ?_)⟩
        have e : (List.replicate (Int.toNat 1) ‹List D›).flatten = ‹List D› := by simp
        rw [e]
        exact .ref h1 n1 (.tup c1)
      by_cases k0 : k ≤ 0
      · refine op_rep0 pins s σ H _ _ v u Q I rx ry ⟨a, _, xs, rfl, rfl, SqT.of h1, ne, hc.2.1, k0, fun p hp => q _ _ (.tup hO hp ?_)⟩
        rw [Int.toNat_of_nonpos k0]
        exact .nil
      exact op_repT pins s σ H _ _ v u Q I rx ry ⟨a, _, xs, rfl, rfl, SqT.of h1, ne, by omega, hc.2.2.1, by rw [c1.len]; exact hc.2.2.2, fun p hp => q _ _ (.tup hO hp (c1.reps _))⟩
    · cases e
  · cases e
theorem opD_fdiv : OpD Z X (binaryOp .FloorDiv) fdivD := by
  intro pins s σ H x y v u Q I rx ry h
  obtain ⟨O, dx, dy, z, hO, sx, sy, e, q⟩ := h
  unfold fdivD at e
  split at e
  · split at e
    · rename_i hc
      cases e
      cases sx.int; cases sy.int
      exact op_fdivW pins s σ H _ _ v u Q I rx ry ⟨_, _, rfl, rfl, wide_div hc.1 hc.2 (by decide) (by decide), q _ _ (.same (.int _))⟩
    · cases e
  · cases e
theorem opD_mod : OpD Z X (binaryOp .Mod) modD := by
  intro pins s σ H x y v u Q I rx ry h
  obtain ⟨O, dx, dy, z, hO, sx, sy, e, q⟩ := h
  unfold modD at e
  split at e
  · split at e
    · rename_i hc
      cases e
      cases sx.int; cases sy.int
      exact op_mod pins s σ H _ _ v u Q I rx ry ⟨_, _, rfl, rfl, hc, q _ _ (.same (.int _))⟩
    · cases e
  · cases e
theorem opD_pow : OpD Z X (binaryOp .Pow) powD := by
  intro pins s σ H x y v u Q I rx ry h
  obtain ⟨O, dx, dy, z, hO, sx, sy, e, q⟩ := h
  unfold powD at e
  split at e
  · split at e
    · rename_i hc
      cases e
      cases sx.int; cases sy.int
      exact op_pow pins s σ H _ _ v u Q I rx ry ⟨_, _, rfl, rfl, ⟨hc.1, by omega, hc.2.2⟩, q _ _ (.same (.int _))⟩
    · cases e
  · cases e
/-! ### comparisons -/
def eqB (x y : D) : Bool := PyData.eqv (py x) (py y)
def eqD : D → D → Option (D × Bool)
  | .str a, .str b => some (.bl (decide (a = b)), false)
  | x, y => if okD 64 x = true ∧ okD 64 y = true then some (.bl (eqB x y), false) else none
def neD : D → D → Option (D × Bool)
  | .str a, .str b => some (.bl (!decide (a = b)), false)
  | x, y => if okD 64 x = true ∧ okD 64 y = true then some (.bl (!eqB x y), false) else none
theorem dec_strV (a b : Str) : decide (V.str a = V.str b) = decide (a = b) := by
  by_cases h : a = b
  · subst h; simp
  · rw [decide_eq_false h, decide_eq_false (fun z => h (V.str.inj z))]
theorem opD_eq (hu : X.A.units + 64 < cLine) : OpD Z X (compareOp .Eq) eqD := by
  intro pins s σ H x y v u Q I rx ry h
  obtain ⟨O, dx, dy, z, hO, sx, sy, e, q⟩ := h
  unfold eqD at e
  split at e
  · cases e
    cases sx.str; cases sy.str
    exact op_eq pins s σ H _ _ v u Q I rx ry ⟨rfl, by rw [dec_strV]; exact q _ _ (.same (.bl _))⟩
  · split at e
    · rename_i hc
      cases e
      exact op_eqD hu pins s σ H _ _ v u Q I rx ry ⟨_, _, sx.dp hc.1, sy.dp hc.2, okD_shaped hc.1, okD_shaped hc.2, q _ _ (.same (.bl _))⟩
    · cases e
theorem opD_ne (hu : X.A.units + 64 < cLine) : OpD Z X (compareOp .NotEq) neD := by
  intro pins s σ H x y v u Q I rx ry h
  obtain ⟨O, dx, dy, z, hO, sx, sy, e, q⟩ := h
  unfold neD at e
  split at e
  · cases e
    cases sx.str; cases sy.str
    exact op_ne pins s σ H _ _ v u Q I rx ry ⟨rfl, by rw [dec_strV]; exact q _ _ (.same (.bl _))⟩
  · split at e
    · rename_i hc
      cases e
      exact op_neD hu pins s σ H _ _ v u Q I rx ry ⟨_, _, sx.dp hc.1, sy.dp hc.2, okD_shaped hc.1, okD_shaped hc.2, q _ _ (.same (.bl _))⟩
    · cases e
def ltD : D → D → Option (D × Bool)
  | .int i, .int j => some (.bl (decide (i < j)), false)
  | _, _ => none
def leD : D → D → Option (D × Bool)
  | .int i, .int j => some (.bl (decide (i ≤ j)), false)
  | _, _ => none
def gtD : D → D → Option (D × Bool)
  | .int i, .int j => some (.bl (decide (j < i)), false)
  | _, _ => none
def geD : D → D → Option (D × Bool)
  | .int i, .int j => some (.bl (decide (j ≤ i)), false)
  | _, _ => none
theorem opD_lt : OpD Z X (compareOp .Lt) ltD := by
  intro pins s σ H x y v u Q I rx ry h
  obtain ⟨O, dx, dy, z, hO, sx, sy, e, q⟩ := h
  unfold ltD at e
  split at e
  · cases e
    cases sx.int; cases sy.int
    exact op_lt pins s σ H _ _ v u Q I rx ry ⟨_, _, rfl, rfl, q _ _ (.same (.bl _))⟩
  · cases e
theorem opD_le : OpD Z X (compareOp .LtE) leD := by
  intro pins s σ H x y v u Q I rx ry h
  obtain ⟨O, dx, dy, z, hO, sx, sy, e, q⟩ := h
  unfold leD at e
  split at e
  · cases e
    cases sx.int; cases sy.int
    exact op_le pins s σ H _ _ v u Q I rx ry ⟨_, _, rfl, rfl, q _ _ (.same (.bl _))⟩
  · cases e
theorem opD_gt : OpD Z X (compareOp .Gt) gtD := by
  intro pins s σ H x y v u Q I rx ry h
  obtain ⟨O, dx, dy, z, hO, sx, sy, e, q⟩ := h
  unfold gtD at e
  split at e
  · cases e
    cases sx.int; cases sy.int
    exact op_gt pins s σ H _ _ v u Q I rx ry ⟨_, _, rfl, rfl, q _ _ (.same (.bl _))⟩
  · cases e
theorem opD_ge : OpD Z X (compareOp .GtE) geD := by
  intro pins s σ H x y v u Q I rx ry h
  obtain ⟨O, dx, dy, z, hO, sx, sy, e, q⟩ := h
  unfold geD at e
  split at e
  · cases e
    cases sx.int; cases sy.int
    exact op_ge pins s σ H _ _ v u Q I rx ry ⟨_, _, rfl, rfl, q _ _ (.same (.bl _))⟩
  · cases e
def isNon : D → Bool
  | .non => true
  | _ => false
/-- is None: of data that are no handles -/
def isD : D → D → Option (D × Bool)
  | .hnd _, _ => none
  | x, .non => some (.bl (isNon x), false)
  | .bl a, .bl b => some (.bl (decide (a = b)), false)
  | _, _ => none
def isntD : D → D → Option (D × Bool)
  | .hnd _, _ => none
  | x, .non => some (.bl (!isNon x), false)
  | .bl a, .bl b => some (.bl (!decide (a = b)), false)
  | _, _ => none
theorem Shows.isNon {O : Addr → Prop} {H : Hp} {v : V} {d : D} (h : Shows Z O H v d) (n : ∀ k, d ≠ .hnd k) : decide (v = .non) = FD.isNon d := by
  cases h with
  | own => 
    rename_i c
    cases c <;> rfl
  | den h => cases h with
    | ref e m c => cases c <;> rfl
    | hnd k => exact absurd rfl (n k)
    | _ => rfl
theorem opD_is : OpD Z X (compareOp .Is) isD := by
  intro pins s σ H x y v u Q I rx ry h
  obtain ⟨O, dx, dy, z, hO, sx, sy, e, q⟩ := h
  unfold isD at e
  split at e
  · cases e
  · rename_i n
    cases e
    cases sy.non
    exact op_isN pins s σ H _ _ v u Q I rx ry ⟨rfl, q _ _ (.same (by rw [sx.isNon n]; exact .bl _))⟩
  · cases e
    cases sx.bl; cases sy.bl
    exact op_isBl pins s σ H _ _ v u Q I rx ry ⟨_, _, rfl, rfl, q _ _ (.same (.bl _))⟩
  · cases e
theorem opD_isnt : OpD Z X (compareOp .IsNot) isntD := by
  intro pins s σ H x y v u Q I rx ry h
  obtain ⟨O, dx, dy, z, hO, sx, sy, e, q⟩ := h
  unfold isntD at e
  split at e
  · cases e
  · rename_i n
    cases e
    cases sy.non
    exact op_notN pins s σ H _ _ v u Q I rx ry ⟨rfl, q _ _ (.same (by rw [sx.isNon n]; exact .bl _))⟩
  · cases e
    cases sx.bl; cases sy.bl
    exact op_notBl pins s σ H _ _ v u Q I rx ry ⟨_, _, rfl, rfl, q _ _ (.same (.bl _))⟩
  · cases e
def negD : D → Option (D × Bool)
  | .int i => some (.int (-i), false)
  | _ => none
theorem unD_neg : UnD Z X (unaryOp .USub) negD := by
  intro pins s σ H x v Q I rx h
  obtain ⟨O, dx, z, hO, sx, e, q⟩ := h
  unfold negD at e
  split at e
  · cases e
    cases sx.int
    exact un_neg pins s σ H _ v Q I rx ⟨_, rfl, q _ _ (.same (.int _))⟩
  · cases e
end
end FD

/-! F4: argument lists, displays, calls of built-in functions, subscripts, slices, tests. -/
namespace FD
open PySem PySem.Spec PyProof.Rows L2

inductive OutA where
  | ok (rs : List Res) | ex (c : Str) (fs : List (Str × D))
abbrev AF (T : Type) := Sg T → Option (OutA × Sg T)
inductive ResOks {Z : Wd} (C : Fx Z) (σ : L2.St) (ow : Nat → Option Addr) (τ : List Sl) (H : Hp) : List V → List Res → Prop
  | nil : ResOks C σ ow τ H [] []
  | cons {v : V} {r : Res} {vs : List V} {rs : List Res} : ResOk C ow τ σ H v (hold r) → ResOks C σ ow τ H vs rs → ResOks C σ ow τ H (v :: vs) (hold r :: rs)
def FinA {Z : Wd} (C : Fx Z) (ow : Nat → Option Addr) (σ : L2.St) (H : Hp) (Q : List V → Hp → Prop) (s' : Sg Z.T) : OutA → Prop
  | .ok rs => ∀ ow' vs H', C.Rel ow' s'.1 s'.2 σ H' → ow' 0 = none → ResOks C σ ow' s'.1 H' vs rs → Ext (C.Hid ow) H (C.Hid ow') H' → Q vs H'
  | .ex c fs => ∀ ow' d H', C.Rel ow' s'.1 s'.2 σ H' → ow' 0 = none → Ext (C.Hid ow) H (C.Hid ow') H' → ExOk Z (C.Hid ow') H' d fs → C.W (.ref (Z.ca c)) d σ H'
def KnA {Z : Wd} (C : Fx Z) (f : AF Z.T) (ow : Nat → Option Addr) (τ : List Sl) (t : Z.T) (σ : L2.St) (H : Hp) (Q : List V → Hp → Prop) : Prop := ∃ o s', f (τ, t) = some (o, s') ∧ FinA C ow σ H Q s' o
def tA {Z : Wd} (C : Fx Z) (f : AF Z.T) : TA := fun σ H Q => ∃ ow τ t, C.Rel ow τ t σ H ∧ ow 0 = none ∧ KnA C f ow τ t σ H Q

def nilA {T : Type} : AF T := fun s => some (.ok [], s)
def consA {T : Type} (f : EF T) (g : AF T) : AF T := fun s => match f s with
  | none => none
  | some (.ex c fs, s1) => some (.ex c fs, s1)
  | some (.ok r, s1) => match g s1 with
    | none => none
    | some (.ex c fs, s2) => some (.ex c fs, s2)
    | some (.ok rs, s2) => some (.ok (hold r :: rs), s2)

section
variable {Z : Wd} {C : Fx Z} {X : Cx} {ow ow' : Nat → Option Addr} {τ : List Sl} {t : Z.T} {σ : L2.St} {H H' : Hp} {f : EF Z.T} {g : AF Z.T}
theorem FinA.from {Q : List V → Hp → Prop} (x : Ext (C.Hid ow) H (C.Hid ow') H') {s' : Sg Z.T} {o : OutA} (h : FinA C ow σ H Q s' o) : FinA C ow' σ H' Q s' o := by
  cases o with
  | ok r => exact fun ow2 v H2 R2 z r2 x2 => h ow2 v H2 R2 z r2 (x.trans x2)
  | ex c fs => exact fun ow2 d H2 R2 z x2 e => h ow2 d H2 R2 z (x.trans x2) e
theorem KnA.from {Q : List V → Hp → Prop} (x : Ext (C.Hid ow) H (C.Hid ow') H') (h : KnA C g ow τ t σ H Q) : KnA C g ow' τ t σ H' Q := by
  obtain ⟨o, s', e, h⟩ := h
  exact ⟨o, s', e, h.from x⟩
theorem tA_mono {Q Q' : List V → Hp → Prop} (h : tA C g σ H Q) (k : ∀ v H, Q v H → Q' v H) : tA C g σ H Q' := by
  obtain ⟨ow, τ, t, R, h0, o, s', e, h⟩ := h
  refine ⟨ow, τ, t, R, h0, o, s', e, ?_⟩
  cases o with
  | ok r => exact fun ow' v H' R' z r' x => k v H' (h ow' v H' R' z r' x)
  | ex c fs => exact h
/-- a held result, later -/
theorem ResOk.carry {ow' : Nat → Option Addr} {τ τ' : List Sl} {v : V} {r : Res} (h : ResOk C ow τ σ H v (FD.hold r)) (z : ow' 0 = none) (x : Ext (C.Hid ow) H (C.Hid ow') H') : ResOk C ow' τ' σ H' v (FD.hold r) := by
  cases r with
  | d _ => exact ⟨z, h.2.ext x⟩
  | f _ => exact ⟨z, h.2.ext x⟩
  | s _ => exact ⟨z, h.2⟩
theorem tA_nil {Q : List V → Hp → Prop} (h : tA C nilA σ H Q) : tNil σ H Q := by
  obtain ⟨ow, τ, t, R, h0, o, s', e, h⟩ := h
  cases e
  exact h ow [] H R h0 .nil .refl
theorem tA_cons {Q : List V → Hp → Prop} (h : tA C (consA f g) σ H Q) : tCons (tF C f) (tA C g) σ H Q := by
  obtain ⟨ow, τ, t, R, h0, o, s', e, h⟩ := h
  unfold consA at e
  cases q : f (τ, t) with
  | none => rw [q] at e; cases e
  | some z =>
    obtain ⟨o1, s1⟩ := z
    rw [q] at e
    cases o1 with
    | ex c fs =>
      cases e
      exact ⟨ow, τ, t, _, _, R, h0, q, h⟩
    | ok r =>
      refine ⟨ow, τ, t, _, _, R, h0, q, fun ow1 v H1 R1 r1 x1 => ?_⟩
      obtain ⟨ow2, R2, z2, r2, x2⟩ := r1.hold R1
      have x12 := x1.trans x2
      cases q2 : g s1 with
      | none => simp only [q2] at e; cases e
      | some w =>
        obtain ⟨o2, s2⟩ := w
        simp only [q2] at e
        cases o2 with
        | ex c fs =>
          cases e
          exact ⟨ow2, s1.1, s1.2, R2, z2, _, _, q2, fun ow3 d H3 R3 z3 x3 e3 => h ow3 d H3 R3 z3 (x12.trans x3) e3⟩
        | ok rs =>
          cases e
          exact ⟨ow2, s1.1, s1.2, R2, z2, _, _, q2, fun ow3 vs H3 R3 z3 rs3 x3 => h ow3 _ H3 R3 z3 (.cons (r2.carry z3 x3) rs3) (x12.trans x3)⟩
theorem ev_anil : PA X [] (tA C nilA) := ⟨fun pos pins s σ H Q I h => pa_nil.run pos pins s σ H Q I (tA_nil h)⟩
theorem ev_acons {e : Expr} {es : List Expr} (ha : PE X e (tF C f)) (hr : PA X es (tA C g)) (hs : starEach (e :: es) X.env = (false, eval e X.env) :: starEach es X.env := by rfl) : PA X (e :: es) (tA C (consA f g)) :=
  ⟨fun pos pins s σ H Q I h => (pa_cons ha hr hs).run pos pins s σ H Q I (tA_cons h)⟩
end

/-! ### arguments used -/
def peekAll (τ : List Sl) : List Res → Option (List D)
  | [] => some []
  | r :: rs => match peek τ r, peekAll τ rs with
    | some d, some ds => some (d :: ds)
    | _, _ => none
def giveAll (τ : List Sl) : List Res → Option (List D × List Sl)
  | [] => some ([], τ)
  | r :: rs => match give τ r with
    | none => none
    | some (d, τ1) => match giveAll τ1 rs with
      | none => none
      | some (ds, τ2) => some (d :: ds, τ2)
inductive ShowsA (Z : Wd) (O : Addr → Prop) (H : Hp) : List V → List D → Prop
  | nil : ShowsA Z O H [] []
  | cons {v : V} {d : D} {vs : List V} {ds : List D} : Shows Z O H v d → ShowsA Z O H vs ds → ShowsA Z O H (v :: vs) (d :: ds)
section
variable {Z : Wd} {C : Fx Z} {X : Cx} {ow ow' : Nat → Option Addr} {τ : List Sl} {t : Z.T} {σ : L2.St} {H H' : Hp} {f : EF Z.T} {g : AF Z.T}
theorem ResOks.peek : ∀ {vs : List V} {rs : List Res} {ds : List D}, C.Rel ow τ t σ H → ResOks C σ ow τ H vs rs → peekAll τ rs = some ds → ShowsA Z (C.Hid ow) H vs ds
  | _, _, _, _, .nil, e => by cases e; exact .nil
  | _, _, _, R, .cons h r, e => by
    unfold peekAll at e
    split at e
    · rename_i p1 p2
      cases e
      exact .cons (h.peek R p1) (ResOks.peek R r p2)
    · cases e
theorem ResOks.carry : ∀ {vs : List V} {rs : List Res} {τ' : List Sl}, ow' 0 = none → Ext (C.Hid ow) H (C.Hid ow') H' → ResOks C σ ow τ H vs rs → ResOks C σ ow' τ' H' vs rs
  | _, _, _, _, _, .nil => .nil
  | _, _, _, z, x, .cons h r => .cons (h.carry z x) (ResOks.carry z x r)
theorem ResOks.give : ∀ {vs : List V} {rs : List Res} {ds : List D} {ow : Nat → Option Addr} {τ τ' : List Sl}, C.Rel ow τ t σ H → ow 0 = none → ResOks C σ ow τ H vs rs → giveAll τ rs = some (ds, τ') →
    ∃ ow', C.Rel ow' τ' t σ H ∧ ow' 0 = none ∧ DenA Z (C.Hid ow') H vs ds ∧ Ext (C.Hid ow) H (C.Hid ow') H
  | _, _, _, ow, _, _, R, z, .nil, e => by cases e; exact ⟨ow, R, z, .nil, .refl⟩
  | _, _, _, _, _, _, R, z, .cons h r, e => by
    unfold giveAll at e
    split at e
    · cases e
    · rename_i d τ1 p1
      split at e
      · cases e
      · rename_i ds τ2 p2
        cases e
        obtain ⟨ow1, R1, z1, d1, x1⟩ := h.give R p1
        obtain ⟨ow2, R2, z2, d2, x2⟩ := ResOks.give R1 z1 (r.carry z1 x1) p2
        exact ⟨ow2, R2, z2, .cons (d1.ext x2) d2, x1.trans x2⟩
end

/-! ### displays -/
def dispF {T : Type} (mk : List D → D) (fr : Bool) (g : AF T) : EF T := fun s => match g s with
  | none => none
  | some (.ex c fs, s1) => some (.ex c fs, s1)
  | some (.ok rs, s1) => match giveAll s1.1 rs with
    | none => none
    | some (ds, τ) => if ds.length ≤ LEN then some (.ok (resOf (mk ds, fr)), (τ, s1.2)) else none
def tupF {T : Type} (g : AF T) : EF T := dispF .tup false g
def lstF {T : Type} (g : AF T) : EF T := dispF .lst true g
section
variable {Z : Wd} {C : Fx Z} {X : Cx} {es : List Expr} {e a b : Expr} {pos : Pos} {f fa fb : EF Z.T} {g : AF Z.T} {σ : L2.St} {H : Hp}
theorem disp_of {Q : VK} {mk : List D → D} {fr : Bool} (h : tF C (dispF mk fr g) σ H Q) : tA C g σ H fun xs H1 => xs.length ≤ sizeLine ∧
    ∃ ow ds, (∀ p, H1 p = none → ¬ C.Hid ow p) ∧ DenA Z (C.Hid ow) H1 xs ds ∧ ∀ v H', Gets Z (C.Hid ow) H1 v H' (mk ds, fr) → Q v H' := by
  obtain ⟨ow, τ, t, o, s', R, h0, e, h⟩ := h
  unfold dispF at e
  cases q : g (τ, t) with
  | none => rw [q] at e; cases e
  | some z =>
    obtain ⟨o1, s1⟩ := z
    rw [q] at e
    cases o1 with
    | ex c fs =>
      cases e
      exact ⟨ow, τ, t, R, h0, _, _, q, h⟩
    | ok rs =>
      refine ⟨ow, τ, t, R, h0, _, _, q, fun ow1 vs H1 R1 z1 r1 x1 => ?_⟩
      simp only at e
      split at e
      · cases e
      · rename_i ds τ2 p
        split at e
        · rename_i hl
          cases e
          obtain ⟨ow2, R2, z2, d2, x2⟩ := r1.give R1 z1 p
          refine ⟨by rw [d2.len]; exact len_line hl, ow2, ds, fun p hp => R2.nohid hp, d2, fun v H' gt => ?_⟩
          obtain ⟨ow3, R3, r3, x3⟩ := R2.gets z2 gt
          exact h ow3 v H' R3 r3 ((x1.trans x2).trans x3)
        · cases e
theorem ev_tup {k : Nat} (h : PA X es (tA C g)) : PE X (.Tuple es k pos) (tF C (tupF g)) := ⟨fun pins s σ H Q I q => (pe_tup h).run pins s σ H Q I (tA_mono (disp_of q) fun xs H1 ⟨z, ow, ds, hO, d, k⟩ => ⟨z, fun p hp => k _ _ (.tup hO hp d)⟩)⟩
theorem ev_lst (h : PA X es (tA C g)) : PE X (.List es pos) (tF C (lstF g)) := ⟨fun pins s σ H Q I q => (pe_lst h).run pins s σ H Q I (tA_mono (disp_of q) fun xs H1 ⟨z, ow, ds, hO, d, k⟩ => ⟨z, fun p hp => k _ _ (.lst hp d)⟩)⟩

/-! ### built-in functions -/
def rDA (Z : Wd) (op : List D → Option (D × Bool)) : List V → Hp → VK → Prop := fun vs H Q => ∃ O ds z, (∀ p, H p = none → ¬ O p) ∧ ShowsA Z O H vs ds ∧ op ds = some z ∧ ∀ v H', Gets Z O H v H' z → Q v H'
def CallD (Z : Wd) (X : Cx) (f : Value) (op : List D → Option (D × Bool)) : Prop := CallR X f (rDA Z op)
def callF {T : Type} (op : List D → Option (D × Bool)) (g : AF T) : EF T := fun s => match g s with
  | none => none
  | some (.ex c fs, s1) => some (.ex c fs, s1)
  | some (.ok rs, s1) => match peekAll s1.1 rs with
    | none => none
    | some ds => match op ds with
      | none => none
      | some z => some (.ok (resOf z), s1)
theorem call_of {Q : VK} {op : List D → Option (D × Bool)} (h : tF C (callF op g) σ H Q) : tA C g σ H fun xs H1 => rDA Z op xs H1 Q := by
  obtain ⟨ow, τ, t, o, s', R, h0, e, h⟩ := h
  unfold callF at e
  cases q : g (τ, t) with
  | none => rw [q] at e; cases e
  | some z =>
    obtain ⟨o1, s1⟩ := z
    rw [q] at e
    cases o1 with
    | ex c fs =>
      cases e
      exact ⟨ow, τ, t, R, h0, _, _, q, h⟩
    | ok rs =>
      refine ⟨ow, τ, t, R, h0, _, _, q, fun ow1 vs H1 R1 z1 r1 x1 => ?_⟩
      simp only at e
      split at e
      · cases e
      · rename_i ds p
        split at e
        · cases e
        · rename_i z p2
          cases e
          refine ⟨_, ds, z, fun p hp => R1.nohid hp, r1.peek R1 p, p2, fun v H' gt => ?_⟩
          obtain ⟨ow3, R3, r3, x3⟩ := R1.gets z1 gt
          exact h ow3 v H' R3 r3 (x1.trans x3)
theorem ev_callB {x : Str} {id : String} {p : Pos} {op : List D → Option (D × Bool)} (hc : CallD Z X (.builtin id) op) (hg : Gl X x) (hm : X.mg x = none) (hv : bootBuiltins x = some (.builtin id)) (ha : PA X (e :: es) (tA C g)) (hn : x ≠ "__name__" := by decide) (hdb : (x == ("__debug__" : Str)) = false := by decide)
    (he : starEach (e :: es) X.env = (false, eval e X.env) :: starEach es X.env := by rfl) (hpl : (backTo pos (starEach es X.env)).any (·.1) = false := by rfl) : PE X (.Call (.Name x p) (e :: es) [] pos) (tF C (callF op g)) :=
  ⟨fun pins s σ H Q I h => (pe_callB hc hg hm hv ha hn hdb he hpl).run pins s σ H Q I (call_of h)⟩
theorem ev_callTy {x : Str} {T : String} {p : Pos} {op : List D → Option (D × Bool)} (hc : CallD Z X (.type T) op) (hg : Gl X x) (hm : X.mg x = none) (hv : bootBuiltins x = some (.type T)) (ha : PA X (e :: es) (tA C g)) (hn : x ≠ "__name__" := by decide) (hdb : (x == ("__debug__" : Str)) = false := by decide)
    (he : starEach (e :: es) X.env = (false, eval e X.env) :: starEach es X.env := by rfl) (hpl : (backTo pos (starEach es X.env)).any (·.1) = false := by rfl) : PE X (.Call (.Name x p) (e :: es) [] pos) (tF C (callF op g)) :=
  ⟨fun pins s σ H Q I h => (pe_callTy hc hg hm hv ha hn hdb he hpl).run pins s σ H Q I (call_of h)⟩

/-! ### subscripts -/
theorem ev_ix {op : D → D → Option (D × Bool)} (hr : IxR X (rD2 Z op)) (ha : PE X a (tF C fa)) (hb : PE X b (tF C fb)) (hs : PlainIx b) : PE X (.Subscript a b pos) (tF C (binF op fa fb)) :=
  ⟨fun pins s σ H Q I h => (pe_ix hr ha hb hs).run pins s σ H Q I (tOp_of h)⟩
end
end FD

/-! F5: tests, and, or, not, conditional expressions, chains. -/
namespace FD
open PySem PySem.Spec PyProof.Rows L2

def FinT {Z : Wd} (C : Fx Z) (ow : Nat → Option Addr) (σ : L2.St) (H : Hp) (Q : Bool → Hp → Prop) (s' : Sg Z.T) : Out → Prop
  | .ok r => ∃ b, peek s'.1 (hold r) = some (.bl b) ∧ ∀ ow' H', C.Rel ow' s'.1 s'.2 σ H' → ow' 0 = none → Ext (C.Hid ow) H (C.Hid ow') H' → Q b H'
  | .ex c fs => ∀ ow' d H', C.Rel ow' s'.1 s'.2 σ H' → ow' 0 = none → Ext (C.Hid ow) H (C.Hid ow') H' → ExOk Z (C.Hid ow') H' d fs → C.W (.ref (Z.ca c)) d σ H'
def KnT {Z : Wd} (C : Fx Z) (f : EF Z.T) (ow : Nat → Option Addr) (τ : List Sl) (t : Z.T) (σ : L2.St) (H : Hp) (Q : Bool → Hp → Prop) : Prop := ∃ o s', f (τ, t) = some (o, s') ∧ FinT C ow σ H Q s' o
def tT {Z : Wd} (C : Fx Z) (f : EF Z.T) : TT := fun σ H Q => ∃ ow τ t, C.Rel ow τ t σ H ∧ ow 0 = none ∧ KnT C f ow τ t σ H Q

section
variable {Z : Wd} {C : Fx Z} {X : Cx} {ow ow' : Nat → Option Addr} {τ : List Sl} {t : Z.T} {σ : L2.St} {H H' : Hp} {f g h : EF Z.T} {a b c e : Expr} {pos : Pos} {rest : List Expr}
theorem FinT.from {Q : Bool → Hp → Prop} (x : Ext (C.Hid ow) H (C.Hid ow') H') {s' : Sg Z.T} {o : Out} (h : FinT C ow σ H Q s' o) : FinT C ow' σ H' Q s' o := by
  cases o with
  | ok r =>
    obtain ⟨b, e, h⟩ := h
    exact ⟨b, e, fun ow2 H2 R2 z x2 => h ow2 H2 R2 z (x.trans x2)⟩
  | ex c fs => exact fun ow2 d H2 R2 z x2 e => h ow2 d H2 R2 z (x.trans x2) e
theorem KnT.from {Q : Bool → Hp → Prop} (x : Ext (C.Hid ow) H (C.Hid ow') H') (h : KnT C f ow τ t σ H Q) : KnT C f ow' τ t σ H' Q := by
  obtain ⟨o, s', e, h⟩ := h
  exact ⟨o, s', e, h.from x⟩
theorem tT_mono {Q Q' : Bool → Hp → Prop} (h : tT C f σ H Q) (k : ∀ v H, Q v H → Q' v H) : tT C f σ H Q' := by
  obtain ⟨ow, τ, t, R, h0, o, s', e, h⟩ := h
  refine ⟨ow, τ, t, R, h0, o, s', e, ?_⟩
  cases o with
  | ok r =>
    obtain ⟨b, e, h⟩ := h
    exact ⟨b, e, fun ow' H' R' z x => k b H' (h ow' H' R' z x)⟩
  | ex c fs => exact h
/-- a test whose reading is known as that of its value -/
theorem tT_val {Q : Bool → Hp → Prop} (h : tT C f σ H Q) : tF C f σ H fun x H1 => ∃ b, x = .bl b ∧ Q b H1 := by
  obtain ⟨ow, τ, t, R, h0, o, s', e, h⟩ := h
  refine ⟨ow, τ, t, o, s', R, h0, e, ?_⟩
  cases o with
  | ok r =>
    obtain ⟨b, e, h⟩ := h
    intro ow' v H' R' r' x
    obtain ⟨ow1, R1, z1, r1, x1⟩ := r'.hold R'
    exact ⟨b, (r1.peek R1 e).bl, h ow1 H' R1 z1 (x.trans x1)⟩
  | ex c fs => exact h
theorem et_val (he : PE X e (tF C f)) (hw : ∀ whole, isTrue e X.env whole = (do let v ← whole; standAt e.pos; holding [v] (truthy v)) := by intro _; rfl) : PT X e (tT C f) :=
  ⟨fun pins s σ H Q I h => (pt_val he hw).run pins s σ H Q I (tT_val h)⟩
theorem et_cmp {op : CmpOp} {o : D → D → Option (D × Bool)} (ho : OpD Z X (compareOp op) o) (ha : PE X a (tF C f)) (hb : PE X b (tF C g)) (hm : behindInMarks op b = false) : PT X (.Compare a [op] [b] pos) (tT C (binF o f g)) :=
  ⟨fun pins s σ H Q I h => (pt_cmpR ho ha hb hm).run pins s σ H Q I (tOp_of (tT_val h))⟩

/-! ### and, or, not -/
/-- what goes on by a truth value -/
def branchF {T : Type} (f g h : EF T) : EF T := bindF f fun r => fun s => match peek s.1 (hold r) with
  | some (.bl true) => g s
  | some (.bl false) => h s
  | _ => none
def andF {T : Type} (f g : EF T) : EF T := branchF f g (conF (.bl false))
def orF {T : Type} (f g : EF T) : EF T := branchF f (conF (.bl true)) g
def notF {T : Type} (f : EF T) : EF T := branchF f (conF (.bl false)) (conF (.bl true))
theorem branch_tF {Q : VK} (h0 : tF C (branchF f g h) σ H Q) : tF C f σ H fun x H1 => ∃ b, x = .bl b ∧ if b = true then tF C g σ H1 Q else tF C h σ H1 Q := by
  obtain ⟨ow, τ, t, R, z, k⟩ := h0.at_
  refine tF_mono (k.bind R z) fun x H1 ⟨ow1, τ1, t1, r, R1, r1, k1, _⟩ => ?_
  obtain ⟨ow2, R2, z2, r2, x2⟩ := r1.hold R1
  obtain ⟨o, s', e, k2⟩ := k1.from x2
  simp only at e
  split at e
  · rename_i p
    exact ⟨true, (r2.peek R2 p).bl, by rw [if_pos rfl]; exact Kn.tF ⟨o, s', e, k2⟩ R2 z2⟩
  · rename_i p
    exact ⟨false, (r2.peek R2 p).bl, by rw [if_neg (by decide)]; exact Kn.tF ⟨o, s', e, k2⟩ R2 z2⟩
  · cases e
/-- behind a test: what goes on by it, as a test -/
theorem branch_tT {Q : Bool → Hp → Prop} (h0 : tT C (branchF f g h) σ H Q) : tT C f σ H fun b H1 => if b = true then tT C g σ H1 Q else tT C h σ H1 Q := by
  obtain ⟨ow, τ, t, R, z, o, s', e, k⟩ := h0
  unfold branchF bindF at e
  cases q : f (τ, t) with
  | none => rw [q] at e; cases e
  | some w =>
    obtain ⟨o1, s1⟩ := w
    rw [q] at e
    cases o1 with
    | ex c fs =>
      cases e
      exact ⟨ow, τ, t, R, z, _, _, q, k⟩
    | ok r =>
      simp only at e
      split at e
      · rename_i p
        exact ⟨ow, τ, t, R, z, _, _, q, true, p, fun ow1 H1 R1 z1 x1 => by dsimp only; rw [if_pos rfl]; exact ⟨ow1, s1.1, s1.2, R1, z1, o, s', e, k.from x1⟩⟩
      · rename_i p
        exact ⟨ow, τ, t, R, z, _, _, q, false, p, fun ow1 H1 R1 z1 x1 => by dsimp only; rw [if_neg (by decide)]; exact ⟨ow1, s1.1, s1.2, R1, z1, o, s', e, k.from x1⟩⟩
      · cases e
theorem con_tF {d : D} {v : V} {Q : VK} (h : tF C (conF d) σ H Q) (hd : ∀ O H, Den Z O H v d) : Q v H := by
  obtain ⟨ow, τ, t, o, s', R, h0, e, h⟩ := h
  cases e
  exact h ow v H R ⟨h0, hd _ _⟩ .refl
theorem con_tT {b : Bool} {Q : Bool → Hp → Prop} (h : tT C (conF (.bl b)) σ H Q) : Q b H := by
  obtain ⟨ow, τ, t, R, h0, o, s', e, h⟩ := h
  cases e
  obtain ⟨b', e, h⟩ := h
  cases e
  exact h ow H R h0 .refl
theorem ev_one {op : BoolOp} (h : PE X a (tF C f)) : PE X (.BoolOp op [a] pos) (tF C f) := pe_one h
theorem ev_and (ha : PE X a (tF C f)) (hb : PE X (.BoolOp .And (b :: rest) pos) (tF C g)) : PE X (.BoolOp .And (a :: b :: rest) pos) (tF C (andF f g)) :=
  ⟨fun pins s σ H Q I h => (pe_and ha hb).run pins s σ H Q I (tF_mono (branch_tF h) fun x H1 ⟨b, e, k⟩ => ⟨b, e, by
    cases b with
    | true => exact k
    | false => exact con_tF k fun _ _ => .bl false⟩)⟩
theorem ev_or (ha : PE X a (tF C f)) (hb : PE X (.BoolOp .Or (b :: rest) pos) (tF C g)) : PE X (.BoolOp .Or (a :: b :: rest) pos) (tF C (orF f g)) :=
  ⟨fun pins s σ H Q I h => (pe_or ha hb).run pins s σ H Q I (tF_mono (branch_tF h) fun x H1 ⟨b, e, k⟩ => ⟨b, e, by
    cases b with
    | true => exact con_tF k fun _ _ => .bl true
    | false => exact k⟩)⟩
theorem ev_not (ha : PE X a (tF C f)) : PE X (.UnaryOp .Not a pos) (tF C (notF f)) :=
  ⟨fun pins s σ H Q I h => (pe_not ha).run pins s σ H Q I (tF_mono (branch_tF h) fun x H1 ⟨b, e, k⟩ => ⟨b, e, by
    cases b with
    | true => exact con_tF k fun _ _ => .bl false
    | false => exact con_tF k fun _ _ => .bl true⟩)⟩
theorem ew_and1 (ha : PT X a (tT C f)) : PW X (.BoolOp .And [a] pos) (tT C f) := pw_and1 ha
theorem ew_or1 (ha : PT X a (tT C f)) : PW X (.BoolOp .Or [a] pos) (tT C f) := pw_or1 ha
theorem ew_and (ha : PT X a (tT C f)) (hb : PW X (.BoolOp .And (b :: rest) pos) (tT C g)) : PW X (.BoolOp .And (a :: b :: rest) pos) (tT C (andF f g)) :=
  ⟨fun wh pins s σ H Q I h => (pw_and ha hb).run wh pins s σ H Q I (tT_mono (branch_tT h) fun b H1 k => by
    cases b with
    | true => exact k
    | false => exact con_tT k)⟩
theorem ew_or (ha : PT X a (tT C f)) (hb : PW X (.BoolOp .Or (b :: rest) pos) (tT C g)) : PW X (.BoolOp .Or (a :: b :: rest) pos) (tT C (orF f g)) :=
  ⟨fun wh pins s σ H Q I h => (pw_or ha hb).run wh pins s σ H Q I (tT_mono (branch_tT h) fun b H1 k => by
    cases b with
    | true => exact con_tT k
    | false => exact k)⟩
theorem et_not (ha : PT X a (tT C f)) : PT X (.UnaryOp .Not a pos) (tT C (notF f)) :=
  ⟨fun pins s σ H Q I h => (pt_not ha).run pins s σ H Q I (tT_mono (branch_tT h) fun b H1 k => by
    cases b with
    | true => exact con_tT k
    | false => exact con_tT k)⟩
theorem ev_if (hc : PT X c (tT C f)) (ha : PE X a (tF C g)) (hb : PE X b (tF C h)) : PE X (.IfExp c a b pos) (tF C (branchF f g h)) :=
  ⟨fun pins s σ H Q I q => (pe_ifExp hc ha hb).run pins s σ H Q I (by
    obtain ⟨ow, τ, t, R, z, o, s', e, k⟩ := q.at_
    unfold branchF bindF at e
    cases q : f (τ, t) with
    | none => rw [q] at e; cases e
    | some w =>
      obtain ⟨o1, s1⟩ := w
      rw [q] at e
      cases o1 with
      | ex c fs =>
        cases e
        exact ⟨ow, τ, t, R, z, _, _, q, k⟩
      | ok r =>
        simp only at e
        split at e
        · rename_i p
          exact ⟨ow, τ, t, R, z, _, _, q, true, p, fun ow1 H1 R1 z1 x1 => by dsimp only; rw [if_pos rfl]; exact Kn.tF ⟨o, s', e, k.from x1⟩ R1 z1⟩
        · rename_i p
          exact ⟨ow, τ, t, R, z, _, _, q, false, p, fun ow1 H1 R1 z1 x1 => by dsimp only; rw [if_neg (by decide)]; exact Kn.tF ⟨o, s', e, k.from x1⟩ R1 z1⟩
        · cases e)⟩

/-! ### chains -/
def chainF {T : Type} (op op' : D → D → Option (D × Bool)) (f g h : EF T) : EF T := bindF f fun ra => bindF g fun rb => fun s => match peek s.1 (hold ra), peek s.1 (hold rb) with
  | some x, some y => match op x y with
    | some (.bl true, false) => bindF h (fun rc => doneF fun τ => match peek τ (hold rb), peek τ (hold rc) with
      | some y, some z => op' y z
      | _, _ => none) s
    | some (.bl false, false) => some (.ok (.d (.bl false)), s)
    | _ => none
  | _, _ => none
theorem chain_of {op op' : D → D → Option (D × Bool)} {Q : VK} (q : tF C (chainF op op' f g h) σ H Q) : tChain (rD2 Z op) (rD2 Z op') (tF C f) (tF C g) (tF C h) σ H Q := by
  obtain ⟨ow, τ, t, R, z, k⟩ := q.at_
  refine tF_mono (k.bind R z) fun x H1 ⟨ow1, τ1, t1, ra, R1, r1, h1, _⟩ => ?_
  obtain ⟨ow1', R1', z1, r1', x1⟩ := r1.hold R1
  refine tF_mono ((h1.from x1).bind R1' z1) fun y H2 ⟨ow2, τ2, t2, rb, R2, r2, h2, x2⟩ => ?_
  obtain ⟨ow3, R3, z3, r3, x3⟩ := r2.hold R2
  obtain ⟨o, s', e, k2⟩ := h2.from x3
  simp only at e
  split at e
  · rename_i dx dy pa pb
    split at e
    · rename_i p
      refine ⟨_, dx, dy, _, fun p hp => R3.nohid hp, r1'.later R3 (x2.trans x3) pa, r3.peek R3 pb, p, fun v H3 gt => ⟨true, (Shows.den gt.2).bl, ?_⟩⟩
      have x4 : Ext (C.Hid ow3) H2 (C.Hid ow3) H3 := gt.1.ext
      have R4 := R3.grown gt.1
      have kk : Kn C (bindF h (fun rc => doneF fun τ => match peek τ (hold rb), peek τ (hold rc) with
        | some y, some z => op' y z
        | _, _ => none)) ow3 τ2 t2 σ H3 Q := Kn.from (H := H2) x4 ⟨o, s', e, k2⟩
      rw [if_pos rfl]
      refine tF_mono (kk.bind R4 z3) fun w H4 ⟨ow5, τ5, t5, rc, R5, r5, h5, x5⟩ => ?_
      obtain ⟨ow6, R6, z6, r6, x6⟩ := r5.hold R5
      obtain ⟨zz, e6, q6⟩ := (h5.from x6).done R6 z6
      split at e6
      · rename_i dy' dz' p1 p2
        exact ⟨_, dy', dz', zz, fun p hp => R6.nohid hp, r3.later R6 ((x4.trans x5).trans x6) (by cases rb <;> exact p1), r6.peek R6 p2, e6, q6⟩
      · cases e6
    · rename_i p
      cases e
      refine ⟨_, dx, dy, _, fun p hp => R3.nohid hp, r1'.later R3 (x2.trans x3) pa, r3.peek R3 pb, p, fun v H3 gt => ⟨false, (Shows.den gt.2).bl, ?_⟩⟩
      rw [if_neg (by decide)]
      exact k2 ow3 _ H3 (R3.grown gt.1) ⟨z3, .bl false⟩ gt.1.ext
    · cases e
  · cases e
theorem ev_chain {o o' : CmpOp} {op op' : D → D → Option (D × Bool)} (ho : OpD Z X (compareOp o) op) (ho' : OpD Z X (compareOp o') op') (ha : PE X a (tF C f)) (hb : PE X b (tF C g)) (hc : PE X c (tF C h))
    (hm : lastMarks [o, o'] [b, c] = false := by with_unfolding_all rfl) : PE X (.Compare a [o, o'] [b, c] pos) (tF C (chainF op op' f g h)) :=
  ⟨fun pins s σ H Q I q => (pe_chain ho ho' ha hb hc hm).run pins s σ H Q I (chain_of q)⟩
theorem et_chain {o o' : CmpOp} {op op' : D → D → Option (D × Bool)} (ho : OpD Z X (compareOp o) op) (ho' : OpD Z X (compareOp o') op') (ha : PE X a (tF C f)) (hb : PE X b (tF C g)) (hc : PE X c (tF C h))
    (hm : lastMarks [o, o'] [b, c] = false := by with_unfolding_all rfl) : PT X (.Compare a [o, o'] [b, c] pos) (tT C (chainF op op' f g h)) :=
  ⟨fun pins s σ H Q I q => (pt_chain ho ho' ha hb hc hm).run pins s σ H Q I (chain_of (tT_val q))⟩
end
end FD

/-! F6: statements: blocks, assignments to names and tuples of names, if, return, while. -/
namespace FD
open PySem PySem.Spec PyProof.Rows L2

/-- a statement's end -/
inductive SOut where
  | nx | rt (r : Res) | bk | ct | ex (c : Str) (fs : List (Str × D))
abbrev SF (T : Type) := Sg T → Option (SOut × Sg T)
def FinS {Z : Wd} (C : Fx Z) (ow : Nat → Option Addr) (H : Hp) (E : Ends) (s' : Sg Z.T) : SOut → Prop
  | .nx => ∀ ow' σ' H', C.Rel ow' s'.1 s'.2 σ' H' → ow' 0 = none → Ext (C.Hid ow) H (C.Hid ow') H' → E.nx σ' H'
  | .bk => ∀ ow' σ' H', C.Rel ow' s'.1 s'.2 σ' H' → ow' 0 = none → Ext (C.Hid ow) H (C.Hid ow') H' → E.bk σ' H'
  | .ct => ∀ ow' σ' H', C.Rel ow' s'.1 s'.2 σ' H' → ow' 0 = none → Ext (C.Hid ow) H (C.Hid ow') H' → E.ct σ' H'
  | .rt r => ∀ ow' σ' v H', C.Rel ow' s'.1 s'.2 σ' H' → ResOk C ow' s'.1 σ' H' v r → Ext (C.Hid ow) H (C.Hid ow') H' → E.rt v H'
  | .ex c fs => ∀ ow' σ' d H', C.Rel ow' s'.1 s'.2 σ' H' → ow' 0 = none → Ext (C.Hid ow) H (C.Hid ow') H' → ExOk Z (C.Hid ow') H' d fs → C.W (.ref (Z.ca c)) d σ' H'
def KnS {Z : Wd} (C : Fx Z) (f : SF Z.T) (ow : Nat → Option Addr) (τ : List Sl) (t : Z.T) (H : Hp) (E : Ends) : Prop := ∃ o s', f (τ, t) = some (o, s') ∧ FinS C ow H E s' o
def tS {Z : Wd} (C : Fx Z) (f : SF Z.T) : TS := fun E σ H => ∃ ow τ t, C.Rel ow τ t σ H ∧ ow 0 = none ∧ KnS C f ow τ t H E

def seqF {T : Type} (f g : SF T) : SF T := fun s => match f s with
  | some (.nx, s1) => g s1
  | r => r
def nxF {T : Type} : SF T := fun s => some (.nx, s)
def bkF {T : Type} : SF T := fun s => some (.bk, s)
def ctF {T : Type} : SF T := fun s => some (.ct, s)
/-- a statement over an expression -/
def sbind {T : Type} (f : EF T) (k : Res → SF T) : SF T := fun s => match f s with
  | none => none
  | some (.ex c fs, s1) => some (.ex c fs, s1)
  | some (.ok r, s1) => k r s1
def dropF {T : Type} (f : EF T) : SF T := sbind f fun _ s => some (.nx, s)
/-- what a return takes along: an own slot's object is no one's behind it -/
def retF {T : Type} (f : EF T) : SF T := sbind f fun r s => match r with
  | .s i => match s.1[i]? with
    | some (.v d) => some (.rt (.d d), s)
    | some (.o d) => some (.rt (.f d), (s.1.set i .no, s.2))
    | _ => none
  | r => some (.rt r, s)
def retNF {T : Type} : SF T := fun s => some (.rt (.d .non), s)
def ifF {T : Type} (f : EF T) (g h : SF T) : SF T := sbind f fun r => fun s => match peek s.1 (hold r) with
  | some (.bl true) => g s
  | some (.bl false) => h s
  | _ => none
/-- a result into slot i -/
def storeAt (i : Nat) (τ : List Sl) : Res → Option (List Sl)
  | .f d => some (τ.set i (.o d))
  | r => match give τ r with
    | none => none
    | some (d, τ1) => some (τ1.set i (.v d))
def setF {T : Type} (i : Nat) (f : EF T) : SF T := sbind f fun r s => match storeAt i s.1 r with
  | none => none
  | some τ => some (.nx, (τ, s.2))

section
variable {Z : Wd} {C : Fx Z} {X : Cx} {ow ow' : Nat → Option Addr} {τ : List Sl} {t : Z.T} {σ : L2.St} {H H' : Hp} {E : Ends}
theorem FinS.from (x : Ext (C.Hid ow) H (C.Hid ow') H') {s' : Sg Z.T} {o : SOut} (h : FinS C ow H E s' o) : FinS C ow' H' E s' o := by
  cases o with
  | nx => exact fun ow2 σ2 H2 R2 z x2 => h ow2 σ2 H2 R2 z (x.trans x2)
  | bk => exact fun ow2 σ2 H2 R2 z x2 => h ow2 σ2 H2 R2 z (x.trans x2)
  | ct => exact fun ow2 σ2 H2 R2 z x2 => h ow2 σ2 H2 R2 z (x.trans x2)
  | rt r => exact fun ow2 σ2 v H2 R2 z x2 => h ow2 σ2 v H2 R2 z (x.trans x2)
  | ex c fs => exact fun ow2 σ2 d H2 R2 z x2 e => h ow2 σ2 d H2 R2 z (x.trans x2) e
theorem KnS.from {f : SF Z.T} (x : Ext (C.Hid ow) H (C.Hid ow') H') (h : KnS C f ow τ t H E) : KnS C f ow' τ t H' E := by
  obtain ⟨o, s', e, h⟩ := h
  exact ⟨o, s', e, h.from x⟩
theorem tS_seq {f g : SF Z.T} (h : tS C (seqF f g) E σ H) : tSeq (tS C f) (tS C g) E σ H := by
  obtain ⟨ow, τ, t, R, z, o, s', e, k⟩ := h
  unfold seqF at e
  cases q : f (τ, t) with
  | none => rw [q] at e; cases e
  | some w =>
    obtain ⟨o1, s1⟩ := w
    rw [q] at e
    refine ⟨ow, τ, t, R, z, o1, s1, q, ?_⟩
    cases o1 with
    | nx => exact fun ow1 σ1 H1 R1 z1 x1 => ⟨ow1, s1.1, s1.2, R1, z1, o, s', e, k.from x1⟩
    | rt r => cases e; exact k
    | bk => cases e; exact k
    | ct => cases e; exact k
    | ex c fs => cases e; exact k
theorem sv_nil : PSs X [] (tS C nxF) := ⟨fun pins s σ H E I h => pss_nil.run pins s σ H E I (by
  obtain ⟨ow, τ, t, R, z, o, s', e, k⟩ := h
  cases e
  exact k ow σ H R z .refl)⟩
theorem sv_one {st : Stmt} {f : SF Z.T} (h : PS X st (tS C f)) : PSs X [st] (tS C f) := pss_one h
theorem sv_cons {st : Stmt} {rest : List Stmt} {f g : SF Z.T} (h1 : PS X st (tS C f)) (h2 : PSs X rest (tS C g)) : PSs X (st :: rest) (tS C (seqF f g)) :=
  ⟨fun pins s σ H E I h => (pss_cons h1 h2).run pins s σ H E I (tS_seq h)⟩
theorem sv_pass {pos : Pos} : PS X (.Pass pos) (tS C nxF) := ⟨fun pins s σ H E I h => ps_pass.run pins s σ H E I (by
  obtain ⟨ow, τ, t, R, z, o, s', e, k⟩ := h
  cases e
  exact k ow σ H R z .refl)⟩
theorem sv_break {pos : Pos} : PS X (.Break pos) (tS C bkF) := ⟨fun pins s σ H E I h => ps_break.run pins s σ H E I (by
  obtain ⟨ow, τ, t, R, z, o, s', e, k⟩ := h
  cases e
  exact k ow σ H R z .refl)⟩
theorem sv_continue {pos : Pos} : PS X (.Continue pos) (tS C ctF) := ⟨fun pins s σ H E I h => ps_continue.run pins s σ H E I (by
  obtain ⟨ow, τ, t, R, z, o, s', e, k⟩ := h
  cases e
  exact k ow σ H R z .refl)⟩
/-- a statement that begins with an expression -/
theorem tS_bind {f : EF Z.T} {k : Res → SF Z.T} (h : tS C (sbind f k) E σ H) : tF C f σ H fun v H1 => ∃ ow1 τ1 t1 r, C.Rel ow1 τ1 t1 σ H1 ∧ ResOk C ow1 τ1 σ H1 v r ∧ KnS C (k r) ow1 τ1 t1 H1 E := by
  obtain ⟨ow, τ, t, R, h0, o, s', e, h⟩ := h
  unfold sbind at e
  cases q : f (τ, t) with
  | none => rw [q] at e; cases e
  | some z =>
    obtain ⟨o1, s1⟩ := z
    rw [q] at e
    cases o1 with
    | ex c fs =>
      cases e
      exact ⟨ow, τ, t, _, _, R, h0, q, fun ow' d H' R' z x e => h ow' σ d H' R' z x e⟩
    | ok r => exact ⟨ow, τ, t, _, _, R, h0, q, fun ow1 v H1 R1 r1 x1 => ⟨ow1, s1.1, s1.2, r, R1, r1, ⟨o, s', e, h.from x1⟩⟩⟩
theorem sv_expr {e : Expr} {f : EF Z.T} {pos : Pos} (he : PE X e (tF C f)) (hs : swapsWith e none pos.line X.env = pure false := by rfl) : PS X (.Expr e pos) (tS C (dropF f)) :=
  ⟨fun pins s σ H E I h => (ps_expr he hs).run pins s σ H E I (tF_mono (tS_bind h) fun v H1 ⟨ow1, τ1, t1, r, R1, r1, k⟩ => by
    obtain ⟨ow2, R2, z2, _, x2⟩ := r1.hold R1
    obtain ⟨o, s', e, k⟩ := k
    cases e
    exact k ow2 σ H1 R2 z2 x2)⟩
/-- own slot i is moved: it is pending -/
def move (ow : Nat → Option Addr) (i j : Nat) : Nat → Option Addr := fun k => if k = j then ow i else if k = i then none else ow k
theorem move_some {ow : Nat → Option Addr} {i j k : Nat} {a : Addr} (h : move ow i j k = some a) : (k = j ∧ ow i = some a) ∨ (k ≠ j ∧ k ≠ i ∧ ow k = some a) := by
  unfold move at h
  split at h
  · exact .inl ⟨by assumption, h⟩
  · split at h
    · cases h
    · exact .inr ⟨by assumption, by assumption, h⟩
theorem hid_move {O₀ : Addr → Prop} {ow : Nat → Option Addr} {i j : Nat} {a : Addr} (h : Hid O₀ (move ow i j) a) : Hid O₀ ow a := by
  rcases h with h | ⟨k, e⟩
  · exact .inl h
  · rcases move_some e with ⟨_, e⟩ | ⟨_, _, e⟩
    · exact .inr ⟨i, e⟩
    · exact .inr ⟨k, e⟩
theorem ext_move {O₀ : Addr → Prop} {ow : Nat → Option Addr} {i j : Nat} {H : Hp} : Ext (Hid O₀ ow) H (Hid O₀ (move ow i j)) H := ⟨fun _ _ e _ => e, fun _ h => .inl (hid_move h)⟩
theorem move_inj {ow : Nat → Option Addr} {i j : Nat} (hij : i ≠ j) (inj : ∀ i j a, ow i = some a → ow j = some a → i = j) : ∀ k l a, move ow i j k = some a → move ow i j l = some a → k = l := by
  intro k l a h1 h2
  rcases move_some h1 with ⟨e1, e2⟩ | ⟨n1, n2, e2⟩
  · rcases move_some h2 with ⟨e3, _⟩ | ⟨_, n4, e4⟩
    · rw [e1, e3]
    · exact absurd (inj _ _ _ e4 e2) n4
  · rcases move_some h2 with ⟨_, e4⟩ | ⟨_, _, e4⟩
    · exact absurd (inj _ _ _ e2 e4) n2
    · exact inj _ _ _ e2 e4
theorem Rel.take {i : Nat} {d : D} (R : C.Rel ow τ t σ H) (e : τ[i]? = some (.o d)) : C.Rel (move ow (i + 1) 0) (τ.set i .no) t σ H where
  on := R.on
  hid := R.hid
  hidT := R.hidT
  grow := R.grow
  len := by rw [List.length_set]; exact R.len
  slot := fun j s h => by
    by_cases q : j = i
    · subst q
      have hl : j < τ.length := (List.getElem?_eq_some_iff.mp e).1
      rw [List.getElem?_set_self hl] at h
      cases h
      trivial
    · rw [List.getElem?_set_ne (Ne.symm q)] at h
      exact (R.slot j s h).ext ext_move fun a h => ⟨by
        unfold move
        rw [if_neg (by omega), if_neg (by omega)]
        exact h, rfl⟩
  inj := move_inj (by omega) R.inj
  new := fun k a h => by
    rcases move_some h with ⟨_, e⟩ | ⟨_, _, e⟩
    · exact R.new _ a e
    · exact R.new _ a e
theorem sv_ret {e : Expr} {f : EF Z.T} {pos : Pos} (he : PE X e (tF C f)) : PS X (.Return (some e) pos) (tS C (retF f)) :=
  ⟨fun pins s σ H E I h => (ps_ret he).run pins s σ H E I (tF_mono (tS_bind h) fun v H1 ⟨ow1, τ1, t1, r, R1, r1, k⟩ => by
    obtain ⟨o, s', e, k⟩ := k
    cases r with
    | d d =>
      cases e
      exact k ow1 σ v H1 R1 r1 .refl
    | f d =>
      cases e
      exact k ow1 σ v H1 R1 r1 .refl
    | s i =>
      obtain ⟨z, r1⟩ := r1
      simp only at e
      split at e
      · rename_i d p
        cases e
        obtain ⟨v', e1, q⟩ := R1.slot i _ p
        rw [r1] at e1
        cases e1
        exact k ow1 σ v H1 R1 ⟨z, q⟩ .refl
      · rename_i d p
        cases e
        obtain ⟨a, o, e1, e2, e3, c⟩ := R1.slot i _ p
        rw [r1] at e2
        cases e2
        refine k (move ow1 (i + 1) 0) σ _ H1 (R1.take p) ⟨a, o, ?_, rfl, e3, c.ext ext_move⟩ ext_move
        unfold move
        rw [if_pos rfl]
        exact e1
      · cases e)⟩
theorem sv_retN {pos : Pos} : PS X (.Return none pos) (tS C retNF) := ⟨fun pins s σ H E I h => ps_retN.run pins s σ H E I (by
  obtain ⟨ow, τ, t, R, z, o, s', e, k⟩ := h
  cases e
  exact k ow σ .non H R ⟨z, .non⟩ .refl)⟩
theorem tS_if {f : EF Z.T} {g h : SF Z.T} (q : tS C (ifF f g h) E σ H) : tT C f σ H fun b H1 => if b = true then tS C g E σ H1 else tS C h E σ H1 := by
  obtain ⟨ow, τ, t, R, z, o, s', e, k⟩ := q
  unfold ifF sbind at e
  cases q : f (τ, t) with
  | none => rw [q] at e; cases e
  | some w =>
    obtain ⟨o1, s1⟩ := w
    rw [q] at e
    cases o1 with
    | ex c fs =>
      cases e
      exact ⟨ow, τ, t, R, z, _, _, q, fun ow' d H' R' z x e => k ow' σ d H' R' z x e⟩
    | ok r =>
      simp only at e
      split at e
      · rename_i p
        exact ⟨ow, τ, t, R, z, _, _, q, true, p, fun ow1 H1 R1 z1 x1 => by dsimp only; rw [if_pos rfl]; exact ⟨ow1, s1.1, s1.2, R1, z1, o, s', e, k.from x1⟩⟩
      · rename_i p
        exact ⟨ow, τ, t, R, z, _, _, q, false, p, fun ow1 H1 R1 z1 x1 => by dsimp only; rw [if_neg (by decide)]; exact ⟨ow1, s1.1, s1.2, R1, z1, o, s', e, k.from x1⟩⟩
      · cases e
theorem sv_if {c : Expr} {a b : List Stmt} {f : EF Z.T} {g h : SF Z.T} {pos : Pos} (hc : PT X c (tT C f)) (ha : PSs X a (tS C g)) (hb : PSs X b (tS C h)) : PS X (.If c a b pos) (tS C (ifF f g h)) :=
  ⟨fun pins s σ H E I q => (ps_if hc ha hb).run pins s σ H E I (tS_if q)⟩

/-! ### stores to names -/
theorem Rel.set {i : Nat} {v : V} {d : D} (R : C.Rel ow τ t σ H) (h : Den Z (C.Hid ow) H v d) : C.Rel (drop ow (i + 1)) (τ.set i (.v d)) t (σ.set i (some v)) H where
  on := R.on
  hid := R.hid
  hidT := R.hidT
  grow := R.grow
  len := by rw [List.length_set, List.length_set]; exact R.len
  slot := fun j s q => by
    by_cases e : j = i
    · subst e
      have hl : j < τ.length := by
        have := (List.getElem?_eq_some_iff.mp q).1
        rwa [List.length_set] at this
      rw [List.getElem?_set_self hl] at q
      cases q
      exact ⟨v, List.getElem?_set_self (by rw [← R.len]; exact hl), h.ext ext_drop⟩
    · rw [List.getElem?_set_ne (Ne.symm e)] at q
      have := (R.slot j s q).ext (ow' := drop ow (i + 1)) (ext_drop (i := i + 1)) fun a h => ⟨by rw [drop_ne (by omega)]; exact h, rfl⟩
      cases s with
      | no => trivial
      | v d => 
        obtain ⟨v', e1, e2⟩ := this
        exact ⟨v', by rw [List.getElem?_set_ne (Ne.symm e)]; exact e1, e2⟩
      | o d =>
        obtain ⟨a, o, e1, e2, e3, c⟩ := this
        exact ⟨a, o, e1, by rw [List.getElem?_set_ne (Ne.symm e)]; exact e2, e3, c⟩
  inj := fun i j a h1 h2 => R.inj i j a (drop_some h1).1 (drop_some h2).1
  new := fun i a h => R.new i a (drop_some h).1
theorem Rel.setOwn {i : Nat} {a : Addr} {o : HO} {d : D} (R : C.Rel ow τ t σ H) (h0 : ow 0 = some a) (e : H a = some o) (c : Cont Z (C.Hid ow) H o d) : C.Rel (move ow 0 (i + 1)) (τ.set i (.o d)) t (σ.set i (some (.ref a))) H where
  on := R.on
  hid := R.hid
  hidT := R.hidT
  grow := R.grow
  len := by rw [List.length_set, List.length_set]; exact R.len
  slot := fun j s q => by
    by_cases e2 : j = i
    · subst e2
      have hl : j < τ.length := by
        have := (List.getElem?_eq_some_iff.mp q).1
        rwa [List.length_set] at this
      rw [List.getElem?_set_self hl] at q
      cases q
      refine ⟨a, o, ?_, List.getElem?_set_self (by rw [← R.len]; exact hl), e, c.ext ext_move⟩
      unfold move
      rw [if_pos rfl]
      exact h0
    · rw [List.getElem?_set_ne (Ne.symm e2)] at q
      have := (R.slot j s q).ext (ow' := move ow 0 (i + 1)) (ext_move (i := 0) (j := i + 1)) fun a h => ⟨by
        unfold move
        rw [if_neg (by omega), if_neg (by omega)]
        exact h, rfl⟩
      cases s with
      | no => trivial
      | v d => 
        obtain ⟨v', e1, e3⟩ := this
        exact ⟨v', by rw [List.getElem?_set_ne (Ne.symm e2)]; exact e1, e3⟩
      | o d =>
        obtain ⟨a, o, e1, e3, e4, c⟩ := this
        exact ⟨a, o, e1, by rw [List.getElem?_set_ne (Ne.symm e2)]; exact e3, e4, c⟩
  inj := move_inj (by omega) R.inj
  new := fun k b h => by
    rcases move_some h with ⟨_, e⟩ | ⟨_, _, e⟩
    · exact R.new _ b e
    · exact R.new _ b e
theorem drop_zero {i : Nat} (h : ow 0 = none) : drop ow (i + 1) 0 = none := by rw [drop_ne (by omega)]; exact h
theorem Rel.store {i : Nat} {v : V} {r : Res} {τ' : List Sl} (R : C.Rel ow τ t σ H) (h : ResOk C ow τ σ H v r) (e : storeAt i τ r = some τ') :
    ∃ ow', C.Rel ow' τ' t (σ.set i (some v)) H ∧ ow' 0 = none ∧ Ext (C.Hid ow) H (C.Hid ow') H := by
  have go : ∀ r : Res, ResOk C ow τ σ H v r → (match give τ r with | none => none | some (d, τ1) => some (τ1.set i (.v d))) = some τ' → ∃ ow', C.Rel ow' τ' t (σ.set i (some v)) H ∧ ow' 0 = none ∧ Ext (C.Hid ow) H (C.Hid ow') H := fun r h e => by
    split at e
    · cases e
    · rename_i d τ1 p
      cases e
      obtain ⟨ow1, R1, z1, d1, x1⟩ := h.give R p
      exact ⟨_, R1.set d1, drop_zero z1, x1.trans ext_drop⟩
  cases r with
  | d d => exact go _ h e
  | s j => exact go _ h e
  | f d =>
    cases e
    obtain ⟨a, o, h1, rfl, h3, c⟩ := h
    refine ⟨_, R.setOwn h1 h3 c, ?_, ext_move⟩
    unfold move
    rw [if_neg (by omega), if_pos rfl]
theorem tS_set {i : Nat} {f : EF Z.T} (h : tS C (setF i f) E σ H) : tAsg (tF C f) (gName i) E σ H :=
  tF_mono (tS_bind h) fun v H1 ⟨ow1, τ1, t1, r, R1, r1, k⟩ => by
    obtain ⟨o, s', e, k⟩ := k
    simp only at e
    split at e
    · cases e
    · rename_i τ2 p
      cases e
      obtain ⟨ow2, R2, z2, x2⟩ := R1.store r1 p
      exact k ow2 _ H1 R2 z2 x2
theorem sv_set {i : Nat} {x : Str} {e : Expr} {f : EF Z.T} {pos pos' : Pos} (hN : X.N.Nodup) (hi : X.N[i]? = some x) (hx : Loc X.env.scope x) (he : PE X e (tF C f)) (hs : swapsWith e (some (.Name x pos')) pos.line X.env = pure false := by rfl)
    (hf : X.fn x = true ∨ X.env.scope.names.lookup x = some .local := by first | exact .inl rfl | exact .inr rfl) : PS X (.Assign [.Name x pos'] e pos) (tS C (setF i f)) :=
  ⟨fun pins s σ H E I h => (ps_set hN hi hx he hs hf).run pins s σ H E I (tS_set h)⟩
end
end FD

/-! F7: targets, loops, comprehensions. -/
namespace FD
open PySem PySem.Spec PyProof.Rows L2

/-! ### targets -/
abbrev GF := D → List Sl → Option (List Sl)
abbrev GFs := List D → List Sl → Option (List Sl)
/-- slots outside S are as they were -/
def Off (S : List Nat) (σ σ' : L2.St) : Prop := σ'.length = σ.length ∧ ∀ j, j ∉ S → σ'[j]? = σ[j]?
theorem Off.refl {S : List Nat} {σ : L2.St} : Off S σ σ := ⟨rfl, fun _ _ => rfl⟩
theorem Off.trans {S : List Nat} {σ σ' σ'' : L2.St} (a : Off S σ σ') (b : Off S σ' σ'') : Off S σ σ'' := ⟨b.1.trans a.1, fun j h => (b.2 j h).trans (a.2 j h)⟩
def tG {Z : Wd} (C : Fx Z) (S : List Nat) (g : GF) : TG := fun v σ H Q => ∃ ow τ t d τ', C.Rel ow τ t σ H ∧ ow 0 = none ∧ Den Z (C.Hid ow) H v d ∧ g d τ = some τ' ∧
  ∀ ow' σ', C.Rel ow' τ' t σ' H → ow' 0 = none → Ext (C.Hid ow) H (C.Hid ow') H → Off S σ σ' → Q σ' H
def tGs {Z : Wd} (C : Fx Z) (S : List Nat) (g : GFs) : TGs := fun vs σ H Q => ∃ ow τ t ds τ', C.Rel ow τ t σ H ∧ ow 0 = none ∧ DenA Z (C.Hid ow) H vs ds ∧ g ds τ = some τ' ∧
  ∀ ow' σ', C.Rel ow' τ' t σ' H → ow' 0 = none → Ext (C.Hid ow) H (C.Hid ow') H → Off S σ σ' → Q σ' H
def nameG (i : Nat) : GF := fun d τ => some (τ.set i (.v d))
def nilG : GFs := fun ds τ => match ds with
  | [] => some τ
  | _ => none
def consG (g : GF) (h : GFs) : GFs := fun ds τ => match ds with
  | [] => none
  | d :: ds => match g d τ with
    | none => none
    | some τ1 => h ds τ1
def tupG (n : Nat) (h : GFs) : GF := fun d τ => match d with
  | .tup ds => if ds.length = n then h ds τ else none
  | _ => none
section
variable {Z : Wd} {C : Fx Z} {X : Cx} {ow : Nat → Option Addr} {τ : List Sl} {t : Z.T} {σ : L2.St} {H H' : Hp} {S : List Nat}
theorem off_set {i : Nat} {v : Option V} (h : i ∈ S) : Off S σ (σ.set i v) := ⟨List.length_set, fun j hj => List.getElem?_set_ne (fun e => hj (by rw [← e]; exact h))⟩
theorem gv_name {i : Nat} {x : Str} {pos : Pos} (hN : X.N.Nodup) (hi : X.N[i]? = some x) (hx : Loc X.env.scope x) (hf : X.fn x = true ∨ X.env.scope.names.lookup x = some .local := by first | exact .inl rfl | exact .inr rfl) (hS : i ∈ S := by decide) :
    PG X (.Name x pos) (tG C S (nameG i)) := ⟨fun pins s σ H v u Q I r h => (pg_name hN hi hx hf).run pins s σ H v u Q I r (by
  obtain ⟨ow, τ, t, d, τ', R, z, dn, e, k⟩ := h
  cases e
  exact k _ _ (R.set dn) (drop_zero z) ext_drop (off_set hS))⟩
theorem gv_nil : PGs X [] (tGs C S nilG) := ⟨fun pins s σ H v u Q I r h => pgs_nil.run pins s σ H v u Q I r (by
  obtain ⟨ow, τ, t, d, τ', R, z, dn, e, k⟩ := h
  cases dn with
  | nil =>
    cases e
    exact ⟨rfl, k _ _ R z .refl .refl⟩
  | cons _ _ => cases e)⟩
theorem gv_cons {e : Expr} {es : List Expr} {g : GF} {h : GFs} (h1 : PG X e (tG C S g)) (h2 : PGs X es (tGs C S h)) (hs : (assignEach (e :: es) X.env).map (·.2) = assign e X.env :: (assignEach es X.env).map (·.2) := by rfl) : PGs X (e :: es) (tGs C S (consG g h)) := ⟨fun pins s σ H v u Q I r q => (pgs_cons h1 h2 hs).run pins s σ H v u Q I r (by
  obtain ⟨ow, τ, t, d, τ', R, z, dn, e, k⟩ := q
  cases dn with
  | nil => cases e
  | cons d1 d2 =>
    unfold consG at e
    simp only at e
    split at e
    · cases e
    · rename_i τ1 p
      exact ⟨_, _, rfl, ow, τ, t, _, τ1, R, z, d1, p, fun ow1 σ1 R1 z1 x1 f1 => ⟨ow1, τ1, t, _, τ', R1, z1, d2.ext x1, e, fun ow2 σ2 R2 z2 x2 f2 => k ow2 σ2 R2 z2 (x1.trans x2) (f1.trans f2)⟩⟩)⟩
theorem gv_tup {es : List Expr} {k n : Nat} {h : GFs} {pos : Pos} (hc : X.calm = true) (q : PGs X es (tGs C S h)) (hn : (assignEach es X.env).length = n := by rfl) (hst : (assignEach es X.env).findIdx? (·.1) = none := by rfl) : PG X (.Tuple es k pos) (tG C S (tupG n h)) := ⟨fun pins s σ H v u Q I r w => (pg_tup (n := n) hc q hn hst).run pins s σ H v u Q I r (by
  obtain ⟨ow, τ, t, d, τ', R, z, dn, e, k⟩ := w
  unfold tupG at e
  split at e
  · split at e
    · rename_i hl
      obtain ⟨a, xs, rfl, h1, c, _⟩ := (Shows.den dn).tup
      exact ⟨a, xs, rfl, SqT.of h1, c.len.trans hl, ow, τ, t, _, τ', R, z, c, e, k⟩
    · cases e
  · cases e)⟩
end

/-! ### what is walked -/
inductive OutI where
  | ok (ds : List D) | ex (c : Str) (fs : List (Str × D))
abbrev IF (T : Type) := Sg T → Option (OutI × Sg T)
/-- a walk that gives the data ds -/
def Walks (Z : Wd) (O : Addr → Prop) (H : Hp) (J : It) (ds : List D) : Prop := ∃ (G : Hp → Prop) (Y : Nat → Hp → V → Hp → Prop), Walk J ds.length G Y ∧ (∀ O' H', Ext O H O' H' → G H') ∧
  ∀ i H1 x H2 O1, i < ds.length → Ext O H O1 H1 → (∀ p, H1 p = none → ¬ O1 p) → Y i H1 x H2 → ∃ d, ds[i]? = some d ∧ Grow H1 H2 ∧ Den Z O1 H2 x d
def FinI {Z : Wd} (C : Fx Z) (ow : Nat → Option Addr) (σ : L2.St) (H : Hp) (R : It → Hp → Prop) (s' : Sg Z.T) : OutI → Prop
  | .ok ds => ∀ ow' J H', C.Rel ow' s'.1 s'.2 σ H' → ow' 0 = none → Ext (C.Hid ow) H (C.Hid ow') H' → Walks Z (C.Hid ow') H' J ds → R J H'
  | .ex c fs => ∀ ow' d H', C.Rel ow' s'.1 s'.2 σ H' → ow' 0 = none → Ext (C.Hid ow) H (C.Hid ow') H' → ExOk Z (C.Hid ow') H' d fs → C.W (.ref (Z.ca c)) d σ H'
def tI {Z : Wd} (C : Fx Z) (f : IF Z.T) : TI := fun σ H R => ∃ ow τ t o s', C.Rel ow τ t σ H ∧ ow 0 = none ∧ f (τ, t) = some (o, s') ∧ FinI C ow σ H R s' o

/-- for .. in ..: the items one after the other -/
def forL {T : Type} (g : GF) (b : SF T) : List D → SF T
  | [] => nxF
  | d :: ds => fun s => match g d s.1 with
    | none => none
    | some τ => match b (τ, s.2) with
      | none => none
      | some (.nx, s1) => forL g b ds s1
      | some (.ct, s1) => forL g b ds s1
      | some (.bk, s1) => some (.nx, s1)
      | some (.rt r, s1) => some (.rt r, s1)
      | some (.ex c fs, s1) => some (.ex c fs, s1)
def forF {T : Type} (it : IF T) (g : GF) (b : SF T) : SF T := fun s => match it s with
  | none => none
  | some (.ex c fs, s1) => some (.ex c fs, s1)
  | some (.ok ds, s1) => forL g b ds s1
section
variable {Z : Wd} {C : Fx Z} {X : Cx} {ow ow1 : Nat → Option Addr} {τ : List Sl} {t : Z.T} {σ : L2.St} {H H1 H' : Hp} {S : List Nat} {E : Ends}
theorem Walks.ext {O O' : Addr → Prop} {J : It} {ds : List D} (w : Walks Z O H J ds) (x : Ext O H O' H') : Walks Z O' H' J ds := by
  obtain ⟨G, Y, w, g, y⟩ := w
  exact ⟨G, Y, w, fun O2 H2 x2 => g O2 H2 (x.trans x2), fun i H1 v H2 O1 hi x1 => y i H1 v H2 O1 hi (x.trans x1)⟩
theorem tS_for {it : IF Z.T} {g : GF} {b : SF Z.T} (h : tS C (forF it g b) E σ H) : tFor (tI C it) (tG C S g) (tS C b) E σ H := by
  obtain ⟨ow, τ, t, R, z, o, s', e, k⟩ := h
  unfold forF at e
  cases q : it (τ, t) with
  | none => rw [q] at e; cases e
  | some w =>
    obtain ⟨o1, s1⟩ := w
    rw [q] at e
    refine ⟨ow, τ, t, o1, s1, R, z, q, ?_⟩
    cases o1 with
    | ex c fs =>
      cases e
      exact fun ow' d H' R' z x e => k ow' σ d H' R' z x e
    | ok ds =>
      intro ow1 J H1 R1 z1 x1 w1
      simp only at e
      obtain ⟨G, Y, wk, hG, hY⟩ := w1
      refine for_it wk (fun i σ2 H2 => ∃ ow2 τ2 t2, C.Rel ow2 τ2 t2 σ2 H2 ∧ ow2 0 = none ∧ Ext (C.Hid ow1) H1 (C.Hid ow2) H2 ∧ KnS C (forL g b (ds.drop i)) ow2 τ2 t2 H2 { nx := E.nx, rt := E.rt, bk := fun _ _ => False, ct := fun _ _ => False }) ?_ ?_ ?_ ?_
      · refine ⟨ow1, s1.1, s1.2, R1, z1, .refl, o, s', e, ?_⟩
        have k1 := k.from x1
        -- a for of its own breaks nothing
        have noB : ∀ (ds : List D) (s : Sg Z.T) (o : SOut) (s' : Sg Z.T), forL g b ds s = some (o, s') → o ≠ .bk ∧ o ≠ .ct := by
          intro ds
          induction ds with
          | nil =>
            intro s o s' e
            cases e
            exact ⟨nofun, nofun⟩
          | cons d ds ih =>
            intro s o s' e
            unfold forL at e
            split at e
            · cases e
            · split at e
              · cases e
              · exact ih _ _ _ e
              · exact ih _ _ _ e
              · cases e
                exact ⟨nofun, nofun⟩
              · cases e
                exact ⟨nofun, nofun⟩
              · cases e
                exact ⟨nofun, nofun⟩
        have nb := noB _ _ _ _ e
        cases o with
        | nx => exact k1
        | rt r => exact k1
        | bk => exact absurd rfl nb.1
        | ct => exact absurd rfl nb.2
        | ex c fs => exact k1
      · rintro i σ2 H2 hi ⟨ow2, τ2, t2, R2, z2, x2, _⟩
        exact hG _ _ x2
      · rintro i x σ2 H2 H3 hi ⟨ow2, τ2, t2, R2, z2, x2, o2, s2, e2, k2⟩ y
        obtain ⟨d, hd, gr, dn⟩ := hY i H2 x H3 _ hi x2 (fun p hp => R2.nohid hp) y
        have hdr : ds.drop i = d :: ds.drop (i + 1) := by
          rw [List.drop_eq_getElem_cons hi]
          have : ds[i] = d := by
            have := List.getElem?_eq_getElem hi
            rw [hd] at this
            exact (Option.some.inj this).symm
          rw [this]
        rw [hdr] at e2
        unfold forL at e2
        simp only at e2
        split at e2
        · cases e2
        · rename_i τ3 p3
          refine ⟨ow2, τ2, t2, d, τ3, R2.grown gr, z2, dn, p3, fun ow3 σ3 R3 z3 x3 _ => ?_⟩
          have x23 := (gr.ext (O := C.Hid ow2)).trans x3
          split at e2
          · cases e2
          · rename_i s4 p4
            refine ⟨ow3, τ3, t2, R3, z3, .nx, s4, p4, fun ow4 σ4 H4 R4 z4 x4 => ?_⟩
            exact ⟨ow4, s4.1, s4.2, R4, z4, (x2.trans x23).trans x4, o2, s2, e2, k2.from (x23.trans x4)⟩
          · rename_i s4 p4
            refine ⟨ow3, τ3, t2, R3, z3, .ct, s4, p4, fun ow4 σ4 H4 R4 z4 x4 => ?_⟩
            exact ⟨ow4, s4.1, s4.2, R4, z4, (x2.trans x23).trans x4, o2, s2, e2, k2.from (x23.trans x4)⟩
          · rename_i s4 p4
            cases e2
            refine ⟨ow3, τ3, t2, R3, z3, .bk, _, p4, fun ow4 σ4 H4 R4 z4 x4 => ?_⟩
            exact k2 ow4 σ4 H4 R4 z4 (x23.trans x4)
          · rename_i r s4 p4
            cases e2
            exact ⟨ow3, τ3, t2, R3, z3, .rt r, _, p4, fun ow4 σ4 v H4 R4 r4 x4 => k2 ow4 σ4 v H4 R4 r4 (x23.trans x4)⟩
          · rename_i c fs s4 p4
            cases e2
            exact ⟨ow3, τ3, t2, R3, z3, .ex c fs, _, p4, fun ow4 σ4 d4 H4 R4 z4 x4 e4 => k2 ow4 σ4 d4 H4 R4 z4 (x23.trans x4) e4⟩
      · rintro σ2 H2 ⟨ow2, τ2, t2, R2, z2, x2, o2, s2, e2, k2⟩
        rw [List.drop_length] at e2
        cases e2
        exact k2 ow2 σ2 H2 R2 z2 .refl
theorem sv_for {tg iter : Expr} {body : List Stmt} {pos : Pos} {it : IF Z.T} {g : GF} {b : SF Z.T} (hp : PassesOwn (model X.prog X.w) X.A X.env X.xe) (hc : X.calm = true) (hi : PI X tg iter (tI C it)) (hg : PG X tg (tG C S g)) (hb : PSs X body (tS C b))
    (hs : ∀ x, foldedSetIterable iter X.env x = pure x := by intro _; rfl) : PS X (.For tg iter body [] pos) (tS C (forF it g b)) :=
  ⟨fun pins s σ H E I h => (ps_for hp hc hi hg hb hs).run pins s σ H E I (tS_for h)⟩
end
end FD

/-! F8: changes of own objects, comprehensions. -/
namespace FD
open PySem PySem.Spec PyProof.Rows L2

section
variable {Z : Wd} {C : Fx Z} {X : Cx} {ow ow1 : Nat → Option Addr} {τ : List Sl} {t : Z.T} {σ : L2.St} {H H1 H' : Hp}
theorem Rel.own_ne (R : C.Rel ow τ t σ H) {j : Nat} {a : Addr} (e : ow j = some a) : ¬ C.O a := fun h => by
  obtain ⟨o, h1, _⟩ := R.hidT a h
  rw [(R.new j a e).1] at h1
  cases h1
theorem ext_upd {O : Addr → Prop} {a : Addr} {o : HO} (h : O a) : Ext O H O (upd H a o) := ⟨fun b u e n => by
  rw [upd_ne (fun z => n (by rw [z]; exact h))]
  exact e, fun _ q => .inl q⟩
/-- an own object that is in no slot changes -/
theorem Rel.mutK (R : C.Rel ow τ t σ H) {j : Nat} {a : Addr} {o : HO} (e : ow j = some a) (hj : τ.length < j) (n : ∀ xs, o ≠ .tup xs) : C.Rel ow τ t σ (upd H a o) where
  on := Z.loc t H _ R.on fun b u hb q => by
    rw [upd_ne (fun z => R.own_ne e (by rw [← z]; exact R.hid b hb))]
    exact q
  hid := R.hid
  hidT := R.hidT
  grow := fun b u q nb => by
    rw [upd_ne (fun z => by rw [z, (R.new j a e).1] at q; cases q)]
    exact R.grow b u q nb
  len := R.len
  slot := fun i s q => (R.slot i s q).ext (ext_upd (.inr ⟨j, e⟩)) fun b h => ⟨h, upd_ne fun z => by
    have := R.inj (i + 1) j a (by rw [← z]; exact h) e
    have := (List.getElem?_eq_some_iff.mp q).1
    omega⟩
  inj := R.inj
  new := fun i b h => by
    obtain ⟨h1, u, h2, m⟩ := R.new i b h
    refine ⟨h1, ?_⟩
    by_cases z : b = a
    · rw [z]; exact ⟨o, upd_same, n⟩
    · exact ⟨u, by rw [upd_ne z]; exact h2, m⟩
/-- slot i's own object changes -/
theorem Rel.mutS (R : C.Rel ow τ t σ H) {i : Nat} {a : Addr} {o : HO} {d d' : D} (e : ow (i + 1) = some a) (hs : τ[i]? = some (.o d)) (n : ∀ xs, o ≠ .tup xs) (c : Cont Z (C.Hid ow) H o d') : C.Rel ow (τ.set i (.o d')) t σ (upd H a o) where
  on := Z.loc t H _ R.on fun b u hb q => by
    rw [upd_ne (fun z => R.own_ne e (by rw [← z]; exact R.hid b hb))]
    exact q
  hid := R.hid
  hidT := R.hidT
  grow := fun b u q nb => by
    rw [upd_ne (fun z => by rw [z, (R.new _ a e).1] at q; cases q)]
    exact R.grow b u q nb
  len := by rw [List.length_set]; exact R.len
  slot := fun k s q => by
    by_cases z : k = i
    · subst z
      rw [List.getElem?_set_self (List.getElem?_eq_some_iff.mp hs).1] at q
      cases q
      obtain ⟨b, u, e1, e2, e3, _⟩ := R.slot k _ hs
      rw [e] at e1
      cases e1
      exact ⟨a, o, e, e2, upd_same, c.ext (ext_upd (.inr ⟨_, e⟩))⟩
    · rw [List.getElem?_set_ne (Ne.symm z)] at q
      exact (R.slot k s q).ext (ext_upd (.inr ⟨_, e⟩)) fun b h => ⟨h, upd_ne fun y => z (by
        have := R.inj (k + 1) (i + 1) a (by rw [← y]; exact h) e
        omega)⟩
  inj := R.inj
  new := fun i b h => by
    obtain ⟨h1, u, h2, m⟩ := R.new i b h
    refine ⟨h1, ?_⟩
    by_cases z : b = a
    · rw [z]; exact ⟨o, upd_same, n⟩
    · exact ⟨u, by rw [upd_ne z]; exact h2, m⟩
/-- a new object is laid and parked at an index that no slot has -/
theorem Rel.park {p : Addr} {o : HO} {K : Nat} (R : C.Rel ow τ t σ H) (hK : τ.length < K) (h : H p = none) (hn : ∀ xs, o ≠ .tup xs) : C.Rel (put ow K p) τ t σ (upd H p o) where
  on := Z.loc t H _ R.on fun a u _ e => Grow.new h a u e
  hid := R.hid
  hidT := R.hidT
  grow := fun a u e n => Grow.new h a u (R.grow a u e n)
  len := R.len
  slot := fun i s e => (R.slot i s e).ext (ext_put h) fun a q => ⟨by
    have := (List.getElem?_eq_some_iff.mp e).1
    rw [put_ne (by omega)]; exact q, by
    obtain ⟨_, u, e, _⟩ := R.new _ a q
    rw [e]
    exact Grow.new h a u e⟩
  inj := fun i j a h1 h2 => by
    have old : ∀ i a, ow i = some a → a ≠ p := fun i a q z => by
      obtain ⟨_, u, e, _⟩ := R.new i a q
      rw [z, h] at e
      cases e
    rcases put_some h1 with ⟨e1, e2⟩ | ⟨_, e2⟩
    · rcases put_some h2 with ⟨e3, _⟩ | ⟨_, e4⟩
      · rw [e1, e3]
      · exact absurd e2 (old j a e4)
    · rcases put_some h2 with ⟨_, e3⟩ | ⟨_, e4⟩
      · exact absurd e3 (old i a e2)
      · exact R.inj i j a e2 e4
  new := fun i a q => by
    rcases put_some q with ⟨_, e⟩ | ⟨_, e⟩
    · subst e
      refine ⟨?_, o, upd_same, hn⟩
      cases z : C.H a with
      | none => rfl
      | some u =>
        by_cases g : Z.hid a
        · obtain ⟨u', e', _⟩ := Z.trk t H a R.on g
          rw [h] at e'
          cases e'
        · have := R.grow a u z g
          rw [h] at this
          cases this
    · obtain ⟨h1, u, e2, n⟩ := R.new i a e
      exact ⟨h1, u, Grow.new h a u e2, n⟩
/-- what was parked is pending -/
theorem Rel.unpark {K : Nat} (R : C.Rel ow τ t σ H) (hK : τ.length < K) : C.Rel (move ow K 0) τ t σ H where
  on := R.on
  hid := R.hid
  hidT := R.hidT
  grow := R.grow
  len := R.len
  slot := fun i s e => (R.slot i s e).ext ext_move fun a q => ⟨by
    have := (List.getElem?_eq_some_iff.mp e).1
    unfold move
    rw [if_neg (by omega), if_neg (by omega)]
    exact q, rfl⟩
  inj := move_inj (by omega) R.inj
  new := fun k b h => by
    rcases move_some h with ⟨_, e⟩ | ⟨_, _, e⟩
    · exact R.new _ b e
    · exact R.new _ b e
end

/-! ### readings whose frame is open -/
def dead : WX := fun _ _ _ _ => False
def tFx (Z : Wd) (f : EF Z.T) : TE := fun σ H Q => ∃ C : Fx Z, C.W = dead ∧ tF C f σ H Q
def tTx (Z : Wd) (f : EF Z.T) : TT := fun σ H Q => ∃ C : Fx Z, C.W = dead ∧ tT C f σ H Q
def tGx (Z : Wd) (S : List Nat) (g : GF) : TG := fun v σ H Q => ∃ C : Fx Z, C.W = dead ∧ tG C S g v σ H Q
def tIx (Z : Wd) (f : IF Z.T) : TI := fun σ H R => ∃ C : Fx Z, C.W = dead ∧ tI C f σ H R
section
variable {Z : Wd} {X : Cx} {e : Expr}
theorem ex_F {f : EF Z.T} (h : ∀ C : Fx Z, C.W = dead → PE X e (tF C f)) : PE X e (tFx Z f) := ⟨fun pins s σ H Q I ⟨C, w, q⟩ => (h C w).run pins s σ H Q I q⟩
theorem ex_T {f : EF Z.T} (h : ∀ C : Fx Z, C.W = dead → PT X e (tT C f)) : PT X e (tTx Z f) := ⟨fun pins s σ H Q I ⟨C, w, q⟩ => (h C w).run pins s σ H Q I q⟩
theorem ex_G {S : List Nat} {g : GF} (h : ∀ C : Fx Z, C.W = dead → PG X e (tG C S g)) : PG X e (tGx Z S g) := ⟨fun pins s σ H v u Q I r ⟨C, w, q⟩ => (h C w).run pins s σ H v u Q I r q⟩
theorem ex_I {tg : Expr} {f : IF Z.T} (h : ∀ C : Fx Z, C.W = dead → PI X tg e (tI C f)) : PI X tg e (tIx Z f) := ⟨fun pins s σ H R I ⟨C, w, q⟩ => (h C w).run pins s σ H R I q⟩
def yesF {T : Type} : EF T := conF (.bl true)
theorem ex_yes : PTs X [] (tTx Z yesF) := ⟨fun pins s σ H Q I ⟨C, w, q⟩ => pts_nil.run pins s σ H Q I (con_tT q)⟩
theorem ex_one {f : EF Z.T} (h : ∀ C : Fx Z, C.W = dead → PT X e (tT C f)) : PTs X [e] (tTx Z f) := pts_one (ex_T h)
end

/-! ### comprehensions -/
def unown : Sl → Sl
  | .o _ => .no
  | s => s
/-- what a block sees: neither its own names nor own objects -/
def hideFrom (vs : List Nat) : Nat → List Sl → List Sl
  | _, [] => []
  | i, s :: r => (if i ∈ vs then .no else unown s) :: hideFrom vs (i + 1) r
theorem hideFrom_get {vs : List Nat} : ∀ {τ : List Sl} {k i : Nat}, (hideFrom vs k τ)[i]? = (τ[i]?).map fun s => if k + i ∈ vs then .no else unown s
  | [], _, _ => by simp [hideFrom]
  | s :: r, k, 0 => by simp [hideFrom]
  | s :: r, k, i + 1 => by
    simp only [hideFrom, List.getElem?_cons_succ]
    rw [hideFrom_get (τ := r)]
    have : k + 1 + i = k + (i + 1) := by omega
    rw [this]
theorem hideFrom_len {vs : List Nat} : ∀ {τ : List Sl} {k : Nat}, (hideFrom vs k τ).length = τ.length
  | [], _ => rfl
  | s :: r, k => by simp only [hideFrom, List.length_cons, hideFrom_len (τ := r)]
def shareAll : List Nat → List Sl → List Sl
  | [], τ => τ
  | i :: is, τ => shareAll is (match τ[i]? with
    | some (.o d) => τ.set i (.v d)
    | _ => τ)
def lcL {T : Type} (g : GF) (c e : EF T) (τ0 : List Sl) : List D → T → Option (List D × T)
  | [], t => some ([], t)
  | d :: ds, t => match g d τ0 with
    | none => none
    | some τ1 => match c (τ1, t) with
      | some (.ok r, s2) => match peek s2.1 (hold r) with
        | some (.bl true) => match e s2 with
          | some (.ok r3, s3) => match give s3.1 r3 with
            | some (dv, _) => match lcL g c e τ0 ds s3.2 with
              | some (rest, t') => some (dv :: rest, t')
              | none => none
            | none => none
          | _ => none
        | some (.bl false) => lcL g c e τ0 ds s2.2
        | _ => none
      | _ => none
def lcF {T : Type} (sh vs : List Nat) (it : IF T) (g : GF) (c e : EF T) : EF T := fun s => match it s with
  | none => none
  | some (.ex k fs, s1) => some (.ex k fs, s1)
  | some (.ok ds, s1) => if ds.length ≤ LEN then match lcL g c e (hideFrom vs 0 (shareAll sh s1.1)) ds s1.2 with
      | none => none
      | some (out, t) => some (.ok (.f (.lst out)), (shareAll sh s1.1, t))
    else none
section
variable {Z : Wd} {C : Fx Z} {X : Cx} {ow ow1 : Nat → Option Addr} {τ : List Sl} {t : Z.T} {σ : L2.St} {H H1 H' : Hp}
theorem Rel.shareAll : ∀ {sh : List Nat} {ow : Nat → Option Addr} {τ : List Sl}, C.Rel ow τ t σ H → ow 0 = none → ∃ ow', C.Rel ow' (FD.shareAll sh τ) t σ H ∧ ow' 0 = none ∧ Ext (C.Hid ow) H (C.Hid ow') H
  | [], ow, _, R, z => ⟨ow, R, z, .refl⟩
  | i :: is, ow, τ, R, z => by
    unfold FD.shareAll
    split
    · rename_i d p
      obtain ⟨ow', R', z', x⟩ := Rel.shareAll (sh := is) (R.share p) (drop_zero z)
      exact ⟨ow', R', z', ext_drop.trans x⟩
    · exact Rel.shareAll R z
theorem shareAll_len : ∀ {sh : List Nat} {τ : List Sl}, (FD.shareAll sh τ).length = τ.length
  | [], _ => rfl
  | i :: is, τ => by
    unfold FD.shareAll
    rw [shareAll_len (sh := is)]
    split
    · rw [List.length_set]
    · rfl
theorem wipe_off {S vs : List Nat} {σ σ' : L2.St} (h : Off S (wipe σ vs) σ') (k : ∀ i ∈ S, i ∈ vs) : wipe σ' vs = wipe σ vs := by
  have get : ∀ (vs : List Nat) (σ : L2.St) (i : Nat), (wipe σ vs)[i]? = if i ∈ vs then (σ[i]?).map (fun _ => none) else σ[i]? := by
    intro vs
    induction vs with
    | nil => intro σ i; simp [wipe]
    | cons v vs ih =>
      intro σ i
      unfold wipe
      by_cases e : i = v
      · subst e
        rw [if_pos (by simp)]
        by_cases hl : i < (wipe σ vs).length
        · rw [List.getElem?_set_self hl]
          rw [wipe_length] at hl
          rw [List.getElem?_eq_getElem hl]
          rfl
        · rw [List.getElem?_eq_none (by simpa using hl)]
          rw [wipe_length] at hl
          rw [List.getElem?_eq_none (by omega)]
          rfl
      · rw [List.getElem?_set_ne (Ne.symm e), ih]
        by_cases m : i ∈ vs
        · rw [if_pos m, if_pos (by simp [m])]
        · rw [if_neg m, if_neg (by simp [m, e])]
  apply List.ext_getElem?
  intro i
  rw [get, get]
  have hl : σ'.length = σ.length := by
    have := h.1
    rw [wipe_length] at this
    exact this
  by_cases m : i ∈ vs
  · rw [if_pos m, if_pos m]
    by_cases q : i < σ.length
    · rw [List.getElem?_eq_getElem q, List.getElem?_eq_getElem (by omega)]
      rfl
    · rw [List.getElem?_eq_none (by omega), List.getElem?_eq_none (by omega)]
  · rw [if_neg m, if_neg m, h.2 i (fun z => m (k i z)), get, if_neg m]
/-- the frame of a block: all that is hidden or own is the callers' -/
def blkFx {Z : Wd} (O : Addr → Prop) (H : Hp) : Fx Z := ⟨O, H, dead⟩
theorem Rel.block {vs : List Nat} (R : C.Rel ow τ t σ H) : (blkFx (Z := Z) (C.Hid ow) H).Rel (fun _ => none) (hideFrom vs 0 τ) t (wipe σ vs) H where
  on := R.on
  hid := fun a h => .inl (R.hid a h)
  hidT := fun a h => R.track h
  grow := fun a o e _ => e
  len := by rw [hideFrom_len, wipe_length]; exact R.len
  slot := fun i s e => by
    rw [hideFrom_get, Option.map_eq_some_iff] at e
    obtain ⟨s0, e0, e⟩ := e
    rw [Nat.zero_add] at e
    split at e
    · subst e
      trivial
    · rename_i m
      have q := R.slot i s0 e0
      cases s0 with
      | no => subst e; trivial
      | o d => subst e; trivial
      | v d =>
        subst e
        obtain ⟨v, e1, q⟩ := q
        refine ⟨v, ?_, q.mono fun a o h n => ⟨h, fun z => n (z.elim id fun ⟨_, z⟩ => by cases z)⟩⟩
        have get : ∀ (vs : List Nat), i ∉ vs → (wipe σ vs)[i]? = σ[i]? := by
          intro vs
          induction vs with
          | nil => intro _; rfl
          | cons v vs ih =>
            intro h
            simp only [List.mem_cons, not_or] at h
            unfold wipe
            rw [List.getElem?_set_ne (Ne.symm h.1)]
            exact ih h.2
        rw [get vs m]
        exact e1
  inj := fun _ _ _ e => by cases e
  new := fun _ _ e => by cases e
theorem hid_blk {O : Addr → Prop} {H : Hp} {a : Addr} : (blkFx (Z := Z) O H).Hid (fun _ => none) a ↔ O a := Iff.intro (fun h => h.elim id (fun ⟨_, z⟩ => nomatch z)) (fun h => .inl h)
/-- behind a block's turn: the outer frame -/
theorem Rel.behind {ow2 : Nat → Option Addr} {τ2 : List Sl} {t2 : Z.T} {σ2 : L2.St} {H2 : Hp} (R : C.Rel ow τ t σ H) (R2 : (blkFx (Z := Z) (C.Hid ow) H).Rel ow2 τ2 t2 σ2 H2) : C.Rel ow τ t2 σ H2 where
  on := R2.on
  hid := R.hid
  hidT := R.hidT
  grow := fun a o e n => R2.grow a o (R.grow a o e n) n
  len := R.len
  slot := fun i s e => (R.slot i s e).ext ⟨fun a o e n => R2.grow a o e fun z => n (.inl (R.hid a z)), fun _ h => .inl h⟩ fun a h => ⟨h, by
    obtain ⟨_, o, e1, _⟩ := R.new _ a h
    exact (R2.grow a o e1 fun z => R.own_ne h (R.hid a z)).trans e1.symm⟩
  inj := R.inj
  new := fun i a h => by
    obtain ⟨h1, o, e1, n⟩ := R.new i a h
    exact ⟨h1, o, R2.grow a o e1 fun z => R.own_ne h (R.hid a z), n⟩
theorem ext_behind {ow2 : Nat → Option Addr} {τ2 : List Sl} {t2 : Z.T} {σ2 : L2.St} {H2 : Hp} (R : C.Rel ow τ t σ H) (R2 : (blkFx (Z := Z) (C.Hid ow) H).Rel ow2 τ2 t2 σ2 H2) : Ext (C.Hid ow) H (C.Hid ow) H2 :=
  ⟨fun a o e n => R2.grow a o e fun z => n (.inl (R.hid a z)), fun _ h => .inl h⟩
theorem lcL_len {T : Type} {g : GF} {c e : EF T} {τ0 : List Sl} : ∀ {ds : List D} {t t' : T} {out : List D}, lcL g c e τ0 ds t = some (out, t') → out.length ≤ ds.length
  | [], _, _, _, h => by cases h; exact Nat.le_refl _
  | d :: ds, t, t', out, h => by
    unfold lcL at h
    split at h
    · cases h
    · split at h
      · split at h
        · split at h
          · split at h
            · split at h
              · rename_i p
                cases h
                have := lcL_len p
                simp only [List.length_cons]
                omega
              · cases h
            · cases h
          · cases h
        · have := lcL_len h
          simp only [List.length_cons]
          omega
        · cases h
      · cases h
theorem line_len {n : Nat} (h : n < LEN) : n < sizeLine := Nat.lt_of_lt_of_le h (by decide)
theorem tF_lc {S sh vs : List Nat} {it : IF Z.T} {g : GF} {c e : EF Z.T} {Q : VK} (hS : ∀ i ∈ S, i ∈ vs) (h : tF C (lcF sh vs it g c e) σ H Q) : tLc (tI C it) (tGx Z S g) (tTx Z c) (tFx Z e) vs σ H Q := by
  obtain ⟨ow, τ, t, o, s', R, z, e, k⟩ := h
  unfold lcF at e
  cases q : it (τ, t) with
  | none => rw [q] at e; cases e
  | some w =>
    obtain ⟨o1, s1⟩ := w
    rw [q] at e
    refine ⟨ow, τ, t, o1, s1, R, z, q, ?_⟩
    cases o1 with
    | ex c fs =>
      cases e
      exact k
    | ok ds =>
      intro ow0 J H0 R0 z0 x0 w0
      simp only at e
      split at e
      · rename_i hlen
        split at e
        · cases e
        · rename_i out tout p
          cases e
          obtain ⟨ow1, R1, z1, x1⟩ := R0.shareAll (sh := sh) z0
          have w1 := w0.ext x1
          have x01 := x0.trans x1
          intro Dl hD
          have hK : (FD.shareAll sh s1.1).length < s1.1.length + 1 := by rw [shareAll_len]; omega
          obtain ⟨G, Y, wk, hG, hY⟩ := w1
          refine lc_it wk (fun i H2 => ∃ t2 ds2 acc dacc, C.Rel (put ow1 (s1.1.length + 1) Dl) (FD.shareAll sh s1.1) t2 σ H2 ∧ Ext (C.Hid ow1) H0 (C.Hid (put ow1 (s1.1.length + 1) Dl)) H2 ∧ H2 Dl = some (.lst acc) ∧
            DenA Z (C.Hid (put ow1 (s1.1.length + 1) Dl)) H2 acc dacc ∧ dacc.length ≤ i ∧ lcL g c e (hideFrom vs 0 (FD.shareAll sh s1.1)) (ds.drop i) t2 = some (ds2, tout) ∧ dacc ++ ds2 = out) ?_ ?_ ?_ ?_
          · exact ⟨s1.2, out, [], [], R1.park hK hD (fun _ q => nomatch q), ext_put hD, upd_same, .nil, Nat.le_refl _, p, rfl⟩
          · rintro i H2 hi ⟨t2, ds2, acc, dacc, R2, x2, _⟩
            exact hG _ _ x2
          · rintro i x H2 H3 hi ⟨t2, ds2, acc, dacc, R2, x2, hacc, dn, hl, e2, eo⟩ y
            obtain ⟨d, hd, gr, dnx⟩ := hY i H2 x H3 _ hi x2 (fun p hp => R2.nohid hp) y
            have hdr : ds.drop i = d :: ds.drop (i + 1) := by
              rw [List.drop_eq_getElem_cons hi]
              have : ds[i] = d := by
                have := List.getElem?_eq_getElem hi
                rw [hd] at this
                exact (Option.some.inj this).symm
              rw [this]
            rw [hdr] at e2
            unfold lcL at e2
            split at e2
            · cases e2
            · rename_i τ1 p1
              have R3 := R2.grown gr
              have x23 : Ext (C.Hid (put ow1 (s1.1.length + 1) Dl)) H2 (C.Hid (put ow1 (s1.1.length + 1) Dl)) H3 := gr.ext
              have B := R3.block (vs := vs)
              refine ⟨blkFx (C.Hid (put ow1 (s1.1.length + 1) Dl)) H3, rfl, fun _ => none, _, t2, d, τ1, B, rfl, dnx.mono fun a o h n => ⟨h, fun z => n (hid_blk.mp z)⟩, p1, fun ow4 σ4 R4 z4 x4 f4 => ⟨wipe_off f4 hS, ?_⟩⟩
              split at e2
              · rename_i r s2 p2
                -- the heap behind the test or the element: the outer frame
                have own : put ow1 (s1.1.length + 1) Dl (s1.1.length + 1) = some Dl := put_same
                have keepD : ∀ {ow5 : Nat → Option Addr} {τ5 : List Sl} {t5 : Z.T} {σ5 : L2.St} {H5 : Hp}, (blkFx (Z := Z) (C.Hid (put ow1 (s1.1.length + 1) Dl)) H3).Rel ow5 τ5 t5 σ5 H5 → H5 Dl = some (.lst acc) := fun R5 => R5.grow Dl _ (gr _ _ hacc) fun z => R3.own_ne own (R3.hid _ z)
                split at e2
                · rename_i p3
                  refine ⟨blkFx (C.Hid (put ow1 (s1.1.length + 1) Dl)) H3, rfl, ow4, τ1, t2, R4, z4, _, _, p2, true, p3, fun ow5 H5 R5 z5 x5 => ?_⟩
                  dsimp only
                  rw [if_pos rfl]
                  split at e2
                  · rename_i r3 s3 p4
                    split at e2
                    · rename_i dv τv p5
                      split at e2
                      · rename_i rest tr p6
                        cases e2
                        refine ⟨blkFx (C.Hid (put ow1 (s1.1.length + 1) Dl)) H3, rfl, ow5, s2.1, s2.2, _, s3, R5, z5, p4, fun ow6 v H6 R6 r6 x6 => ?_⟩
                        obtain ⟨ow7, R7, z7, d7, x7⟩ := r6.give R6 p5
                        refine ⟨acc, keepD R7, ?_, ?_⟩
                        · have h1 := dn.len
                          refine line_len ?_
                          omega
                        · have RB := R3.behind R7
                          have xB := ext_behind R3 R7
                          have dv' : Den Z (C.Hid (put ow1 (s1.1.length + 1) Dl)) H6 v dv := d7.mono fun a o h n => ⟨h, fun z => n (.inl z)⟩
                          have u : Ext (C.Hid (put ow1 (s1.1.length + 1) Dl)) H6 (C.Hid (put ow1 (s1.1.length + 1) Dl)) (upd H6 Dl (.lst (acc ++ [v]))) := ext_upd (.inr ⟨_, own⟩)
                          refine ⟨s3.2, rest, acc ++ [v], dacc ++ [dv], RB.mutK own hK (fun _ q => nomatch q), ((x2.trans x23).trans xB).trans u, upd_same, (((dn.ext x23).ext xB).app (.one dv')).ext u, ?_, p6, ?_⟩
                          · rw [List.length_append]
                            simp only [List.length_cons, List.length_nil]
                            omega
                          · rw [← eo, List.append_assoc]
                            rfl
                      · cases e2
                    · cases e2
                  · cases e2
                · rename_i p3
                  refine ⟨blkFx (C.Hid (put ow1 (s1.1.length + 1) Dl)) H3, rfl, ow4, τ1, t2, R4, z4, _, _, p2, false, p3, fun ow5 H5 R5 z5 x5 => ?_⟩
                  dsimp only
                  rw [if_neg (by decide)]
                  have RB := R3.behind R5
                  have xB := ext_behind R3 R5
                  exact ⟨s2.2, ds2, acc, dacc, RB, (x2.trans x23).trans xB, keepD R5, (dn.ext x23).ext xB, by omega, e2, eo⟩
                · cases e2
              · cases e2
          · rintro H2 ⟨t2, ds2, acc, dacc, R2, x2, hacc, dn, hl, e2, eo⟩
            rw [List.drop_length] at e2
            cases e2
            rw [List.append_nil] at eo
            subst eo
            have own : put ow1 (s1.1.length + 1) Dl (s1.1.length + 1) = some Dl := put_same
            refine k (move (put ow1 (s1.1.length + 1) Dl) (s1.1.length + 1) 0) (.ref Dl) H2 (R2.unpark hK) ⟨Dl, .lst acc, ?_, rfl, hacc, (Cont.lst dn).ext ext_move⟩ ((x01.trans x2).trans ext_move)
            unfold move
            rw [if_pos rfl]
            exact own
      · cases e
theorem ev_lc {elt tg iter : Expr} {ifs : List Expr} {scope : Scope} {own : List (Str × Nat)} {pos : Pos} {S sh : List Nat} {it : IF Z.T} {g : GF} {c e : EF Z.T} (hc : X.calm = true) (hN : X.N.Nodup) (hi : PI X tg iter (tI C it)) (ok : BlkOk X.N X.env.scope scope own)
    (hg : ∀ (C : Fx Z), C.W = dead → ∀ (s : Shared) (H : Hp) (A : Addr) (cl : List (Str × Addr)) (fp : List Addr), PG (X.blk s H scope (compEnvC scope cl A X.env) fp) tg (tG C S g))
    (ht : ∀ (s : Shared) (H : Hp) (A : Addr) (cl : List (Str × Addr)) (fp : List Addr), PTs (X.blk s H scope (compEnvC scope cl A X.env) fp) ifs (tTx Z c))
    (he : ∀ (C : Fx Z), C.W = dead → ∀ (s : Shared) (H : Hp) (A : Addr) (cl : List (Str × Addr)) (fp : List Addr), PE (X.blk s H scope (compEnvC scope cl A X.env) fp) elt (tF C e))
    (hS : ∀ i ∈ S, i ∈ own.map (·.2) := by decide) (hs : ∀ x, foldedSetIterable iter X.env x = pure x := by intro _; rfl) : PE X (.ListComp elt [⟨tg, iter, ifs, 0⟩] scope pos) (tF C (lcF sh (own.map (·.2)) it g c e)) :=
  ⟨fun pins s σ H Q I h => (pe_lc hc hN hi ok (fun s H A cl fp => ex_G fun C w => hg C w s H A cl fp) ht (fun s H A cl fp => ex_F fun C w => he C w s H A cl fp) hs).run pins s σ H Q I (tF_lc hS h)⟩
end
end FD

/-! F9: what a for and a comprehension walk: lists, tuples, ranges, zip. -/
namespace FD
open PySem PySem.Spec PyProof.Rows L2

def itemsD : D → Option (List D)
  | .lst ds => some ds
  | .tup ds => some ds
  | _ => none
/-- the items of what f gives -/
def seqI {T : Type} (f : EF T) : IF T := fun s => match f s with
  | none => none
  | some (.ex c fs, s1) => some (.ex c fs, s1)
  | some (.ok r, s1) => match give s1.1 r with
    | none => none
    | some (d, τ) => match itemsD d with
      | none => none
      | some ds => some (.ok ds, (τ, s1.2))
/-- what is walked, by the arguments -/
def callI {T : Type} (op : List D → Option (List D)) (g : AF T) : IF T := fun s => match g s with
  | none => none
  | some (.ex c fs, s1) => some (.ex c fs, s1)
  | some (.ok rs, s1) => match giveAll s1.1 rs with
    | none => none
    | some (ds, τ) => match op ds with
      | none => none
      | some out => some (.ok out, (τ, s1.2))
section
variable {Z : Wd} {C : Fx Z} {X : Cx} {tg e e2 : Expr} {σ : L2.St} {H : Hp} {R : It → Hp → Prop} {pos p : Pos}
/-- where one comes to with the items -/
theorem seqI_of {f : EF Z.T} (h : tI C (seqI f) σ H R) : tF C f σ H fun v H1 => ∃ O ds d, itemsD d = some ds ∧ Den Z O H1 v d ∧ ∀ J, Walks Z O H1 J ds → R J H1 := by
  obtain ⟨ow, τ, t, o, s', R0, z, e, k⟩ := h
  unfold seqI at e
  cases q : f (τ, t) with
  | none => rw [q] at e; cases e
  | some w =>
    obtain ⟨o1, s1⟩ := w
    rw [q] at e
    refine ⟨ow, τ, t, o1, s1, R0, z, q, ?_⟩
    cases o1 with
    | ex c fs => cases e; exact k
    | ok r =>
      intro ow1 v H1 R1 r1 x1
      simp only at e
      split at e
      · cases e
      · rename_i d τ2 p1
        split at e
        · cases e
        · rename_i ds p2
          cases e
          obtain ⟨ow2, R2, z2, d2, x2⟩ := r1.give R1 p1
          exact ⟨_, ds, d, p2, d2, fun J w => k ow2 J H1 R2 z2 (x1.trans x2) w⟩
theorem callI_of {op : List D → Option (List D)} {g : AF Z.T} (h : tI C (callI op g) σ H R) : tA C g σ H fun vs H1 => ∃ O ds out, op ds = some out ∧ DenA Z O H1 vs ds ∧ ∀ J, Walks Z O H1 J out → R J H1 := by
  obtain ⟨ow, τ, t, o, s', R0, z, e, k⟩ := h
  unfold callI at e
  cases q : g (τ, t) with
  | none => rw [q] at e; cases e
  | some w =>
    obtain ⟨o1, s1⟩ := w
    rw [q] at e
    refine ⟨ow, τ, t, R0, z, o1, s1, q, ?_⟩
    cases o1 with
    | ex c fs => cases e; exact k
    | ok r =>
      intro ow1 v H1 R1 z1 r1 x1
      simp only at e
      split at e
      · cases e
      · rename_i ds τ2 p1
        split at e
        · cases e
        · rename_i out p2
          cases e
          obtain ⟨ow2, R2, z2, d2, x2⟩ := r1.give R1 z1 p1
          exact ⟨_, ds, out, p2, d2, fun J w => k ow2 J H1 R2 z2 (x1.trans x2) w⟩
theorem walks_list {K : PySem.W.Frag} {O : Addr → Prop} {a : Addr} {xs : List V} {ds : List D} (h : H a = some (.lst xs)) (n : ¬ O a) (c : DenA Z O H xs ds) : Walks Z O H (Itl K a) ds := by
  refine ⟨_, _, by rw [← c.len]; exact walk_list (xs := xs), fun O' H' x => SqL.of (x.kept a _ h n), fun i H1 v H2 O1 hi x _ y => ?_⟩
  obtain ⟨rfl, y⟩ := y
  obtain ⟨d, e, dn⟩ := c.get y
  exact ⟨d, e, Grow.refl, dn.ext x⟩
theorem walks_tup {K : PySem.W.Frag} {O : Addr → Prop} {a : Addr} {xs : List V} {ds : List D} (h : H a = some (.tup xs)) (n : ¬ O a) (c : DenA Z O H xs ds) : Walks Z O H (Itt K a) ds := by
  refine ⟨_, _, by rw [← c.len]; exact walk_tup (xs := xs), fun O' H' x => SqT.of (x.kept a _ h n), fun i H1 v H2 O1 hi x _ y => ?_⟩
  obtain ⟨rfl, y⟩ := y
  obtain ⟨d, e, dn⟩ := c.get y
  exact ⟨d, e, Grow.refl, dn.ext x⟩
/-- a list or a tuple walked -/
def iSeq (K : PySem.W.Frag) (tl : TE) : TI := fun σ H R => tl σ H fun x H1 => ∃ a, x = .ref a ∧ (((∃ xs, SqL K H1 a xs) ∧ R (Itl K a) H1) ∨ ((∃ xs, SqT K H1 a xs) ∧ R (Itt K a) H1))
theorem pi_seq {l : Expr} {tl : TE} (hl : PE X l tl) : PI X tg l (iSeq X.K tl) := by
  refine ⟨fun pins s σ H R I h => ?_⟩
  refine thn (hl.run pins s σ H _ I h) fun v s1 ⟨x, H1, I1, r1, q1⟩ => ?_
  obtain ⟨a, e, q⟩ := q1
  subst e
  cases r1
  have fresh : ∀ b ∈ [s1.heap.objs.size], FpOk X pins H1 b := fun b hb => by
    have e : b = s1.heap.objs.size := by simpa using hb
    subst e
    exact I1.fpOk (Nat.le_refl _) (I1.hok.fresh (Nat.le_refl _))
  rcases q with ⟨⟨xs, hq⟩, q⟩ | ⟨⟨xs, hq⟩, q⟩
  · obtain ⟨its, rv, p, hz⟩ := I1.list hq
    refine wpAny_pyIter_list p.isList ?_
    exact ⟨s1.heap.objs.size, [s1.heap.objs.size], _, _, H1, rfl, I1.kept (t' := s1.toks) fun b o e => Heap.get?_push_of_some _ e, turn_list a _, ⟨_, Heap.get?_push_size _ rfl, rfl, rfl⟩, fresh, q⟩
  · obtain ⟨its, rv, p, hz⟩ := I1.tuple hq
    refine wpAny_pyIter_tuple (show s1.heap.IsTuple a its.toArray from p) ?_
    exact ⟨s1.heap.objs.size, [s1.heap.objs.size], _, _, H1, rfl, I1.kept (t' := s1.toks) fun b o e => Heap.get?_push_of_some _ e, turn_tuple a _, ⟨_, Heap.get?_push_size _ rfl, rfl, rfl⟩, fresh, q⟩
theorem den_items {O : Addr → Prop} {v : V} {d : D} {ds : List D} (h : Den Z O H v d) (e : itemsD d = some ds) : ∃ a xs, v = .ref a ∧ ¬ O a ∧ DenA Z O H xs ds ∧ (H a = some (.lst xs) ∨ H a = some (.tup xs)) := by
  unfold itemsD at e
  split at e
  · cases e
    cases h with
    | ref e n c => cases c with
      | lst c => exact ⟨_, _, rfl, n, c, .inl e⟩
  · cases e
    cases h with
    | ref e n c => cases c with
      | tup c => exact ⟨_, _, rfl, n, c, .inr e⟩
  · cases e
theorem iv_seq {f : EF Z.T} (he : PE X e (tF C f)) : PI X tg e (tI C (seqI f)) := ⟨fun pins s σ H R I h => (pi_seq he).run pins s σ H R I (tF_mono (seqI_of h) fun v H1 ⟨O, ds, d, e, dn, k⟩ => by
  obtain ⟨a, xs, rfl, n, c, q⟩ := den_items dn e
  rcases q with q | q
  · exact ⟨a, rfl, .inl ⟨⟨xs, SqL.of q⟩, k _ (walks_list q n c)⟩⟩
  · exact ⟨a, rfl, .inr ⟨⟨xs, SqT.of q⟩, k _ (walks_tup q n c)⟩⟩)⟩

/-! ### ranges -/
def small (i : Int) : Bool := decide (-(2 ^ 60) ≤ i ∧ i ≤ 2 ^ 60)
def rngL (lo hi : Int) : List D := (List.range (hi - lo).toNat).map fun (k : Nat) => D.int (lo + (k : Int))
def rng1D : List D → Option (List D)
  | [.int j] => if small j = true then some (rngL 0 j) else none
  | _ => none
def rng2D : List D → Option (List D)
  | [.int i, .int j] => if small i = true ∧ small j = true then some (rngL i j) else none
  | _ => none
theorem walks_range {O : Addr → Prop} {lo hi : Int} : Walks Z O H (Itr lo (hi - lo).toNat) (rngL lo hi) := by
  refine ⟨_, _, by rw [show (rngL lo hi).length = (hi - lo).toNat by simp [rngL]]; exact walk_range, fun _ _ _ => trivial, fun i H1 v H2 O1 hi x _ y => ?_⟩
  obtain ⟨rfl, rfl⟩ := y
  refine ⟨.int (lo + (i : Int)), ?_, Grow.refl, .int _⟩
  have : i < (rngL lo _).length := hi
  simp only [rngL, List.length_map, List.length_range] at this
  simp only [rngL, List.getElem?_map, List.getElem?_range this, Option.map_some]
theorem den_int {O : Addr → Prop} {v : V} {i : Int} (h : Den Z O H v (.int i)) : v = .int i := (Shows.den h).int
theorem iv_range1 {g : AF Z.T} (hg : Gl X "range") (hm : X.mg "range" = none) (ha : PA X [e] (tA C g)) (hs : starEach [e] X.env = [(false, eval e X.env)] := by rfl) : PI X tg (.Call (.Name "range" p) [e] [] pos) (tI C (callI rng1D g)) :=
  ⟨fun pins s σ H R I h => (pi_range1 hg hm ha hs).run pins s σ H R I (tA_mono (callI_of h) fun vs H1 ⟨O, ds, out, e, dn, k⟩ => by
    unfold rng1D at e
    split at e
    · split at e
      · rename_i j hj
        cases e
        cases dn with
        | cons d r =>
          cases r
          cases den_int d
          unfold small at hj
          have hj := of_decide_eq_true hj
          refine ⟨j, rfl, by omega, by omega, ?_⟩
          have w := k (Itr 0 (j - 0).toNat) walks_range
          rw [Int.sub_zero] at w
          exact w
      · cases e
    · cases e)⟩
theorem iv_range2 {g : AF Z.T} (hg : Gl X "range") (hm : X.mg "range" = none) (ha : PA X [e, e2] (tA C g)) (hs : starEach [e, e2] X.env = [(false, eval e X.env), (false, eval e2 X.env)] := by rfl) (hs2 : starEach [e2] X.env = [(false, eval e2 X.env)] := by rfl) :
    PI X tg (.Call (.Name "range" p) [e, e2] [] pos) (tI C (callI rng2D g)) :=
  ⟨fun pins s σ H R I h => (pi_range2 hg hm ha hs hs2).run pins s σ H R I (tA_mono (callI_of h) fun vs H1 ⟨O, ds, out, e, dn, k⟩ => by
    unfold rng2D at e
    split at e
    · split at e
      · rename_i i j hj
        cases e
        cases dn with
        | cons d r =>
          cases r with
          | cons d' r =>
            cases r
            cases den_int d
            cases den_int d'
            unfold small at hj
            have h1 := of_decide_eq_true hj.1
            have h2 := of_decide_eq_true hj.2
            exact ⟨i, j, rfl, by omega, k _ walks_range⟩
      · cases e
    · cases e)⟩

/-! ### zip -/
def pairD : List D → List D → List D
  | x :: xs, y :: ys => .tup [x, y] :: pairD xs ys
  | _, _ => []
theorem pairD_len : ∀ {xs ys : List D}, (pairD xs ys).length = min xs.length ys.length
  | [], ys => by simp [pairD]
  | _ :: _, [] => by simp [pairD]
  | _ :: xs, _ :: ys => by
    simp only [pairD, List.length_cons, pairD_len (xs := xs) (ys := ys)]
    omega
theorem pairD_get : ∀ {xs ys : List D} {i : Nat} {x y : D}, xs[i]? = some x → ys[i]? = some y → (pairD xs ys)[i]? = some (.tup [x, y])
  | [], _, _, _, _, h, _ => by cases h
  | _ :: _, [], _, _, _, _, h => by cases h
  | _ :: xs, _ :: ys, 0, _, _, h, k => by
    cases h
    cases k
    rfl
  | _ :: xs, _ :: ys, i + 1, x, y, h, k => pairD_get (xs := xs) (ys := ys) (i := i) h k
/-- zip of two lists, or of two tuples -/
def zipD : List D → Option (List D)
  | [.lst xs, .lst ys] => some (pairD xs ys)
  | [.tup xs, .tup ys] => some (pairD xs ys)
  | _ => none
theorem pair_new {O : Addr → Prop} {T : Addr} {x y : V} {dx dy : D} (hO : ∀ p, H p = none → ¬ O p) (hT : H T = none) (h1 : Den Z O H x dx) (h2 : Den Z O H y dy) : Grow H (upd H T (.tup [x, y])) ∧ Den Z O (upd H T (.tup [x, y])) (.ref T) (.tup [dx, dy]) :=
  Gets.tup (Z := Z) hO hT (.cons h1 (.cons h2 .nil))
theorem walk_zipT {K : PySem.W.Frag} {a b : Addr} {xs ys : List V} {n : Nat} (hn : n = min xs.length ys.length) : Walk (RZ.ItzT K a b) n (fun H => SqT K H a xs ∧ SqT K H b ys) (YPair (fun i => xs[i]?) (fun i => ys[i]?)) := by
  subst hn
  refine ⟨fun i _ hi q => ?_, fun _ q => ⟨xs, ys, q.1, q.2, by omega⟩, fun i H v H' _ q y => ?_⟩
  · have h1 : i < xs.length := by omega
    have h2 : i < ys.length := by omega
    exact ⟨xs, ys, xs[i], ys[i], q.1, q.2, by simp [h1], by simp [h2]⟩
  · obtain ⟨T, x, z, h1, h2, h3, h4, h5⟩ := y
    exact ⟨T, x, z, h1, h2, h3, h4 xs q.1, h5 ys q.2⟩
theorem walks_pair {O : Addr → Prop} {J : It} {xs ys : List V} {ds es : List D} {G : Hp → Prop} (w : Walk J (pairD ds es).length G (YPair (fun i => xs[i]?) (fun i => ys[i]?))) (hG : ∀ O' H', Ext O H O' H' → G H') (c1 : DenA Z O H xs ds) (c2 : DenA Z O H ys es) :
    Walks Z O H J (pairD ds es) := by
  refine ⟨G, _, w, hG, fun i H1 v H2 O1 hi x hO y => ?_⟩
  obtain ⟨T, x1, y1, rfl, hT, rfl, e1, e2⟩ := y
  obtain ⟨d1, f1, n1⟩ := c1.get e1
  obtain ⟨d2, f2, n2⟩ := c2.get e2
  obtain ⟨g, dn⟩ := pair_new hO hT (n1.ext x) (n2.ext x)
  exact ⟨_, pairD_get f1 f2, g, dn⟩
theorem iv_zip {tpos : Pos} {elts : List Expr} {kk : Nat} {g : AF Z.T} (hg : Gl X "zip") (hm : X.mg "zip" = none) (ha : PA X [e, e2] (tA C g))
    (hs : starEach [e, e2] X.env = (false, eval e X.env) :: starEach [e2] X.env := by rfl) (hpl : (backTo pos (starEach [e2] X.env)).any (·.1) = false := by rfl) :
    PI X (.Tuple elts kk tpos) (.Call (.Name "zip" p) [e, e2] [] pos) (tI C (callI zipD g)) :=
  ⟨fun pins s σ H R I h => (RZ.pi_zipA hg hm ha hs hpl).run pins s σ H R I (tA_mono (callI_of h) fun vs H1 ⟨O, ds, out, e, dn, k⟩ => by
    unfold zipD at e
    split at e
    · cases e
      cases dn with
      | cons d r =>
        cases r with
        | cons d' r =>
          cases r
          cases d with
          | ref e1 n1 c1 => cases c1 with
            | lst c1 => cases d' with
              | ref e2 n2 c2 => cases c2 with
                | lst c2 => exact ⟨_, _, _, _, rfl, .inl ⟨SqL.of e1, SqL.of e2, k _ (walks_pair (walk_zip (by rw [pairD_len, c1.len, c2.len])) (fun O' H' x => ⟨SqL.of (x.kept _ _ e1 n1), SqL.of (x.kept _ _ e2 n2)⟩) c1 c2)⟩⟩
    · cases e
      cases dn with
      | cons d r =>
        cases r with
        | cons d' r =>
          cases r
          cases d with
          | ref e1 n1 c1 => cases c1 with
            | tup c1 => cases d' with
              | ref e2 n2 c2 => cases c2 with
                | tup c2 => exact ⟨_, _, _, _, rfl, .inr ⟨SqT.of e1, SqT.of e2, k _ (walks_pair (walk_zipT (by rw [pairD_len, c1.len, c2.len])) (fun O' H' x => ⟨SqT.of (x.kept _ _ e1 n1), SqT.of (x.kept _ _ e2 n2)⟩) c1 c2)⟩⟩
    · cases e)⟩
end
end FD

/-! F10: defs by functions of data: what they promise, their calls, their bodies. -/
namespace FD
open PySem PySem.Spec PyProof.Rows L2

inductive FOut where
  | ok (d : D) (fr : Bool) | ex (c : Str) (fs : List (Str × D))
abbrev FF (T : Type) := List D → T → Option (FOut × T)
def GrowZ (Z : Wd) (H H' : Hp) : Prop := ∀ a o, H a = some o → ¬ Z.hid a → H' a = some o
def FinF (Z : Wd) (O : Addr → Prop) (H : Hp) (Q : VK) (E : XK) (t' : Z.T) : FOut → Prop
  | .ok d false => ∀ v H', Z.On t' H' → GrowZ Z H H' → Den Z O H' v d → Q v H'
  | .ok d true => ∀ a o H', Z.On t' H' → GrowZ Z H H' → H a = none → H' a = some o → (∀ xs, o ≠ .tup xs) → Cont Z (fun b => O b ∨ b = a) H' o d → Q (.ref a) H'
  | .ex c fs => ∀ d H', Z.On t' H' → GrowZ Z H H' → ExOk Z O H' d fs → E (.ref (Z.ca c)) d H'
/-- what a def promises that does on data what F does -/
def spF (Z : Wd) (n : Nat) (F : FF Z.T) : Sp := fun vs H Q E => vs.length = n ∧ ∃ O t ds o t', (∀ a, Z.hid a → O a) ∧ (∀ a, O a → ∃ o, H a = some o ∧ ∀ xs, o ≠ .tup xs) ∧ Z.On t H ∧ DenA Z O H vs ds ∧ F ds t = some (o, t') ∧ FinF Z O H Q E t' o

section
variable {Z : Wd} {C : Fx Z} {X : Cx} {ow : Nat → Option Addr} {τ : List Sl} {t t' : Z.T} {σ : L2.St} {H H' : Hp}
theorem ext_grow (R : C.Rel ow τ t σ H) (g : GrowZ Z H H') : Ext (C.Hid ow) H (C.Hid ow) H' := ⟨fun a o e n => g a o e fun z => n (.inl (R.hid a z)), fun _ h => .inl h⟩
theorem Rel.called (R : C.Rel ow τ t σ H) (on : Z.On t' H') (g : GrowZ Z H H') : C.Rel ow τ t' σ H' where
  on := on
  hid := R.hid
  hidT := R.hidT
  grow := fun a o e n => g a o (R.grow a o e n) n
  len := R.len
  slot := fun i s e => (R.slot i s e).ext (ext_grow R g) fun a h => ⟨h, by
    obtain ⟨_, o, e1, _⟩ := R.new _ a h
    exact (g a o e1 fun z => R.own_ne h (R.hid a z)).trans e1.symm⟩
  inj := R.inj
  new := fun i a h => by
    obtain ⟨h1, o, e1, n⟩ := R.new i a h
    exact ⟨h1, o, g a o e1 fun z => R.own_ne h (R.hid a z), n⟩
theorem Rel.fresh0 (R : C.Rel ow τ t σ H) {p : Addr} (h : H p = none) : C.H p = none := by
  cases z : C.H p with
  | none => rfl
  | some u =>
    by_cases g : Z.hid p
    · obtain ⟨u', e', _⟩ := Z.trk t H p R.on g
      rw [h] at e'
      cases e'
    · have := R.grow p u z g
      rw [h] at this
      cases this
theorem ext_adopt (R : C.Rel ow τ t σ H) (g : GrowZ Z H H') {a : Addr} (h : H a = none) {K : Nat} : Ext (C.Hid ow) H (C.Hid (put ow K a)) H' :=
  ⟨fun b o e n => g b o e fun z => n (.inl (R.hid b z)), fun b q => (hid_put q).imp id fun z => by rw [z]; exact h⟩
/-- a call hands back an object of its own -/
theorem Rel.adopt {a : Addr} {o : HO} (R : C.Rel ow τ t σ H) (on : Z.On t' H') (g : GrowZ Z H H') (h : H a = none) (e : H' a = some o) (n : ∀ xs, o ≠ .tup xs) : C.Rel (put ow 0 a) τ t' σ H' where
  on := on
  hid := R.hid
  hidT := R.hidT
  grow := fun b u q nb => g b u (R.grow b u q nb) nb
  len := R.len
  slot := fun i s q => (R.slot i s q).ext (ext_adopt R g h) fun b y => ⟨by rw [put_ne (by omega)]; exact y, by
    obtain ⟨_, u, e1, _⟩ := R.new _ b y
    exact (g b u e1 fun z => R.own_ne y (R.hid b z)).trans e1.symm⟩
  inj := fun i j b h1 h2 => by
    have old : ∀ i b, ow i = some b → b ≠ a := fun i b q z => by
      obtain ⟨_, u, e, _⟩ := R.new i b q
      rw [z, h] at e
      cases e
    rcases put_some h1 with ⟨e1, e2⟩ | ⟨_, e2⟩
    · rcases put_some h2 with ⟨e3, _⟩ | ⟨_, e4⟩
      · rw [e1, e3]
      · exact absurd e2 (old j b e4)
    · rcases put_some h2 with ⟨_, e3⟩ | ⟨_, e4⟩
      · exact absurd e3 (old i b e2)
      · exact R.inj i j b e2 e4
  new := fun i b q => by
    rcases put_some q with ⟨_, e1⟩ | ⟨_, e1⟩
    · subst e1
      exact ⟨R.fresh0 h, o, e, n⟩
    · obtain ⟨h1, u, e2, m⟩ := R.new i b e1
      exact ⟨h1, u, g b u e2 fun z => R.own_ne e1 (R.hid b z), m⟩

/-! ### calls -/
def ucallF {T : Type} (F : FF T) (g : AF T) : EF T := fun s => match g s with
  | none => none
  | some (.ex c fs, s1) => some (.ex c fs, s1)
  | some (.ok rs, s1) => match giveAll s1.1 rs with
    | none => none
    | some (ds, τ) => match F ds s1.2 with
      | none => none
      | some (.ok d fr, t) => some (.ok (resOf (d, fr)), (τ, t))
      | some (.ex c fs, t) => some (.ex c fs, (τ, t))
theorem ResOks.len : ∀ {vs : List V} {rs : List Res}, ResOks C σ ow τ H vs rs → vs.length = rs.length
  | _, _, .nil => rfl
  | _, _, .cons _ r => by rw [List.length_cons, List.length_cons, ResOks.len r]
theorem giveAll_len : ∀ {rs : List Res} {τ τ' : List Sl} {ds : List D}, giveAll τ rs = some (ds, τ') → ds.length = rs.length
  | [], _, _, _, e => by cases e; rfl
  | r :: rs, τ, _, _, e => by
    unfold giveAll at e
    split at e
    · cases e
    · split at e
      · cases e
      · rename_i p
        cases e
        rw [List.length_cons, List.length_cons, giveAll_len p]
/-- behind the arguments of a call -/
theorem ucall_of {F : FF Z.T} {g : AF Z.T} {Q : VK} {n : Nat} (hn : ∀ ds t o, F ds t = some o → ds.length = n) (h : tF C (ucallF F g) σ H Q) : tA C g σ H fun vs H1 => spF Z n F vs H1 Q fun c d H2 => C.W c d σ H2 := by
  obtain ⟨ow, τ, t, o, s', R, z, e, k⟩ := h
  unfold ucallF at e
  cases q : g (τ, t) with
  | none => rw [q] at e; cases e
  | some w =>
    obtain ⟨o1, s1⟩ := w
    rw [q] at e
    refine ⟨ow, τ, t, R, z, o1, s1, q, ?_⟩
    cases o1 with
    | ex c fs => cases e; exact k
    | ok rs =>
      intro ow1 vs H1 R1 z1 r1 x1
      simp only at e
      split at e
      · cases e
      · rename_i ds τ2 p1
        obtain ⟨ow2, R2, z2, d2, x2⟩ := r1.give R1 z1 p1
        have x12 := x1.trans x2
        split at e
        · cases e
        · rename_i d fr t2 p2
          cases e
          refine ⟨d2.len.trans (hn _ _ _ p2), _, s1.2, ds, _, t2, fun a h => .inl (R2.hid a h), fun a h => R2.track h, R2.on, d2, p2, ?_⟩
          cases fr with
          | false => exact fun v H2 on gr dn => k ow2 v H2 (R2.called on gr) ⟨z2, dn⟩ (x12.trans (ext_grow R2 gr))
          | true =>
            intro a o H2 on gr hn e2 nt c
            refine k (put ow2 0 a) (.ref a) H2 (R2.adopt on gr hn e2 nt) ⟨a, o, put_same, rfl, e2, c.mono fun b u hb m => ⟨hb, fun y => m (hid_put y)⟩⟩ (x12.trans (ext_adopt R2 gr hn))
        · rename_i c fs t2 p2
          cases e
          exact ⟨d2.len.trans (hn _ _ _ p2), _, s1.2, ds, _, t2, fun a h => .inl (R2.hid a h), fun a h => R2.track h, R2.on, d2, p2, fun d H2 on gr eo => k ow2 d H2 (R2.called on gr) z2 (x12.trans (ext_grow R2 gr)) eo⟩
theorem ev_call {F : FF Z.T} {k n : Nat} {f : Addr} {fd : FuncData} {ps : List Str} {x : Str} {p pos : Pos} {e : Expr} {es : List Expr} {g : AF Z.T} (G : FnOk X.prog X.w X.K X.mg X.base (L2.CX X.prog X.w) k f fd ps (spF Z n F)) (hn : ∀ ds t o, F ds t = some o → ds.length = n)
    (tk : Takes X C.W) (hr : Room k X.A) (hg : Gl X x) (hm : X.mg x = some (.ref f)) (hk : PySem.W.keepIn X.K (.ref f) = true) (hb : Binds X.K fd ps []) (ha : PA X (e :: es) (tA C g))
    (hdb : (x == ("__debug__" : Str)) = false := by decide) (he : starEach (e :: es) X.env = (false, eval e X.env) :: starEach es X.env := by rfl) (hpl : (backTo pos (starEach es X.env)).any (·.1) = false := by rfl) :
    PE X (.Call (.Name x p) (e :: es) [] pos) (tF C (ucallF F g)) :=
  ⟨fun pins s σ H Q I h => (pe_callSD G hr hg hm hk hb .nil (fun σ => passAt tk σ) ha hdb he hpl).run pins s σ H Q I (tA_mono (ucall_of hn h) fun vs H1 q => by rw [List.append_nil]; exact q)⟩
end

/-! ### bodies -/
def initS (N : Nat) (ds : List D) : List Sl := ds.map Sl.v ++ List.replicate (N - ds.length) .no
def runF {T : Type} (N n : Nat) (f : SF T) : FF T := fun ds t => if ds.length = n then match f (initS N ds, t) with
    | some (.nx, s) => some (.ok .non false, s.2)
    | some (.rt (.d d), s) => some (.ok d false, s.2)
    | some (.rt (.f d), s) => some (.ok d true, s.2)
    | some (.ex c fs, s) => some (.ex c fs, s.2)
    | _ => none
  else none
section
variable {P : Program} {w : World} {K : PySem.W.Frag} {mg : Str → Option Value} {base : Heap} {Z : Wd}
theorem DenA.slots {O : Addr → Prop} {H : Hp} {n : Nat} : ∀ {vs : List V} {ds : List D} {i : Nat} {s : Sl}, DenA Z O H vs ds → (ds.map Sl.v ++ List.replicate n .no)[i]? = some s → SlotOk Z O H (fun _ => none) (vs.map some ++ List.replicate n none) i s
  | _, _, i, s, .nil, e => by
    simp only [List.map_nil, List.nil_append] at e
    by_cases h : i < n
    · rw [List.getElem?_replicate, if_pos h] at e
      cases e
      trivial
    · rw [List.getElem?_replicate, if_neg h] at e
      cases e
  | _, _, 0, s, .cons d _, e => by
    cases e
    exact ⟨_, rfl, d⟩
  | v :: vs, d' :: ds, i + 1, s, .cons _ r, e => by
    have q := DenA.slots (n := n) (i := i) (s := s) r (by simpa using e)
    cases s with
    | no => trivial
    | v d =>
      obtain ⟨v, e1, e2⟩ := q
      exact ⟨v, by simpa using e1, e2⟩
    | o d =>
      obtain ⟨a, o, e1, _⟩ := q
      cases e1
theorem fn_body {x qual : Str} {st : Stmt} {f : Addr} {fd : FuncData} {N ps : List Str} {k : Nat} {b : SF Z.T} {G : FF Z.T} (F : Fun K x qual st f fd) (S : FnScope N ps (defScope st)) (hps : ps.length ≤ N.length) (hG : ∀ ds t r, G ds t = some r → runF N.length ps.length b ds t = some r)
    (hbody : ∀ (cdv : Value) (A : Around) (outer : List Env) (s : Shared) (H : Hp) (E : XK) (C : Fx Z), Room k (A.deeper (envOfC qual (defScope st) s.heap.objs.size f cdv)) → Takes (cxOf (L2.CX P w) P w K mg base N qual (defScope st) f cdv A outer s H E) C.W →
      PSs (cxOf (L2.CX P w) P w K mg base N qual (defScope st) f cdv A outer s H E) (defBody st) (tS C b)) : FnOk P w K mg base (L2.CX P w) (k + 1) f fd ps (spF Z ps.length G) := by
  refine F.okX S (fun vs H Q E h => h.1) fun cdv A outer s H vs Q E hr hsp => ?_
  obtain ⟨hl, O, t, ds, o, t', h1, h2, on, dn, e, fin⟩ := hsp
  refine ⟨_, hbody cdv A outer s H E ⟨O, H, fun c d _ H' => E c d H'⟩ hr (takes_of rfl rfl rfl rfl), ?_⟩
  have hdl : ds.length = ps.length := by rw [← dn.len]; exact hl
  have e2 := hG _ _ _ e
  unfold runF at e2
  rw [if_pos hdl] at e2
  have hnone : ∀ a, Hid O (fun _ => none) a ↔ O a := fun a => Iff.intro (fun h => h.elim id (fun ⟨_, z⟩ => nomatch z)) (fun h => .inl h)
  have R : FD.Rel Z O H (fun _ => none) (initS N.length ds) t (start N vs) H := {
    on := on, hid := h1, hidT := h2, grow := fun _ _ e _ => e
    len := by
      unfold initS L2.start
      rw [List.length_append, List.length_append, List.length_map, List.length_map, List.length_replicate, List.length_replicate, dn.len]
    slot := fun i s q => by
      unfold initS at q
      unfold L2.start
      have dn' : DenA Z (Hid O fun _ => none) H vs ds := dn.mono fun a o h n => ⟨h, fun z => n ((hnone a).mp z)⟩
      have := DenA.slots (n := N.length - ds.length) dn' q
      rw [dn.len]
      exact this
    inj := fun _ _ _ z => nomatch z
    new := fun _ _ z => nomatch z }
  have back : ∀ {ow : Nat → Option Addr} {H' : Hp} {v : V} {d : D}, Den Z (Hid O ow) H' v d → Den Z O H' v d := fun h => h.mono fun a o e n => ⟨e, fun z => n (.inl z)⟩
  refine ⟨fun _ => none, initS N.length ds, t, R, rfl, ?_⟩
  split at e2
  · rename_i s1 p
    cases e2
    exact ⟨.nx, s1, p, fun ow' σ' H' R' z x => fin .non H' R'.on (fun a o e n => R'.grow a o e n) .non⟩
  · rename_i d s1 p
    cases e2
    exact ⟨_, s1, p, fun ow' σ' v H' R' r x => fin v H' R'.on (fun a o e n => R'.grow a o e n) (back r.2)⟩
  · rename_i d s1 p
    cases e2
    refine ⟨_, s1, p, fun ow' σ' v H' R' r x => ?_⟩
    obtain ⟨a, o, e1, rfl, e3, c⟩ := r
    obtain ⟨hn, u, e4, nt⟩ := R'.new _ a e1
    rw [e3] at e4
    cases e4
    exact fin a o H' R'.on (fun a o e n => R'.grow a o e n) hn e3 nt (c.mono fun b u e n => ⟨e, fun z => n (z.elim .inl fun z => .inr ⟨0, by rw [z]; exact e1⟩)⟩)
  · rename_i c fs s1 p
    cases e2
    refine ⟨_, s1, p, fun ow' σ' d H' R' z x eo => fin d H' R'.on (fun a o e n => R'.grow a o e n) ?_⟩
    cases d with
    | none => exact eo
    | some dd =>
      obtain ⟨vs, e5, q⟩ := eo
      exact ⟨vs, e5, q.mono fun a o e n => ⟨e, fun z => n (.inl z)⟩⟩
  · cases e2
end
end FD

/-! F11: built-in functions of data, items, slices. -/
namespace FD
open PySem PySem.Spec PyProof.Rows L2
section
variable {Z : Wd} {X : Cx}
/-! ### items -/
def ixD : D → D → Option (D × Bool)
  | .lst ds, .int i => (atI ds i).map fun d => (d, false)
  | .tup ds, .int i => (atI ds i).map fun d => (d, false)
  | _, _ => none
theorem DenA.atI {O : Addr → Prop} {H : Hp} {xs : List V} {ds : List D} {i : Int} {d : D} (h : DenA Z O H xs ds) (e : L2.atI ds i = some d) : ∃ v, L2.atI xs i = some v ∧ Den Z O H v d := by
  unfold L2.atI at e ⊢
  rw [h.len]
  cases q : ixN ds.length i with
  | none => rw [q] at e; cases e
  | some j =>
    rw [q] at e
    exact h.get2 e
theorem ixR : IxR X (rD2 Z ixD) := by
  intro value slice pins s σ H x y v u Q I rx ry h
  obtain ⟨O, dx, dy, z, hO, sx, sy, e, q⟩ := h
  unfold ixD at e
  split at e
  · rename_i ds i
    cases sy.int
    obtain ⟨a, xs, rfl, h1, c1⟩ := sx.lst
    obtain ⟨d, e1, rfl⟩ := Option.map_eq_some_iff.mp e
    obtain ⟨w, e2, dw⟩ := c1.atI e1
    exact ix_seq value slice pins s σ H _ _ v u Q I rx ry (.inl ⟨a, xs, i, w, rfl, rfl, SqL.of h1, e2, q _ _ (.same dw)⟩)
  · rename_i ds i
    cases sy.int
    obtain ⟨a, xs, rfl, h1, c1, _⟩ := sx.tup
    obtain ⟨d, e1, rfl⟩ := Option.map_eq_some_iff.mp e
    obtain ⟨w, e2, dw⟩ := c1.atI e1
    exact ix_seq value slice pins s σ H _ _ v u Q I rx ry (.inr (.inl ⟨a, xs, i, w, rfl, rfl, SqT.of h1, e2, q _ _ (.same dw)⟩))
  · cases e

/-! ### len, abs, sum, min, max -/
def lenD : List D → Option (D × Bool)
  | [.lst ds] => some (.int ds.length, false)
  | [.tup ds] => some (.int ds.length, false)
  | _ => none
theorem cD_len : CallD Z X (.builtin "len") lenD := by
  intro pins s σ H xs us Q I r h
  obtain ⟨O, ds, z, hO, sh, e, q⟩ := h
  unfold lenD at e
  split at e
  · cases e
    cases sh with
    | cons sx sr =>
      cases sr
      obtain ⟨a, ys, rfl, h1, c1⟩ := sx.lst
      exact call_len_seq pins s σ H _ us Q I r ⟨a, ys, rfl, .inl (SqL.of h1), q _ _ (.same (by rw [c1.len]; exact .int _))⟩
  · cases e
    cases sh with
    | cons sx sr =>
      cases sr
      obtain ⟨a, ys, rfl, h1, c1, _⟩ := sx.tup
      exact call_len_seq pins s σ H _ us Q I r ⟨a, ys, rfl, .inr (SqT.of h1), q _ _ (.same (by rw [c1.len]; exact .int _))⟩
  · cases e
def absD : List D → Option (D × Bool)
  | [.int i] => some (.int (if i < 0 then -i else i), false)
  | _ => none
theorem cD_abs : CallD Z X (.builtin "abs") absD := by
  intro pins s σ H xs us Q I r h
  obtain ⟨O, ds, z, hO, sh, e, q⟩ := h
  unfold absD at e
  split at e
  · cases e
    cases sh with
    | cons sx sr =>
      cases sr
      cases sx.int
      exact call_abs pins s σ H _ us Q I r ⟨_, rfl, q _ _ (.same (.int _))⟩
  · cases e
/-- the ints of data -/
def intsD : List D → Option (List Int)
  | [] => some []
  | .int i :: ds => (intsD ds).map (i :: ·)
  | _ => none
theorem intsD_map (ns : List Int) : intsD (ns.map D.int) = some ns := by
  induction ns with
  | nil => rfl
  | cons n r ih => simp only [List.map_cons, intsD, ih, Option.map_some]
theorem intsD_of : ∀ {ds : List D} {ns : List Int}, intsD ds = some ns → ds = ns.map D.int
  | [], _, e => by cases e; rfl
  | .int i :: ds, ns, e => by
    simp only [intsD] at e
    obtain ⟨r, e1, rfl⟩ := Option.map_eq_some_iff.mp e
    rw [intsD_of e1]
    rfl
  | .non :: _, _, e => by simp [intsD] at e
  | .bl _ :: _, _, e => by simp [intsD] at e
  | .str _ :: _, _, e => by simp [intsD] at e
  | .tup _ :: _, _, e => by simp [intsD] at e
  | .lst _ :: _, _, e => by simp [intsD] at e
  | .dct _ :: _, _, e => by simp [intsD] at e
  | .obj _ _ :: _, _, e => by simp [intsD] at e
  | .ty _ :: _, _, e => by simp [intsD] at e
  | .hnd _ :: _, _, e => by simp [intsD] at e
def maxL : List Int → Int
  | [] => 0
  | [x] => x
  | x :: y :: r => max x (maxL (y :: r))
def minL : List Int → Int
  | [] => 0
  | [x] => x
  | x :: y :: r => min x (minL (y :: r))
theorem maxL_le : ∀ {xs : List Int} {x : Int}, x ∈ xs → x ≤ maxL xs
  | [], _, h => by cases h
  | [y], x, h => by
    simp only [List.mem_singleton] at h
    subst h
    exact Int.le_refl _
  | y :: z :: r, x, h => by
    unfold maxL
    rcases List.mem_cons.mp h with h | h
    · omega
    · have := maxL_le h
      omega
theorem maxL_mem : ∀ {xs : List Int}, xs ≠ [] → maxL xs ∈ xs
  | [], h => absurd rfl h
  | [y], _ => by simp [maxL]
  | y :: z :: r, _ => by
    unfold maxL
    have := maxL_mem (xs := z :: r) (by simp)
    rw [show max y (maxL (z :: r)) = if y ≤ maxL (z :: r) then maxL (z :: r) else y by omega]
    split
    · exact List.mem_cons_of_mem _ this
    · exact List.mem_cons_self
theorem minL_le : ∀ {xs : List Int} {x : Int}, x ∈ xs → minL xs ≤ x
  | [], _, h => by cases h
  | [y], x, h => by
    simp only [List.mem_singleton] at h
    subst h
    exact Int.le_refl _
  | y :: z :: r, x, h => by
    unfold minL
    rcases List.mem_cons.mp h with h | h
    · omega
    · have := minL_le h
      omega
theorem minL_mem : ∀ {xs : List Int}, xs ≠ [] → minL xs ∈ xs
  | [], h => absurd rfl h
  | [y], _ => by simp [minL]
  | y :: z :: r, _ => by
    unfold minL
    have := minL_mem (xs := z :: r) (by simp)
    rw [show min y (minL (z :: r)) = if y ≤ minL (z :: r) then y else minL (z :: r) by omega]
    split
    · exact List.mem_cons_self
    · exact List.mem_cons_of_mem _ this
def sumLD : List D → Option (D × Bool)
  | [.lst ds] => (intsD ds).map fun ns => (.int ns.sum, false)
  | _ => none
theorem cD_sumL (hc : X.calm = true) : CallD Z X (.builtin "sum") sumLD := by
  intro pins s σ H xs us Q I r h
  obtain ⟨O, ds, z, hO, sh, e, q⟩ := h
  unfold sumLD at e
  split at e
  · obtain ⟨ns, e1, rfl⟩ := Option.map_eq_some_iff.mp e
    cases intsD_of e1
    cases sh with
    | cons sx sr =>
      cases sr
      obtain ⟨a, ys, rfl, h1, c1⟩ := sx.lst
      cases c1.ints
      exact cr_sum hc pins s σ H _ us Q I r ⟨a, ns, rfl, SqL.of h1, q _ _ (.same (.int _))⟩
  · cases e
def max2D : List D → Option (D × Bool)
  | [.int i, .int j] => some (.int (if j > i then j else i), false)
  | _ => none
def min2D : List D → Option (D × Bool)
  | [.int i, .int j] => some (.int (if j < i then j else i), false)
  | _ => none
theorem cD_max2 (hc : X.calm = true) : CallD Z X (.builtin "max") max2D := by
  intro pins s σ H xs us Q I r h
  obtain ⟨O, ds, z, hO, sh, e, q⟩ := h
  unfold max2D at e
  split at e
  · cases e
    cases sh with
    | cons sx sr => cases sr with
      | cons sy sr =>
        cases sr
        cases sx.int; cases sy.int
        exact call_max2 hc pins s σ H _ us Q I r ⟨_, _, rfl, q _ _ (.same (.int _))⟩
  · cases e
theorem cD_min2 (hc : X.calm = true) : CallD Z X (.builtin "min") min2D := by
  intro pins s σ H xs us Q I r h
  obtain ⟨O, ds, z, hO, sh, e, q⟩ := h
  unfold min2D at e
  split at e
  · cases e
    cases sh with
    | cons sx sr => cases sr with
      | cons sy sr =>
        cases sr
        cases sx.int; cases sy.int
        exact call_min2 hc pins s σ H _ us Q I r ⟨_, _, rfl, q _ _ (.same (.int _))⟩
  · cases e
def maxLD : List D → Option (D × Bool)
  | [.lst ds] => match intsD ds with
    | some (n :: ns) => some (.int (maxL (n :: ns)), false)
    | _ => none
  | _ => none
theorem cD_maxL (hc : X.calm = true) : CallD Z X (.builtin "max") maxLD := by
  intro pins s σ H xs us Q I r h
  obtain ⟨O, ds, z, hO, sh, e, q⟩ := h
  unfold maxLD at e
  split at e
  · split at e
    · rename_i n ns e1
      cases e
      cases intsD_of e1
      cases sh with
      | cons sx sr =>
        cases sr
        obtain ⟨a, ys, rfl, h1, c1⟩ := sx.lst
        cases c1.ints
        refine cr_max hc pins s σ H _ us Q I r ⟨a, n :: ns, rfl, SqL.of h1, by simp, fun m h2 h3 => ?_⟩
        have : m = maxL (n :: ns) := Int.le_antisymm (maxL_le h2) (h3 _ (maxL_mem (by simp)))
        rw [this]
        exact q _ _ (.same (.int _))
    · cases e
  · cases e
def minLD : List D → Option (D × Bool)
  | [.lst ds] => match intsD ds with
    | some (n :: ns) => some (.int (minL (n :: ns)), false)
    | _ => none
  | _ => none
theorem cD_minL (hc : X.calm = true) : CallD Z X (.builtin "min") minLD := by
  intro pins s σ H xs us Q I r h
  obtain ⟨O, ds, z, hO, sh, e, q⟩ := h
  unfold minLD at e
  split at e
  · split at e
    · rename_i n ns e1
      cases e
      cases intsD_of e1
      cases sh with
      | cons sx sr =>
        cases sr
        obtain ⟨a, ys, rfl, h1, c1⟩ := sx.lst
        cases c1.ints
        refine cr_min hc pins s σ H _ us Q I r ⟨a, n :: ns, rfl, SqL.of h1, by simp, fun m h2 h3 => ?_⟩
        have : m = minL (n :: ns) := Int.le_antisymm (h3 _ (minL_mem (by simp))) (minL_le h2)
        rw [this]
        exact q _ _ (.same (.int _))
    · cases e
  · cases e

/-! ### list, tuple, int, all, any -/
def listD : List D → Option (D × Bool)
  | [.lst ds] => some (.lst ds, true)
  | [.tup ds] => some (.lst ds, true)
  | _ => none
theorem cD_list : CallD Z X (.type "list") listD := by
  intro pins s σ H xs us Q I r h
  obtain ⟨O, ds, z, hO, sh, e, q⟩ := h
  unfold listD at e
  split at e
  · cases e
    cases sh with
    | cons sx sr =>
      cases sr
      obtain ⟨a, ys, rfl, h1, c1⟩ := sx.lst
      exact call_list_of pins s σ H _ us Q I r ⟨a, ys, rfl, .inl (SqL.of h1), fun l hl => q _ _ (.lst hl c1)⟩
  · cases e
    cases sh with
    | cons sx sr =>
      cases sr
      obtain ⟨a, ys, rfl, h1, c1, _⟩ := sx.tup
      exact call_list_of pins s σ H _ us Q I r ⟨a, ys, rfl, .inr (SqT.of h1), fun l hl => q _ _ (.lst hl c1)⟩
  · cases e
def tupleD : List D → Option (D × Bool)
  | [.lst ds] => some (.tup ds, false)
  | [.tup ds] => some (.tup ds, false)
  | _ => none
theorem cD_tuple : CallD Z X (.type "tuple") tupleD := by
  intro pins s σ H xs us Q I r h
  obtain ⟨O, ds, z, hO, sh, e, q⟩ := h
  unfold tupleD at e
  split at e
  · cases e
    cases sh with
    | cons sx sr =>
      cases sr
      obtain ⟨a, ys, rfl, h1, c1⟩ := sx.lst
      exact call_tuple_of pins s σ H _ us Q I r ⟨a, ys, rfl, .inl ⟨SqL.of h1, fun l hl => q _ _ (.tup hO hl c1)⟩⟩
  · cases e
    cases sh with
    | cons sx sr =>
      cases sr
      obtain ⟨a, ys, rfl, h1, c1, n1⟩ := sx.tup
      exact call_tuple_of pins s σ H _ us Q I r ⟨a, ys, rfl, .inr ⟨SqT.of h1, q _ _ (.same (.ref h1 n1 (.tup c1)))⟩⟩
  · cases e
def intD : List D → Option (D × Bool)
  | [.int i] => some (.int i, false)
  | [.bl b] => some (.int (if b then 1 else 0), false)
  | _ => none
theorem cD_int : CallD Z X (.type "int") intD := by
  intro pins s σ H xs us Q I r h
  obtain ⟨O, ds, z, hO, sh, e, q⟩ := h
  unfold intD at e
  split at e
  · cases e
    cases sh with
    | cons sx sr =>
      cases sr
      cases sx.int
      exact call_int1 pins s σ H _ us Q I r (.inl ⟨_, rfl, q _ _ (.same (.int _))⟩)
  · cases e
    cases sh with
    | cons sx sr =>
      cases sr
      cases sx.bl
      exact call_int1 pins s σ H _ us Q I r (.inr ⟨_, rfl, q _ _ (.same (.int _))⟩)
  · cases e
def blsD : List D → Option (List Bool)
  | [] => some []
  | .bl i :: ds => (blsD ds).map (i :: ·)
  | _ => none
theorem blsD_of : ∀ {O : Addr → Prop} {H : Hp} {xs : List V} {ds : List D} {bs : List Bool}, DenA Z O H xs ds → blsD ds = some bs → xs = bs.map V.bl
  | _, _, _, [], _, .nil, e => by cases e; rfl
  | O, H, v :: vs, d :: ds, bs, .cons h r, e => by
    cases d with
    | bl b =>
      simp only [blsD] at e
      obtain ⟨rs, e1, rfl⟩ := Option.map_eq_some_iff.mp e
      rw [(Shows.den h).bl, blsD_of r e1]
      rfl
    | _ => simp [blsD] at e
theorem blsD_map (ns : List Bool) : blsD (ns.map D.bl) = some ns := by
  induction ns with
  | nil => rfl
  | cons n r ih => simp only [List.map_cons, blsD, ih, Option.map_some]
def allD : List D → Option (D × Bool)
  | [.lst ds] => (blsD ds).map fun bs => (.bl (bs.all id), false)
  | _ => none
def anyD : List D → Option (D × Bool)
  | [.lst ds] => (blsD ds).map fun bs => (.bl (bs.any id), false)
  | _ => none
theorem cD_all (hc : X.calm = true) : CallD Z X (.builtin "all") allD := by
  intro pins s σ H xs us Q I r h
  obtain ⟨O, ds, z, hO, sh, e, q⟩ := h
  unfold allD at e
  split at e
  · obtain ⟨ns, e1, rfl⟩ := Option.map_eq_some_iff.mp e
    cases sh with
    | cons sx sr =>
      cases sr
      obtain ⟨a, ys, rfl, h1, c1⟩ := sx.lst
      cases blsD_of c1 e1
      exact cr_all hc pins s σ H _ us Q I r ⟨a, ns, rfl, SqL.of h1, q _ _ (.same (.bl _))⟩
  · cases e
theorem cD_any (hc : X.calm = true) : CallD Z X (.builtin "any") anyD := by
  intro pins s σ H xs us Q I r h
  obtain ⟨O, ds, z, hO, sh, e, q⟩ := h
  unfold anyD at e
  split at e
  · obtain ⟨ns, e1, rfl⟩ := Option.map_eq_some_iff.mp e
    cases sh with
    | cons sx sr =>
      cases sr
      obtain ⟨a, ys, rfl, h1, c1⟩ := sx.lst
      cases blsD_of c1 e1
      exact cr_any hc pins s σ H _ us Q I r ⟨a, ns, rfl, SqL.of h1, q _ _ (.same (.bl _))⟩
  · cases e
end
end FD

/-! F12: changes of own lists: append, extend, pop, x[i] = e, x[i] op= e; x op= e. -/
namespace FD
open PySem PySem.Spec PyProof.Rows L2

/-- a method of slot i's own list: its new items and what it hands back -/
def mutF {T : Type} (i : Nat) (op : List D → List D → Option (List D × D)) (g : AF T) : EF T := fun s => match s.1[i]? with
  | some (.o (.lst _)) => match g s with
    | none => none
    | some (.ex c fs, s1) => some (.ex c fs, s1)
    | some (.ok rs, s1) => match giveAll s1.1 rs with
      | none => none
      | some (ds, τ) => match τ[i]? with
        | some (.o (.lst xs)) => match op xs ds with
          | none => none
          | some (ys, r) => some (.ok (.d r), (τ.set i (.o (.lst ys)), s1.2))
        | _ => none
  | _ => none
/-- the method's rule does what op says -/
def MutD (Z : Wd) (op : List D → List D → Option (List D × D)) (r : V → List V → Hp → VK → Prop) : Prop :=
  ∀ (O : Addr → Prop) (H : Hp) (a : Addr) (xs vs : List V) (dx ds dy : List D) (rd : D), H a = some (.lst xs) → DenA Z O H xs dx → DenA Z O H vs ds → op dx ds = some (dy, rd) →
    ∃ ys w, DenA Z O H ys dy ∧ Den Z O H w rd ∧ ∀ Q : VK, Q w (upd H a (.lst ys)) → r (.ref a) vs H Q
section
variable {Z : Wd} {C : Fx Z} {X : Cx} {ow : Nat → Option Addr} {τ : List Sl} {t : Z.T} {σ : L2.St} {H H' : Hp} {E : Ends}
theorem Rel.ownLst {i : Nat} {ds : List D} (R : C.Rel ow τ t σ H) (e : τ[i]? = some (.o (.lst ds))) : ∃ a xs, ow (i + 1) = some a ∧ σ[i]? = some (some (.ref a)) ∧ H a = some (.lst xs) ∧ DenA Z (C.Hid ow) H xs ds := by
  obtain ⟨a, o, e1, e2, e3, c⟩ := R.slot i _ e
  cases c with
  | lst c => exact ⟨a, _, e1, e2, e3, c⟩
theorem ev_mut {i : Nat} {op : List D → List D → Option (List D × D)} {r : V → List V → Hp → VK → Prop} {g : AF Z.T} {o e : Expr} {es : List Expr} {name : Str} {id : String} {apos cpos : Pos}
    (slot : Slot "list" name id) (hty : typeOf (.builtin id) = pure (.type "method_descriptor")) (hm : MtR X id r) (hd : MutD Z op r) (ho : PE X o (tVar i)) (ha : PA X (e :: es) (tA C g))
    (hbase : attributeBase o name X.env (eval o X.env) = eval o X.env := by rfl)
    (hfew : ((backTo cpos (starEach (e :: es) X.env)).all (fun x => !x.1) && (backToKw cpos (keywordEach [] X.env)).all (fun x => x.1.isSome)
      && decide ((e :: es).length + ([] : List Keyword).length + (if ([] : List Keyword).isEmpty then 0 else 1) < 30)) = true := by rfl)
    (hline : (apos.endLine == cpos.line) = true := by rfl) (hs : starEach (e :: es) X.env = (false, eval e X.env) :: starEach es X.env := by rfl) (hplain : (backTo cpos (starEach es X.env)).any (·.1) = false := by rfl) :
    PE X (.Call (.Attribute o name apos) (e :: es) [] cpos) (tF C (mutF i op g)) := ⟨fun pins s σ H Q I h => (pe_bm PySem.F.plainAttrs_list slot hty hm ho ha hbase hfew hline hs hplain).run pins s σ H Q I (by
  obtain ⟨ow, τ, t, o, s', R, z, e, k⟩ := h
  unfold mutF at e
  split at e
  · rename_i xs0 p0
    obtain ⟨a, ys0, e1, e2, e3, c0⟩ := R.ownLst p0
    refine ⟨.ref a, e2, .inl ⟨rfl, _, SqL.of e3⟩, ?_⟩
    cases q : g (τ, t) with
    | none => rw [q] at e; cases e
    | some w =>
      obtain ⟨o1, s1⟩ := w
      rw [q] at e
      refine ⟨ow, τ, t, R, z, o1, s1, q, ?_⟩
      cases o1 with
      | ex c fs => cases e; exact k
      | ok rs =>
        intro ow1 vs H1 R1 z1 r1 x1
        simp only at e
        split at e
        · cases e
        · rename_i ds τ2 p1
          obtain ⟨ow2, R2, z2, d2, x2⟩ := r1.give R1 z1 p1
          split at e
          · rename_i xs p2
            split at e
            · cases e
            · rename_i ys rd p3
              cases e
              obtain ⟨b, zs, f1, f2, f3, c⟩ := R2.ownLst p2
              rw [e2] at f2
              cases f2
              obtain ⟨us, w, g1, g2, g3⟩ := hd (C.Hid ow2) H1 a zs vs xs ds ys rd f3 c d2 p3
              refine g3 _ ?_
              have u : Ext (C.Hid ow2) H1 (C.Hid ow2) (upd H1 a (.lst us)) := ext_upd (.inr ⟨_, f1⟩)
              exact k ow2 w _ (R2.mutS f1 p2 (fun _ q => nomatch q) (.lst g1)) ⟨z2, g2.ext u⟩ ((x1.trans x2).trans u)
          · cases e
  · cases e)⟩
def appD : List D → List D → Option (List D × D)
  | xs, [d] => if xs.length < LEN then some (xs ++ [d], .non) else none
  | _, _ => none
theorem mutD_append : MutD Z appD rAppend := by
  intro O H a xs vs dx ds dy rd h c1 c2 e
  unfold appD at e
  split at e
  · split at e
    · rename_i hl
      cases e
      cases c2 with
      | cons d r =>
        cases r
        exact ⟨_, .non, c1.app (.one d), .non, fun Q q => ⟨a, xs, _, rfl, rfl, h, by rw [c1.len]; exact line_len hl, q⟩⟩
    · cases e
  · cases e
def extD : List D → List D → Option (List D × D)
  | xs, [.lst ds] => if xs.length + ds.length ≤ LEN then some (xs ++ ds, .non) else none
  | _, _ => none
theorem mutD_extend : MutD Z extD rExtend := by
  intro O H a xs vs dx ds dy rd h c1 c2 e
  unfold extD at e
  split at e
  · split at e
    · rename_i hl
      cases e
      cases c2 with
      | cons d r =>
        cases r
        obtain ⟨b, zs, rfl, h2, c3⟩ := (Shows.den d).lst
        exact ⟨_, .non, c1.app c3, .non, fun Q q => ⟨a, b, xs, zs, rfl, rfl, h, h2, by rw [c1.len, c3.len]; exact len_line hl, q⟩⟩
    · cases e
  · cases e
def popD : List D → List D → Option (List D × D)
  | xs, [.int i] => if small i = true then match seqIndex? i xs.length with
      | none => none
      | some k => match xs[k]? with
        | none => none
        | some d => some (xs.eraseIdx k, d)
    else none
  | _, _ => none
theorem DenA.erase {O : Addr → Prop} {H : Hp} : ∀ {vs : List V} {ds : List D} (n : Nat), DenA Z O H vs ds → DenA Z O H (vs.eraseIdx n) (ds.eraseIdx n)
  | _, _, _, .nil => .nil
  | _, _, 0, .cons _ t => t
  | _, _, n + 1, .cons r t => .cons r (DenA.erase n t)
theorem mutD_pop : MutD Z popD rPopAt := by
  intro O H a xs vs dx ds dy rd h c1 c2 e
  unfold popD at e
  split at e
  · split at e
    · rename_i hs
      split at e
      · cases e
      · rename_i k p1
        split at e
        · cases e
        · rename_i d p2
          cases e
          cases c2 with
          | cons d' r =>
            cases r
            cases den_int d'
            obtain ⟨w, e1, dw⟩ := c1.get2 p2
            unfold small at hs
            have hs := of_decide_eq_true hs
            exact ⟨_, w, c1.erase k, dw, fun Q q => ⟨a, xs, _, k, w, rfl, rfl, h, by omega, by omega, by rw [c1.len]; exact p1, e1, q⟩⟩
    · cases e
  · cases e
theorem ev_append {i : Nat} {g : AF Z.T} {o e : Expr} {apos cpos : Pos} (ho : PE X o (tVar i)) (ha : PA X [e] (tA C g)) (hbase : attributeBase o "append" X.env (eval o X.env) = eval o X.env := by rfl)
    (hline : (apos.endLine == cpos.line) = true := by rfl) (hs : starEach [e] X.env = [(false, eval e X.env)] := by rfl) : PE X (.Call (.Attribute o "append" apos) [e] [] cpos) (tF C (mutF i appD g)) :=
  ev_mut PySem.F.slot_list_append PySem.F.type_list_append mt_append mutD_append ho ha hbase (by rw [hs]; rfl) hline hs (by rfl)
theorem ev_extend {i : Nat} {g : AF Z.T} {o e : Expr} {apos cpos : Pos} (ho : PE X o (tVar i)) (ha : PA X [e] (tA C g)) (hbase : attributeBase o "extend" X.env (eval o X.env) = eval o X.env := by rfl)
    (hline : (apos.endLine == cpos.line) = true := by rfl) (hs : starEach [e] X.env = [(false, eval e X.env)] := by rfl) : PE X (.Call (.Attribute o "extend" apos) [e] [] cpos) (tF C (mutF i extD g)) :=
  ev_mut PySem.F.slot_list_extend PySem.F.type_list_extend mt_extend mutD_extend ho ha hbase (by rw [hs]; rfl) hline hs (by rfl)
theorem ev_pop {i : Nat} {g : AF Z.T} {o e : Expr} {apos cpos : Pos} (ho : PE X o (tVar i)) (ha : PA X [e] (tA C g)) (hbase : attributeBase o "pop" X.env (eval o X.env) = eval o X.env := by rfl)
    (hline : (apos.endLine == cpos.line) = true := by rfl) (hs : starEach [e] X.env = [(false, eval e X.env)] := by rfl) : PE X (.Call (.Attribute o "pop" apos) [e] [] cpos) (tF C (mutF i popD g)) :=
  ev_mut PySem.F.slot_list_pop PySem.F.type_list_pop mt_popAt mutD_pop ho ha hbase (by rw [hs]; rfl) hline hs (by rfl)

/-! ### x[k] = e, x[k] op= e -/
/-- slot i's own list, changed at a place -/
def putAt (i : Nat) (τ : List Sl) (k : D) (d : D) : Option (List Sl) := match τ[i]?, k with
  | some (.o (.lst xs)), .int n => match ixN xs.length n with
    | none => none
    | some j => some (τ.set i (.o (.lst (xs.set j d))))
  | _, _ => none
def setIxF {T : Type} (i : Nat) (fk fe : EF T) : SF T := sbind fe fun r s => match give s.1 r with
  | none => none
  | some (d, τ) => match τ[i]? with
    | some (.o (.lst _)) => sbind fk (fun rk s2 => match peek s2.1 (hold rk) with
      | none => none
      | some k => match putAt i s2.1 k d with
        | none => none
        | some τ2 => some (.nx, (τ2, s2.2))) (τ, s.2)
    | _ => none
theorem KnS.bind {f : EF Z.T} {k : Res → SF Z.T} (h : KnS C (sbind f k) ow τ t H E) (R : C.Rel ow τ t σ H) (h0 : ow 0 = none) :
    tF C f σ H fun v H1 => ∃ ow1 τ1 t1 r, C.Rel ow1 τ1 t1 σ H1 ∧ ResOk C ow1 τ1 σ H1 v r ∧ KnS C (k r) ow1 τ1 t1 H1 E ∧ Ext (C.Hid ow) H (C.Hid ow1) H1 := by
  obtain ⟨o, s', e, h⟩ := h
  unfold sbind at e
  cases q : f (τ, t) with
  | none => rw [q] at e; cases e
  | some z =>
    obtain ⟨o1, s1⟩ := z
    rw [q] at e
    cases o1 with
    | ex c fs =>
      cases e
      exact ⟨ow, τ, t, _, _, R, h0, q, fun ow' d H' R' z x e => h ow' σ d H' R' z x e⟩
    | ok r => exact ⟨ow, τ, t, _, _, R, h0, q, fun ow1 v H1 R1 r1 x1 => ⟨ow1, s1.1, s1.2, r, R1, r1, ⟨o, s', e, h.from x1⟩, x1⟩⟩
theorem Rel.putAt {i : Nat} {k d : D} {τ2 : List Sl} {v w : V} (R : C.Rel ow τ t σ H) (e : FD.putAt i τ k d = some τ2) (hk : Shows Z (C.Hid ow) H v k) (hd : Den Z (C.Hid ow) H w d) :
    ∃ a xs n j, ow (i + 1) = some a ∧ σ[i]? = some (some (.ref a)) ∧ v = .int n ∧ H a = some (.lst xs) ∧ ixN xs.length n = some j ∧ C.Rel ow τ2 t σ (upd H a (.lst (xs.set j w))) := by
  unfold FD.putAt at e
  split at e
  · rename_i xs n p
    split at e
    · cases e
    · rename_i j p2
      cases e
      obtain ⟨a, ys, f1, f2, f3, c⟩ := R.ownLst p
      exact ⟨a, ys, n, j, f1, f2, hk.int, f3, by rw [c.len]; exact p2, R.mutS f1 p (fun _ q => nomatch q) (.lst (c.set j hd))⟩
  · cases e
theorem sv_setIx {i : Nat} {o k e : Expr} {fk fe : EF Z.T} {pos p2 : Pos} (he : PE X e (tF C fe)) (ho : PE X o (tVar i)) (hk : PE X k (tF C fk)) (hs : swapsWithSole [.Subscript o k p2] e pos.line X.env = pure false := by rfl)
    (hw : swappedStores [.Subscript o k p2] e X.env = pure none := by rfl)
    (ha : ∀ v, assign (.Subscript o k p2) X.env v = (do let ov ← holding [v] (eval o X.env); let iv ← holding [v, ov] (eval k X.env); standAt p2; holding [v, ov, iv] (setItem ov iv v); release [v, ov, iv] []) := by intro _; rfl) :
    PS X (.Assign [.Subscript o k p2] e pos) (tS C (setIxF i fk fe)) := ⟨fun pins s σ H E I h => (ps_asg he (pg_sub ho hk set_list ha) hs hw).run pins s σ H E I (by
  obtain ⟨ow, τ, t, R, z, kn⟩ := h
  refine tF_mono (kn.bind R z) fun w H1 ⟨ow1, τ1, t1, r, R1, r1, k1, x1⟩ => ?_
  obtain ⟨o1, s1, e1, k1⟩ := k1
  simp only at e1
  split at e1
  · cases e1
  · rename_i d τ2 p1
    obtain ⟨ow2, R2, z2, d2, x2⟩ := r1.give R1 p1
    split at e1
    · rename_i xs0 p0
      obtain ⟨a0, _, _, f2, _, _⟩ := R2.ownLst p0
      refine ⟨_, f2, ?_⟩
      have k2 : KnS C (sbind fk (fun rk s2 => match peek s2.1 (hold rk) with
        | none => none
        | some k => match putAt i s2.1 k d with
          | none => none
          | some τ2 => some (.nx, (τ2, s2.2)))) ow2 τ2 t1 H1 E := ⟨o1, s1, e1, k1.from x2⟩
      refine tF_mono (k2.bind R2 z2) fun kv H3 ⟨ow3, τ3, t3, rk, R3, r3, k3, x3⟩ => ?_
      obtain ⟨ow4, R4, z4, r4, x4⟩ := r3.hold R3
      obtain ⟨o3, s3, e3, k3⟩ := k3
      simp only at e3
      split at e3
      · cases e3
      · rename_i dk p3
        split at e3
        · cases e3
        · rename_i τ5 p4
          cases e3
          obtain ⟨a, ys, n, j, g1, g2, rfl, g3, g4, R5⟩ := R4.putAt p4 (r4.peek R4 p3) (d2.ext (x3.trans x4))
          rw [f2] at g2
          cases g2
          exact ⟨a0, ys, n, j, rfl, rfl, g3, g4, k3 ow4 σ _ R5 z4 (x4.trans (ext_upd (.inr ⟨_, g1⟩)))⟩
    · cases e1)⟩

/-! ### x op= e -/
def augF {T : Type} (i : Nat) (op : D → D → Option (D × Bool)) (f : EF T) : SF T := fun s => match s.1[i]? with
  | some (.v x) => sbind f (fun r s1 => match peek s1.1 (hold r) with
    | none => none
    | some y => match op x y with
      | some (z, false) => some (.nx, (s1.1.set i (.v z), s1.2))
      | _ => none) s
  | _ => none
def IpD (Z : Wd) (X : Cx) (op : Operator) (g : D → D → Option (D × Bool)) : Prop := PIp X op (rD2 Z g)
def addI : D → D → Option (D × Bool)
  | .int i, .int j => some (.int (i + j), false)
  | _, _ => none
def subI : D → D → Option (D × Bool)
  | .int i, .int j => some (.int (i - j), false)
  | _, _ => none
theorem ipD_add : IpD Z X .Add addI := by
  intro pins s σ H x y v u Q I rx ry h
  obtain ⟨O, dx, dy, z, hO, sx, sy, e, q⟩ := h
  unfold addI at e
  split at e
  · cases e
    cases sx.int; cases sy.int
    exact ip_add pins s σ H _ _ v u Q I rx ry ⟨_, _, rfl, rfl, q _ _ (.same (.int _))⟩
  · cases e
theorem ipD_sub : IpD Z X .Sub subI := by
  intro pins s σ H x y v u Q I rx ry h
  obtain ⟨O, dx, dy, z, hO, sx, sy, e, q⟩ := h
  unfold subI at e
  split at e
  · cases e
    cases sx.int; cases sy.int
    exact ip_sub pins s σ H _ _ v u Q I rx ry ⟨_, _, rfl, rfl, q _ _ (.same (.int _))⟩
  · cases e
theorem sv_aug {i : Nat} {x : Str} {e : Expr} {f : EF Z.T} {op : Operator} {g : D → D → Option (D × Bool)} {pos pos' : Pos} (hN : X.N.Nodup) (hi : X.N[i]? = some x) (hx : Loc X.env.scope x) (he : PE X e (tF C f)) (ho : IpD Z X op g)
    (hf : X.fn x = true ∨ X.env.scope.names.lookup x = some .local := by first | exact .inl rfl | exact .inr rfl) : PS X (.AugAssign (.Name x pos') op e pos) (tS C (augF i g f)) :=
  ⟨fun pins s σ H E I h => (ps_aug hN hi hx he ho hf).run pins s σ H E I (by
  obtain ⟨ow, τ, t, R, z, o, s', e, k⟩ := h
  unfold augF at e
  split at e
  · rename_i dx p
    obtain ⟨v, e1, dv⟩ := R.slot i _ p
    refine ⟨v, e1, ?_⟩
    have kn : KnS C (sbind f (fun r s1 => match peek s1.1 (hold r) with
      | none => none
      | some y => match g dx y with
        | some (z, false) => some (.nx, (s1.1.set i (.v z), s1.2))
        | _ => none)) ow τ t H E := ⟨o, s', e, k⟩
    refine tF_mono (kn.bind R z) fun y H1 ⟨ow1, τ1, t1, r, R1, r1, k1, x1⟩ => ?_
    obtain ⟨ow2, R2, z2, r2, x2⟩ := r1.hold R1
    obtain ⟨o1, s1, e2, k1⟩ := k1
    simp only at e2
    split at e2
    · cases e2
    · rename_i dy p2
      split at e2
      · rename_i dz p3
        cases e2
        refine ⟨_, dx, dy, _, fun p hp => R2.nohid hp, .den (dv.ext (x1.trans x2)), r2.peek R2 p2, p3, fun w H2 gt => ?_⟩
        exact k1 _ _ H2 ((R2.grown gt.1).set gt.2) (drop_zero z2) ((x2.trans gt.1.ext).trans ext_drop)
      · cases e2
  · cases e)⟩

/-! ### while -/
def whileN {T : Type} (c : EF T) (b : SF T) : Nat → SF T
  | 0 => fun _ => none
  | n + 1 => ifF c (fun s => match b s with
    | some (.nx, s1) => whileN c b n s1
    | some (.ct, s1) => whileN c b n s1
    | some (.bk, s1) => some (.nx, s1)
    | r => r) nxF
theorem whileN_noB {c : EF Z.T} {b : SF Z.T} : ∀ (n : Nat) (s : Sg Z.T) (o : SOut) (s' : Sg Z.T), whileN c b n s = some (o, s') → o ≠ .bk ∧ o ≠ .ct := by
  intro n
  induction n with
  | zero => intro s o s' e; cases e
  | succ n ih =>
    intro s o s' e
    unfold whileN ifF sbind at e
    split at e
    · cases e
    · cases e
      exact ⟨nofun, nofun⟩
    · dsimp only at e
      split at e
      · split at e
        · exact ih _ _ _ e
        · exact ih _ _ _ e
        · cases e
          exact ⟨nofun, nofun⟩
        · rename_i h1 h2 h3
          refine ⟨fun z => ?_, fun z => ?_⟩
          · subst z
            exact h3 _ e
          · subst z
            exact h2 _ e
      · cases e
        exact ⟨nofun, nofun⟩
      · cases e
def Ends.calm (E : Ends) : Ends := { nx := E.nx, rt := E.rt, bk := fun _ _ => False, ct := fun _ _ => False }
theorem FinS.calm {s' : Sg Z.T} {o : SOut} (h : FinS C ow H E s' o) (n : o ≠ .bk ∧ o ≠ .ct) : FinS C ow H (Ends.calm E) s' o := by
  cases o with
  | nx => exact h
  | rt r => exact h
  | bk => exact absurd rfl n.1
  | ct => exact absurd rfl n.2
  | ex c fs => exact h
theorem tS_while {c : EF Z.T} {b : SF Z.T} (n : Nat) (h : tS C (whileN c b n) E σ H) : tWhile (tT C c) (tS C b) E σ H := by
  refine ⟨fun m σ H => tS C (whileN c b m) (Ends.calm E) σ H, ⟨n, ?_⟩, fun m σ H w => ?_⟩
  · obtain ⟨ow, τ, t, R, z, o, s', e, k⟩ := h
    exact ⟨ow, τ, t, R, z, o, s', e, k.calm (whileN_noB _ _ _ _ e)⟩
  · cases m with
    | zero =>
      obtain ⟨ow, τ, t, R, z, o, s', e, k⟩ := w
      cases e
    | succ m =>
      refine tT_mono (tS_if w) fun bb H1 q => ?_
      cases bb with
      | false =>
        rw [if_neg (by decide)] at q ⊢
        obtain ⟨ow, τ, t, R, z, o, s', e, k⟩ := q
        cases e
        exact k ow σ H1 R z .refl
      | true =>
        rw [if_pos rfl] at q ⊢
        refine ⟨fun σ' H' => tS C (whileN c b m) (Ends.calm E) σ' H', fun σ' H' p => ⟨m, Nat.lt_succ_self m, p⟩, ?_⟩
        obtain ⟨ow, τ, t, R, z, o, s', e, k⟩ := q
        refine ⟨ow, τ, t, R, z, ?_⟩
        dsimp only at e
        split at e
        · rename_i s1 p
          exact ⟨.nx, s1, p, fun ow1 σ1 H1 R1 z1 x1 => ⟨ow1, s1.1, s1.2, R1, z1, o, s', e, k.from x1⟩⟩
        · rename_i s1 p
          exact ⟨.ct, s1, p, fun ow1 σ1 H1 R1 z1 x1 => ⟨ow1, s1.1, s1.2, R1, z1, o, s', e, k.from x1⟩⟩
        · rename_i s1 p
          cases e
          exact ⟨.bk, _, p, fun ow1 σ1 H1 R1 z1 x1 => k ow1 σ1 H1 R1 z1 x1⟩
        · rename_i n1 n2 n3
          cases o with
          | nx => exact absurd e (n1 s')
          | ct => exact absurd e (n2 s')
          | bk => exact absurd e (n3 s')
          | rt r => exact ⟨.rt r, s', e, k⟩
          | ex c fs => exact ⟨.ex c fs, s', e, k⟩
theorem whileN_mono {T : Type} {c : EF T} {b : SF T} : ∀ {n m : Nat} {s : Sg T} {r : SOut × Sg T}, n ≤ m → whileN c b n s = some r → whileN c b m s = some r := by
  intro n
  induction n with
  | zero => intro m s r _ e; cases e
  | succ n ih =>
    intro m s r hm e
    cases m with
    | zero => omega
    | succ m =>
      unfold whileN ifF sbind at e ⊢
      cases q : c s with
      | none => rw [q] at e; cases e
      | some w =>
        obtain ⟨o1, s1⟩ := w
        rw [q] at e
        cases o1 with
        | ex c fs => exact e
        | ok r1 =>
          simp only at e ⊢
          split at e
          · rename_i p
            split at e
            · rename_i s2 p2
              exact ih (by omega) e
            · rename_i s2 p2
              exact ih (by omega) e
            · rename_i s2 p2
              exact e
            · exact e
          · rename_i p
            exact e
          · cases e
open Classical in
/-- while: as many turns as it takes -/
noncomputable def whileF {T : Type} (c : EF T) (b : SF T) : SF T := fun s => if h : ∃ n r, whileN c b n s = some r then whileN c b h.choose s else none
theorem whileF_of {T : Type} {c : EF T} {b : SF T} {n : Nat} {s : Sg T} {r : SOut × Sg T} (e : whileN c b n s = some r) : whileF c b s = some r := by
  have h : ∃ n r, whileN c b n s = some r := ⟨n, r, e⟩
  unfold whileF
  rw [dif_pos h]
  obtain ⟨r', e'⟩ := h.choose_spec
  rw [e']
  rcases Nat.le_total n h.choose with l | l
  · rw [whileN_mono l e] at e'
    exact e'.symm
  · rw [whileN_mono l e'] at e
    exact e
theorem sv_while {c : Expr} {body : List Stmt} {f : EF Z.T} {b : SF Z.T} {pos : Pos} (hp : PassesOwn (model X.prog X.w) X.A X.env X.xe) (hc : PT X c (tT C f)) (hb : PSs X body (tS C b)) : PS X (.While c body [] pos) (tS C (whileF f b)) :=
  ⟨fun pins s σ H E I h => (ps_while hp hc hb).run pins s σ H E I (by
    obtain ⟨ow, τ, t, R, z, o, s', e, k⟩ := h
    have e0 := e
    unfold whileF at e
    split at e
    · rename_i hh
      exact tS_while hh.choose ⟨ow, τ, t, R, z, o, s', e, k⟩
    · cases e)⟩
end
end FD

/-! F13: assignments to targets, of two and three names at once. -/
namespace FD
open PySem PySem.Spec PyProof.Rows L2

def asgF {T : Type} (g : GF) (f : EF T) : SF T := sbind f fun r s => match give s.1 r with
  | none => none
  | some (d, τ) => match g d τ with
    | none => none
    | some τ1 => some (.nx, (τ1, s.2))
def lstG (n : Nat) (h : GFs) : GF := fun d τ => match d with
  | .lst ds => if ds.length = n then h ds τ else none
  | _ => none
/-- a, b = e, f -/
def parF {T : Type} (i j : Nat) (f g : EF T) : SF T := sbind f fun r s => match give s.1 r with
  | none => none
  | some (d, τ) => sbind g (fun r2 s2 => match storeAt j s2.1 r2 with
    | none => none
    | some τ2 => some (.nx, (τ2.set i (.v d), s2.2))) (τ, s.2)
/-- a, b = e, [] -/
def parNF {T : Type} (i j : Nat) (f : EF T) : SF T := sbind f fun r s => match storeAt i s.1 r with
  | none => none
  | some τ => some (.nx, (τ.set j (.o (.lst [])), s.2))
/-- a, b, c = e, f, g -/
def par3F {T : Type} (i j k : Nat) (f g h : EF T) : SF T := sbind f fun r s => match give s.1 r with
  | none => none
  | some (d, τ) => sbind g (fun r2 s2 => match give s2.1 r2 with
    | none => none
    | some (d2, τ2) => sbind h (fun r3 s3 => match storeAt k s3.1 r3 with
      | none => none
      | some τ3 => some (.nx, ((τ3.set j (.v d2)).set i (.v d), s3.2))) (τ2, s2.2)) (τ, s.2)
section
variable {Z : Wd} {C : Fx Z} {X : Cx} {ow : Nat → Option Addr} {τ : List Sl} {t : Z.T} {σ : L2.St} {H H' : Hp} {E : Ends} {S : List Nat}
theorem sv_asg {tg e : Expr} {f : EF Z.T} {g : GF} {pos : Pos} (he : PE X e (tF C f)) (hg : PG X tg (tG C S g)) (hs : swapsWithSole [tg] e pos.line X.env = pure false := by rfl) (hw : swappedStores [tg] e X.env = pure none := by rfl) (h1 : (assignEach [tg] X.env).map (·.2) = [assign tg X.env] := by rfl) :
    PS X (.Assign [tg] e pos) (tS C (asgF g f)) := ⟨fun pins s σ H E I h => (ps_asg he hg hs hw h1).run pins s σ H E I (by
  obtain ⟨ow, τ, t, R, z, kn⟩ := h
  refine tF_mono (kn.bind R z) fun v H1 ⟨ow1, τ1, t1, r, R1, r1, k1, x1⟩ => ?_
  obtain ⟨o1, s1, e1, k1⟩ := k1
  simp only at e1
  split at e1
  · cases e1
  · rename_i d τ2 p1
    obtain ⟨ow2, R2, z2, d2, x2⟩ := r1.give R1 p1
    split at e1
    · cases e1
    · rename_i τ3 p2
      cases e1
      exact ⟨ow2, τ2, t1, d, τ3, R2, z2, d2, p2, fun ow3 σ3 R3 z3 x3 _ => k1 ow3 σ3 H1 R3 z3 (x2.trans x3)⟩)⟩
theorem gv_lst {es : List Expr} {k n : Nat} {h : GFs} {pos : Pos} (hc : X.calm = true) (q : PGs X es (tGs C S h)) (hn : (assignEach es X.env).length = n := by rfl) (hst : (assignEach es X.env).findIdx? (·.1) = none := by rfl) : PG X (.Tuple es k pos) (tG C S (lstG n h)) := ⟨fun pins s σ H v u Q I r w => (pg_lst (n := n) hc q hn hst).run pins s σ H v u Q I r (by
  obtain ⟨ow, τ, t, d, τ', R, z, dn, e, k⟩ := w
  unfold lstG at e
  split at e
  · split at e
    · rename_i hl
      obtain ⟨a, xs, rfl, h1, c⟩ := (Shows.den dn).lst
      exact ⟨a, xs, rfl, SqL.of h1, c.len.trans hl, ow, τ, t, _, τ', R, z, c, e, k⟩
    · cases e
  · cases e)⟩
theorem sv_par {i j : Nat} {x y : Str} {a b : Expr} {f g : EF Z.T} {px py pt pos : Pos} {kt k2 pt2} (hc : X.calm = true) (hN : X.N.Nodup) (hi : X.N[i]? = some x) (hj : X.N[j]? = some y) (hij : i ≠ j)
    (hx : X.env.scope.names.lookup x = some .local) (hy : X.env.scope.names.lookup y = some .local) (ha : PE X a (tF C f)) (hb : PE X b (tF C g))
    (hw : swappedStores [.Tuple [.Name x px, .Name y py] kt pt] (.Tuple [a, b] k2 pt2) X.env = pure (some [x, y]))
    (hs : swapsWithSole [.Tuple [.Name x px, .Name y py] kt pt] (.Tuple [a, b] k2 pt2) pos.line X.env = pure false := by rfl)
    (h1 : starEach [a, b] X.env = (false, eval a X.env) :: starEach [b] X.env := by rfl) (h2 : starEach [b] X.env = (false, eval b X.env) :: starEach [] X.env := by rfl) :
    PS X (.Assign [.Tuple [.Name x px, .Name y py] kt pt] (.Tuple [a, b] k2 pt2) pos) (tS C (parF i j f g)) :=
  ⟨fun pins s σ H E I h => (ps_par hc hN hi hj hij hx hy (pa_cons ha (pa_cons hb pa_nil h2) h1) hw hs).run pins s σ H E I (by
    obtain ⟨ow, τ, t, R, z, kn⟩ := h
    refine tF_mono (kn.bind R z) fun v H1 ⟨ow1, τ1, t1, r, R1, r1, k1, x1⟩ => ?_
    obtain ⟨o1, s1, e1, k1⟩ := k1
    simp only at e1
    split at e1
    · cases e1
    · rename_i d τ2 p1
      obtain ⟨ow2, R2, z2, d2, x2⟩ := r1.give R1 p1
      have kn2 : KnS C (sbind g (fun r2 s2 => match storeAt j s2.1 r2 with
        | none => none
        | some τ2 => some (.nx, (τ2.set i (.v d), s2.2)))) ow2 τ2 t1 H1 E := ⟨o1, s1, e1, k1.from x2⟩
      refine tF_mono (kn2.bind R2 z2) fun w H3 ⟨ow3, τ3, t3, r3, R3, q3, k3, x3⟩ => ?_
      obtain ⟨o3, s3, e3, k3⟩ := k3
      simp only at e3
      split at e3
      · cases e3
      · rename_i τ4 p3
        cases e3
        obtain ⟨ow4, R4, z4, x4⟩ := R3.store q3 p3
        have R5 := R4.set (i := i) (d2.ext (x3.trans x4))
        rw [List.set_comm _ _ (Ne.symm hij)] at R5
        exact ⟨v, w, rfl, k3 _ _ H3 R5 (drop_zero z4) (x4.trans ext_drop)⟩)⟩
theorem sv_parN {i j : Nat} {x y : Str} {a : Expr} {f : EF Z.T} {px py pt pos pe : Pos} {kt k2 pt2} (hc : X.calm = true) (hN : X.N.Nodup) (hi : X.N[i]? = some x) (hj : X.N[j]? = some y) (hij : i ≠ j)
    (hx : X.env.scope.names.lookup x = some .local) (hy : X.env.scope.names.lookup y = some .local) (ha : PE X a (tF C f))
    (hw : swappedStores [.Tuple [.Name x px, .Name y py] kt pt] (.Tuple [a, .List [] pe] k2 pt2) X.env = pure (some [x, y]))
    (hs : swapsWithSole [.Tuple [.Name x px, .Name y py] kt pt] (.Tuple [a, .List [] pe] k2 pt2) pos.line X.env = pure false := by rfl)
    (h1 : starEach [a, .List [] pe] X.env = (false, eval a X.env) :: starEach [.List [] pe] X.env := by rfl) :
    PS X (.Assign [.Tuple [.Name x px, .Name y py] kt pt] (.Tuple [a, .List [] pe] k2 pt2) pos) (tS C (parNF i j f)) :=
  ⟨fun pins s σ H E I h => (ps_par hc hN hi hj hij hx hy (pa_cons ha (pa_cons (pe_lst pa_nil) pa_nil) h1) hw hs).run pins s σ H E I (by
    obtain ⟨ow, τ, t, R, z, kn⟩ := h
    refine tF_mono (kn.bind R z) fun v H1 ⟨ow1, τ1, t1, r, R1, r1, k1, x1⟩ => ?_
    obtain ⟨o1, s1, e1, k1⟩ := k1
    simp only at e1
    split at e1
    · cases e1
    · rename_i τ2 p1
      cases e1
      obtain ⟨ow2, R2, z2, x2⟩ := R1.store r1 p1
      refine ⟨Nat.zero_le _, fun p hp => ?_⟩
      have R3 := R2.pend (o := .lst []) z2 hp (fun _ q => nomatch q)
      have R4 := R3.setOwn (i := j) (d := .lst []) put_same upd_same (.lst .nil)
      refine ⟨v, _, rfl, k1 _ _ _ R4 ?_ ((x2.trans (ext_put hp)).trans ext_move)⟩
      unfold move
      rw [if_neg (by omega), if_pos rfl])⟩
end
end FD

/-! F14: sums, greatest and least of tuples of ints; list(range(..)); isinstance. -/
namespace FD
open PySem PySem.Spec PyProof.Rows L2
section
variable {prog : Program} {w : World} {A : Around} {E : Value → Shared → Prop} {s : Shared} {l : Addr} {xs : Array (Int × Tok)}
theorem sum_intTup {Q : Value → Shared → Prop} (hh : A.handled = none) (hl : s.heap.IsTuple l (intItems xs))
    (h : ∀ h' tk t', (∀ b o, s.heap.get? b = some o → h'.get? b = some o) → Q (.int (preSum (numAt xs) xs.size) t') { s with heap := h', toks := tk }) : wpAny (model prog w) A (call (.builtin "sum") [.ref l]) Q E s := by
  have hlt : l < s.heap.objs.size := by
    obtain ⟨o, e, _⟩ := hl
    exact Heap.lt_size e
  refine call_sum_walkG (wpAny_pyIter_tuple hl ?_)
  refine ⟨s.heap.objs.size, [s.heap.objs.size, l], [s.heap.objs.size], _, _, _, numAt xs, rfl, Walks.tuple (A := A.in1) hh _ l (Nat.ne_of_lt hlt) (intItems xs), ⟨⟨_, Heap.get?_push_size _ rfl, rfl, rfl⟩, hl.push _⟩, fun c hc => ?_, fun _ _ => intItems_at, fun h' tk t' hk => ?_⟩
  · show c < (s.heap.push _).objs.size
    rw [Heap.size_push]
    rcases List.mem_cons.mp hc with rfl | hc
    · exact Nat.lt_succ_self _
    · rcases List.mem_cons.mp hc with rfl | hc
      · exact Nat.lt_succ_of_lt hlt
      · cases hc
  · have := h h' tk t' fun b o e => hk b o (fun hm => absurd (List.mem_singleton.mp hm) (Nat.ne_of_lt (Heap.lt_size e))) (Heap.get?_push_of_some _ e)
    simpa [intItems] using this
theorem max_intTup {Q : Value → Shared → Prop} (hh : A.handled = none) (hl : s.heap.IsTuple l (intItems xs)) (hne : 0 < xs.size)
    (h : ∀ v h' tk, (intItems xs)[argBest (fun i j => decide (numAt xs i > numAt xs j)) (xs.size - 1)]? = some v → (∀ b o, s.heap.get? b = some o → h'.get? b = some o) → Q v { s with heap := h', toks := tk }) :
    wpAny (model prog w) A (call (.builtin "max") [.ref l]) Q E s := by
  have hlt : l < s.heap.objs.size := by
    obtain ⟨o, e, _⟩ := hl
    exact Heap.lt_size e
  refine call_max_walk (wpAny_pyIter_tuple hl ?_)
  refine ⟨s.heap.objs.size, [s.heap.objs.size, l], [s.heap.objs.size], _, _, _, _, rfl, Walks.tuple (A := A.in1) hh _ l (Nat.ne_of_lt hlt) (intItems xs), ⟨⟨_, Heap.get?_push_size _ rfl, rfl, rfl⟩, hl.push _⟩, fun c hc => ?_, by simpa [intItems] using hne, CmpOf.ints_gt (numAt xs) (fun _ _ => intItems_at), fun v h' tk hP hk => ?_⟩
  · show c < (s.heap.push _).objs.size
    rw [Heap.size_push]
    rcases List.mem_cons.mp hc with rfl | hc
    · exact Nat.lt_succ_self _
    · rcases List.mem_cons.mp hc with rfl | hc
      · exact Nat.lt_succ_of_lt hlt
      · cases hc
  · refine h v h' tk (by simpa [intItems] using hP) fun b o e => hk b o (fun hm => absurd (List.mem_singleton.mp hm) (Nat.ne_of_lt (Heap.lt_size e))) (Heap.get?_push_of_some _ e)
theorem min_intTup {Q : Value → Shared → Prop} (hh : A.handled = none) (hl : s.heap.IsTuple l (intItems xs)) (hne : 0 < xs.size)
    (h : ∀ v h' tk, (intItems xs)[argBest (fun i j => decide (numAt xs i < numAt xs j)) (xs.size - 1)]? = some v → (∀ b o, s.heap.get? b = some o → h'.get? b = some o) → Q v { s with heap := h', toks := tk }) :
    wpAny (model prog w) A (call (.builtin "min") [.ref l]) Q E s := by
  have hlt : l < s.heap.objs.size := by
    obtain ⟨o, e, _⟩ := hl
    exact Heap.lt_size e
  refine call_min_walk (wpAny_pyIter_tuple hl ?_)
  refine ⟨s.heap.objs.size, [s.heap.objs.size, l], [s.heap.objs.size], _, _, _, _, rfl, Walks.tuple (A := A.in1) hh _ l (Nat.ne_of_lt hlt) (intItems xs), ⟨⟨_, Heap.get?_push_size _ rfl, rfl, rfl⟩, hl.push _⟩, fun c hc => ?_, by simpa [intItems] using hne, CmpOf.ints_lt (numAt xs) (fun _ _ => intItems_at), fun v h' tk hP hk => ?_⟩
  · show c < (s.heap.push _).objs.size
    rw [Heap.size_push]
    rcases List.mem_cons.mp hc with rfl | hc
    · exact Nat.lt_succ_self _
    · rcases List.mem_cons.mp hc with rfl | hc
      · exact Nat.lt_succ_of_lt hlt
      · cases hc
  · refine h v h' tk (by simpa [intItems] using hP) fun b o e => hk b o (fun hm => absurd (List.mem_singleton.mp hm) (Nat.ne_of_lt (Heap.lt_size e))) (Heap.get?_push_of_some _ e)
end
section
variable {Z : Wd} {C : Fx Z} {X : Cx}
theorem ints_items {its : List Value} {ns : List Int} (hi : IntsAre its ns) : ∃ xs, its.toArray = intItems xs ∧ xs.size = ns.length ∧ preSum (numAt xs) xs.size = ns.sum ∧ (xs.toList.map (·.1)) = ns := by
  obtain ⟨xs, e⟩ := hi.allInts.items
  have hn : numsOf (intItems xs).toList = ns := by rw [← e]; exact hi.numsOf
  rw [nums_intItems] at hn
  refine ⟨xs, e, ?_, ?_, hn⟩
  · rw [← hn]
    simp
  · rw [preSum_eq, List.take_of_length_le (by simp), hn]
def sumD : List D → Option (D × Bool)
  | [.lst ds] => (intsD ds).map fun ns => (.int ns.sum, false)
  | [.tup ds] => (intsD ds).map fun ns => (.int ns.sum, false)
  | _ => none
theorem cD_sum (hc : X.calm = true) : CallD Z X (.builtin "sum") sumD := by
  intro pins s σ H xs us Q I r h
  obtain ⟨O, ds, z, hO, sh, e, q⟩ := h
  unfold sumD at e
  split at e
  · exact cD_sumL hc pins s σ H xs us Q I r ⟨O, _, z, hO, sh, e, q⟩
  · obtain ⟨ns, e1, rfl⟩ := Option.map_eq_some_iff.mp e
    cases intsD_of e1
    cases sh with
    | cons sx sr =>
      cases sr
      obtain ⟨a, ys, rfl, h1, c1, _⟩ := sx.tup
      cases c1.ints
      obtain ⟨its, rv, ht, _⟩ := I.tuple (SqT.of h1)
      obtain ⟨zs, e2, e3, e4, _⟩ := ints_items rv.ints
      rw [Vals.ref1 r]
      have ht : s.heap.IsTuple a its.toArray := ht
      rw [e2] at ht
      refine sum_intTup (I.ok.hd hc) ht fun h' tk t' hk => ⟨.int _, H, I.kept hk, ⟨_, rfl⟩, ?_⟩
      rw [e4]
      exact q _ _ (.same (.int _))
  · cases e
def maxD : List D → Option (D × Bool)
  | [.lst ds] => maxLD [.lst ds]
  | [.tup ds] => match intsD ds with
    | some (n :: ns) => some (.int (maxL (n :: ns)), false)
    | _ => none
  | _ => none
def minD : List D → Option (D × Bool)
  | [.lst ds] => minLD [.lst ds]
  | [.tup ds] => match intsD ds with
    | some (n :: ns) => some (.int (minL (n :: ns)), false)
    | _ => none
  | _ => none
theorem cD_max (hc : X.calm = true) : CallD Z X (.builtin "max") maxD := by
  intro pins s σ H xs us Q I r h
  obtain ⟨O, ds, z, hO, sh, e, q⟩ := h
  unfold maxD at e
  split at e
  · exact cD_maxL hc pins s σ H xs us Q I r ⟨O, _, z, hO, sh, e, q⟩
  · split at e
    · rename_i n ns e1
      cases e
      cases intsD_of e1
      cases sh with
      | cons sx sr =>
        cases sr
        obtain ⟨a, ys, rfl, h1, c1, _⟩ := sx.tup
        cases c1.ints
        obtain ⟨its, rv, ht, _⟩ := I.tuple (SqT.of h1)
        obtain ⟨zs, e2, e3, e4, e5⟩ := ints_items rv.ints
        rw [Vals.ref1 r]
        have ht : s.heap.IsTuple a its.toArray := ht
        rw [e2] at ht
        refine max_intTup (I.ok.hd hc) ht (by rw [e3]; simp) fun v h' tk hv hk => ?_
        obtain ⟨t, rfl⟩ := intItems_at hv
        obtain ⟨h1, h2⟩ := argBest_gt (numAt zs) (zs.size - 1)
        refine ⟨.int _, H, I.kept hk, ⟨_, rfl⟩, ?_⟩
        have hm : numAt zs (argBest (fun i j => decide (numAt zs i > numAt zs j)) (zs.size - 1)) = maxL (n :: ns) := by
          refine Int.le_antisymm ?_ ?_
          · refine maxL_le ?_
            rw [← e5, numAt_eq]
            exact PySem.getD_mem (by rw [List.length_map, Array.length_toList]; have : zs.size = (n :: ns).length := e3; simp only [List.length_cons] at this; omega)
          · have hmem := maxL_mem (xs := n :: ns) (by simp)
            rw [← e5] at hmem
            obtain ⟨j, hj, ej⟩ := mem_getD hmem
            have := h2 j (by rw [List.length_map, Array.length_toList] at hj; omega)
            rw [e5] at ej
            rw [numAt_eq zs j, e5] at this
            omega
        rw [hm]
        exact q _ _ (.same (.int _))
    · cases e
  · cases e
end
end FD

/-! F15: small rules: isinstance, list(range(..)), in, y = [..]. -/
namespace FD
open PySem PySem.Spec PyProof.Rows L2
theorem takes_dead {Z : Wd} {X : Cx} {C : Fx Z} (w : C.W = dead) : Takes X C.W := by
  rw [w]
  exact takes0
theorem runF_len {T : Type} {N n : Nat} {f : SF T} {ds : List D} {t : T} {o : FOut × T} (h : runF N n f ds t = some o) : ds.length = n := by
  unfold runF at h
  split at h
  · assumption
  · cases h
section
variable {Z : Wd} {C : Fx Z} {X : Cx}
theorem cD_min (hc : X.calm = true) : CallD Z X (.builtin "min") minD := by
  intro pins s σ H xs us Q I r h
  obtain ⟨O, ds, z, hO, sh, e, q⟩ := h
  unfold minD at e
  split at e
  · exact cD_minL hc pins s σ H xs us Q I r ⟨O, _, z, hO, sh, e, q⟩
  · split at e
    · rename_i n ns e1
      cases e
      cases intsD_of e1
      cases sh with
      | cons sx sr =>
        cases sr
        obtain ⟨a, ys, rfl, h1, c1, _⟩ := sx.tup
        cases c1.ints
        obtain ⟨its, rv, ht, _⟩ := I.tuple (SqT.of h1)
        obtain ⟨zs, e2, e3, e4, e5⟩ := ints_items rv.ints
        rw [Vals.ref1 r]
        have ht : s.heap.IsTuple a its.toArray := ht
        rw [e2] at ht
        refine min_intTup (I.ok.hd hc) ht (by rw [e3]; simp) fun v h' tk hv hk => ?_
        obtain ⟨t, rfl⟩ := intItems_at hv
        obtain ⟨h1, h2⟩ := argBest_lt (numAt zs) (zs.size - 1)
        refine ⟨.int _, H, I.kept hk, ⟨_, rfl⟩, ?_⟩
        have hm : numAt zs (argBest (fun i j => decide (numAt zs i < numAt zs j)) (zs.size - 1)) = minL (n :: ns) := by
          refine Int.le_antisymm ?_ ?_
          · have hmem := minL_mem (xs := n :: ns) (by simp)
            rw [← e5] at hmem
            obtain ⟨j, hj, ej⟩ := mem_getD hmem
            have := h2 j (by rw [List.length_map, Array.length_toList] at hj; omega)
            rw [e5] at ej
            rw [numAt_eq zs j, e5] at this
            omega
          · refine minL_le ?_
            rw [← e5, numAt_eq]
            exact PySem.getD_mem (by rw [List.length_map, Array.length_toList]; have : zs.size = (n :: ns).length := e3; simp only [List.length_cons] at this; omega)
        rw [hm]
        exact q _ _ (.same (.int _))
    · cases e
  · cases e
/-! ### isinstance -/
def tyN : D → Option String
  | .non => some "NoneType"
  | .bl _ => some "bool"
  | .int _ => some "int"
  | .str _ => some "str"
  | .tup _ => some "tuple"
  | .lst _ => some "list"
  | .dct _ => some "dict"
  | _ => none
def kinds : List String := ["int", "bool", "str", "list", "tuple", "dict"]
def isA (t T : String) : Bool := t == T || (t == "bool" && T == "int")
def isAny (t : String) : List D → Option Bool
  | [] => some false
  | .ty T :: r => if T ∈ kinds then (isAny t r).map (isA t T || ·) else none
  | _ => none
def isiD : List D → Option (D × Bool)
  | [x, .ty T] => match tyN x with
    | some t => if T ∈ kinds then some (.bl (isA t T), false) else none
    | none => none
  | [x, .tup Ts] => match tyN x with
    | some t => (isAny t Ts).map fun b => (.bl b, false)
    | none => none
  | _ => none
theorem tyN_ok {K : PySem.W.Frag} {O : Addr → Prop} {H : Hp} {v : V} {d : D} {t : String} (s : Shows Z O H v d) (e : tyN d = some t) : TyX K H v (.type t) := by
  unfold tyN at e
  split at e
  · cases e; cases s.non; exact .base .non
  · cases e; cases s.bl; exact .base (.bl _)
  · cases e; cases s.int; exact .base (.int _)
  · cases e; cases s.str; exact .base (.str _)
  · cases e
    obtain ⟨a, xs, rfl, h, _⟩ := s.tup
    exact .base (.tup h)
  · cases e
    obtain ⟨a, xs, rfl, h, _⟩ := s.lst
    exact .base (.lst h)
  · cases e
    obtain ⟨a, xs, rfl, h, _⟩ := s.dct
    exact .base (.dK h)
  · cases e
theorem kit_is {K : PySem.W.Frag} {d : D} {t T : String} (e : tyN d = some t) (h : T ∈ kinds) : PySem.W.kitOne K (.type t) (.type T) = some (isA t T) := by
  have cases6 : ∀ {Pr : String → Prop}, (∀ S ∈ kinds, Pr S) → Pr T := fun z => z T h
  refine kit_ty ?_
  unfold tyN at e
  split at e
  · cases e; exact cases6 (Pr := fun T => kitB "NoneType" T = some (isA "NoneType" T)) (by decide +kernel)
  · cases e; exact cases6 (Pr := fun T => kitB "bool" T = some (isA "bool" T)) (by decide +kernel)
  · cases e; exact cases6 (Pr := fun T => kitB "int" T = some (isA "int" T)) (by decide +kernel)
  · cases e; exact cases6 (Pr := fun T => kitB "str" T = some (isA "str" T)) (by decide +kernel)
  · cases e; exact cases6 (Pr := fun T => kitB "tuple" T = some (isA "tuple" T)) (by decide +kernel)
  · cases e; exact cases6 (Pr := fun T => kitB "list" T = some (isA "list" T)) (by decide +kernel)
  · cases e; exact cases6 (Pr := fun T => kitB "dict" T = some (isA "dict" T)) (by decide +kernel)
  · cases e
theorem kit_any {K : PySem.W.Frag} {O : Addr → Prop} {H : Hp} {d : D} {t : String} (e : tyN d = some t) : ∀ {vs : List V} {Ts : List D} {b : Bool}, DenA Z O H vs Ts → isAny t Ts = some b → ∃ us, Paired ClsV vs us ∧ PySem.W.kitAny K (.type t) us = some b
  | _, [], _, .nil, h => by
    cases h
    exact ⟨[], .nil, kitAny_nil⟩
  | _, T :: Ts, b, .cons hv hr, h => by
    cases T with
    | ty T =>
      unfold isAny at h
      split at h
      · rename_i hT
        obtain ⟨b1, h1, rfl⟩ := Option.map_eq_some_iff.mp h
        obtain ⟨us, p, k⟩ := kit_any e hr h1
        cases (Shows.den hv).ty
        refine ⟨.type T :: us, .cons (.ty T) p, kitAny_cons (kit_is e hT) (fun z => ?_) (fun z => ?_)⟩
        · rw [z, Bool.false_or]
          exact k
        · rw [z, Bool.true_or]
      · cases h
    | _ => simp [isAny] at h
theorem cD_isi : CallD Z X (.builtin "isinstance") isiD := by
  intro pins s σ H xs us Q I r h
  obtain ⟨O, ds, z, hO, sh, e, q⟩ := h
  unfold isiD at e
  split at e
  · split at e
    · rename_i t e1
      split at e
      · rename_i hT
        cases e
        cases sh with
        | cons sx sr => cases sr with
          | cons sy sr =>
            cases sr
            cases sy.ty
            exact call_isi pins s σ H _ us Q I r ⟨_, .ty _, .type t, .type _, _, rfl, .ty _, tyN_ok sx e1, kit_is e1 hT, q _ _ (.same (.bl _))⟩
      · cases e
    · cases e
  · split at e
    · rename_i t e1
      obtain ⟨b, e2, rfl⟩ := Option.map_eq_some_iff.mp e
      cases sh with
      | cons sx sr => cases sr with
        | cons sy sr =>
          cases sr
          obtain ⟨a, ys, rfl, h1, c1, _⟩ := sy.tup
          obtain ⟨ws, p, k⟩ := kit_any e1 c1 e2
          exact call_isiT pins s σ H _ us Q I r ⟨_, a, ys, .type t, ws, b, rfl, h1, p, tyN_ok sx e1, k, q _ _ (.same (.bl _))⟩
    · cases e
  · cases e

/-! ### in, not in -/
def inD : D → D → Option (D × Bool)
  | x, .lst ds => if okD 63 x = true ∧ okAll 63 ds = true then some (.bl (ds.any fun z => eqB z x), false) else none
  | _, _ => none
def notInD : D → D → Option (D × Bool)
  | x, .lst ds => if okD 63 x = true ∧ okAll 63 ds = true then some (.bl (!ds.any fun z => eqB z x), false) else none
  | _, _ => none
mutual
theorem okD_up : ∀ {n m : Nat} {d : D}, n ≤ m → okD n d = true → okD m d = true
  | _, _, .non, _, _ => by simp [okD]
  | _, _, .bl _, _, _ => by simp [okD]
  | _, _, .int _, _, _ => by simp [okD]
  | n, m, .str _, _, h => by cases n <;> cases m <;> simpa [okD] using h
  | 0, _, .tup _, _, h => by simp [okD] at h
  | 0, _, .lst _, _, h => by simp [okD] at h
  | n + 1, 0, .tup _, l, _ => by omega
  | n + 1, 0, .lst _, l, _ => by omega
  | n + 1, m + 1, .tup ds, l, h => by
    simp only [okD] at h ⊢
    exact okAll_up (by omega) h
  | n + 1, m + 1, .lst ds, l, h => by
    simp only [okD] at h ⊢
    exact okAll_up (by omega) h
  | n, _, .dct _, _, h => by cases n <;> simp [okD] at h
  | n, _, .obj _ _, _, h => by cases n <;> simp [okD] at h
  | n, _, .ty _, _, h => by cases n <;> simp [okD] at h
  | n, _, .hnd _, _, h => by cases n <;> simp [okD] at h
theorem okAll_up : ∀ {n m : Nat} {ds : List D}, n ≤ m → okAll n ds = true → okAll m ds = true
  | _, _, [], _, _ => by simp [okAll]
  | n, m, d :: ds, l, h => by
    simp only [okAll, Bool.and_eq_true] at h ⊢
    exact ⟨okD_up l h.1, okAll_up l h.2⟩
end
theorem pys_any (x : D) : ∀ ds : List D, (pys ds).any (fun z => PyData.eqv z (py x)) = ds.any fun z => eqB z x
  | [] => rfl
  | d :: ds => by
    simp only [pys, List.any_cons, pys_any x ds]
    rfl
theorem opD_in (hu : X.A.units + 65 < cLine) : OpD Z X (compareOp .In) inD := by
  intro pins s σ H x y v u Q I rx ry h
  obtain ⟨O, dx, dy, z, hO, sx, sy, e, q⟩ := h
  unfold inD at e
  split at e
  · rename_i ds
    split at e
    · rename_i hc
      cases e
      have h1 : okD 64 dx = true := okD_up (by omega) hc.1
      have h2 : okD 64 (.lst ds) = true := by simpa [okD] using hc.2
      have := sy.dp (K := X.K) h2
      simp only [py] at this
      have sh := okD_shaped h2
      simp only [py] at sh
      exact op_inD hu pins s σ H _ _ v u Q I rx ry ⟨_, _, sx.dp h1, this, okD_shaped h1, sh, by rw [pys_any]; exact q _ _ (.same (.bl _))⟩
    · cases e
  · cases e
theorem opD_notIn (hu : X.A.units + 65 < cLine) : OpD Z X (compareOp .NotIn) notInD := by
  intro pins s σ H x y v u Q I rx ry h
  obtain ⟨O, dx, dy, z, hO, sx, sy, e, q⟩ := h
  unfold notInD at e
  split at e
  · rename_i ds
    split at e
    · rename_i hc
      cases e
      have h1 : okD 64 dx = true := okD_up (by omega) hc.1
      have h2 : okD 64 (.lst ds) = true := by simpa [okD] using hc.2
      have := sy.dp (K := X.K) h2
      simp only [py] at this
      have sh := okD_shaped h2
      simp only [py] at sh
      exact op_notInD hu pins s σ H _ _ v u Q I rx ry ⟨_, _, sx.dp h1, this, okD_shaped h1, sh, by rw [pys_any]; exact q _ _ (.same (.bl _))⟩
    · cases e
  · cases e

/-! ### y = [..] -/
theorem sv_setLc {i : Nat} {y : Str} {py : Pos} {elt tg iter : Expr} {ifs : List Expr} {scope : Scope} {own : List (Str × Nat)} {pos spos : Pos} {S sh : List Nat} {it : IF Z.T} {g : GF} {c e : EF Z.T} (hc : X.calm = true) (hN : X.N.Nodup) (hi : PI X tg iter (tI C it)) (ok : BlkOk X.N X.env.scope scope own)
    (hg : ∀ (C : Fx Z), C.W = dead → ∀ (s : Shared) (H : Hp) (A : Addr) (cl : List (Str × Addr)) (fp : List Addr), PG (X.blk s H scope (compEnvC scope cl A X.env) fp) tg (tG C S g))
    (ht : ∀ (s : Shared) (H : Hp) (A : Addr) (cl : List (Str × Addr)) (fp : List Addr), PTs (X.blk s H scope (compEnvC scope cl A X.env) fp) ifs (tTx Z c))
    (he : ∀ (C : Fx Z), C.W = dead → ∀ (s : Shared) (H : Hp) (A : Addr) (cl : List (Str × Addr)) (fp : List Addr), PE (X.blk s H scope (compEnvC scope cl A X.env) fp) elt (tF C e))
    (hy : X.N[i]? = some y) (hyl : X.env.scope.names.lookup y = some .local) (hsw : swapsWith (.ListComp elt [⟨tg, iter, ifs, 0⟩] scope pos) (some (.Name y py)) spos.line X.env = pure true)
    (hS : ∀ i ∈ S, i ∈ own.map (·.2) := by decide) (hs : ∀ x, foldedSetIterable iter X.env x = pure x := by intro _; rfl) : PS X (.Assign [.Name y py] (.ListComp elt [⟨tg, iter, ifs, 0⟩] scope pos) spos) (tS C (setF i (lcF sh (own.map (·.2)) it g c e))) :=
  ⟨fun pins s σ H E I h => (ps_setLc hc hN hy hyl hsw hi ok (fun s H A cl fp => ex_G fun C w => hg C w s H A cl fp) ht (fun s H A cl fp => ex_F fun C w => he C w s H A cl fp) hs).run pins s σ H E I (tF_lc hS (tS_set h))⟩
end
end FD

/-! F16: repr of lists and tuples of data. -/
namespace FD
open PySem PySem.Spec PyProof.Rows L2
mutual
inductive Hq (H : Hp) : V → PyData → Prop
  | non : Hq H .non .none
  | bl (b : Bool) : Hq H (.bl b) (.bool b)
  | int (i : Int) : Hq H (.int i) (.int i)
  | str (x : Str) : Hq H (.str x) (.str x)
  | tup {a : Addr} {xs : List V} {ds : List PyData} : H a = some (.tup xs) → HqAll H xs ds → Hq H (.ref a) (.tuple ds)
  | lst {a : Addr} {xs : List V} {ds : List PyData} : H a = some (.lst xs) → HqAll H xs ds → Hq H (.ref a) (.list ds)
  | dct {a : Addr} : H a = some (.dK []) → Hq H (.ref a) (.dict [])
inductive HqAll (H : Hp) : List V → List PyData → Prop
  | nil : HqAll H [] []
  | cons {v : V} {vs : List V} {d : PyData} {ds : List PyData} : Hq H v d → HqAll H vs ds → HqAll H (v :: vs) (d :: ds)
end
section
variable {X : Cx} {pins : List (Addr × Obj)} {σ : L2.St} {H : Hp} {s : Shared}
theorem dict0 (I : Inv X pins σ H s) {a : Addr} (h : H a = some (.dK [])) : (a == sysModules) = false ∧ ∃ o n, s.heap.get? a = some o ∧ o.cls = .type "dict" ∧ o.data = .dict #[] n := by
  obtain ⟨_, ns, kvs, rel, o, es, ep, e1, e2, e3, e4, e5, _⟩ := (show ObjOk X.prog X.w H s.heap a (.dK []) from I.hok a _ h)
  cases rel
  have e6 : es.toList = [] := by
    cases hq : es.toList with
    | nil => rfl
    | cons x r =>
      rw [hq] at e5
      cases e5
  obtain ⟨l⟩ := es
  have e7 : l = [] := e6
  subst e7
  exact ⟨ns, o, ep, e1, e2.1, e3⟩
/-- what repr gives of a value -/
def ShowsQ (X : Cx) (s : Shared) (u : Value) (d : PyData) : Prop := ∃ as bs, Reads s.heap u d as ∧ ReadAtMost s.heap d.depth bs ∧ ReprK X.prog X.w bs s.heap d.depth u d.shown
def ShowsQA (X : Cx) (s : Shared) (us : List Value) (ds : List PyData) : Prop := ∃ as bs, ReadsAll s.heap us ds as ∧ ReadAtMost s.heap (PyData.depthAll ds) bs ∧ ReprAllK X.prog X.w bs s.heap (PyData.depthAll ds) us (PyData.shownAll ds)
mutual
theorem Hq.shows (I : Inv X pins σ H s) : ∀ (d : PyData) (v : V) (u : Value), Hq H v d → RelV v u → d.showable = true → d.shown.length ≤ sizeLine → ShowsQ X s u d
  | .none, _, _, h, r, _, _ => by
    cases h
    cases r
    exact ⟨_, [], .none, (fun _ z => nomatch z), by simp only [PyData.shown]; exact .of_is ReprIs.none _ _ _⟩
  | .bool b, _, _, h, r, _, _ => by
    cases h
    cases r
    exact ⟨_, [], .bool b, (fun _ z => nomatch z), by simp only [PyData.shown]; exact .of_is (ReprIs.bool b) _ _ _⟩
  | .int i, _, _, h, r, hs, _ => by
    cases h
    obtain ⟨t, rfl⟩ := r
    exact ⟨_, [], .int i t, (fun _ z => nomatch z), by simp only [PyData.shown]; exact .of_is (ReprIs.int t (by simpa [PyData.showable] using hs)) _ _ _⟩
  | .str x, _, _, h, r, _, hz => by
    cases h
    obtain ⟨t, rfl⟩ := r
    exact ⟨_, [], .str x t, (fun _ z => nomatch z), by simp only [PyData.shown]; exact .of_is (ReprIs.str x t (by simpa only [PyData.shown] using hz)) _ _ _⟩
  | .list ds, _, _, h, r, hs, hz => by
    cases h with
    | @lst a xs _ e k =>
      cases r
      obtain ⟨_, its, n, rv, ho⟩ := (show ObjOk X.prog X.w H s.heap a (.lst xs) from I.hok a _ e)
      have hz2 : (listText (PyData.shownAll ds)).length ≤ sizeLine := by simpa only [PyData.shown] using hz
      obtain ⟨as, bs, rd, rm, kk⟩ := HqAll.shows I ds xs its k rv (by simpa [PyData.showable] using hs) fun t ht => Nat.le_trans (listText_mem_le ht) hz2
      have whole : Reads s.heap (.ref a) (.list ds) _ := .list (vs := its.toArray) ho rfl rfl (by simpa using rd)
      have out : a ∉ bs := not_mem_of_deeper whole (by simp only [PyData.depth]; omega) rm
      refine ⟨_, a :: bs, whole, ReadAtMost.cons whole (by simp only [PyData.depth]; omega) rm, ?_⟩
      simp only [PyData.depth, PyData.shown]
      cases its with
      | nil =>
        cases rd
        simp only [PyData.shownAll, listText_nil]
        exact ReprK.listEmpty ho rfl rfl
      | cons y l => exact ReprK.list ho rfl rfl out (by simpa using kk.length_eq) fun i z ez => kk.item i z (by simpa using ez)
  | .tuple ds, _, _, h, r, hs, hz => by
    cases h with
    | @tup a xs _ e k =>
      cases r
      obtain ⟨_, its, rv, o, ho, hc, n, hd⟩ := (show ObjOk X.prog X.w H s.heap a (.tup xs) from I.hok a _ e)
      have hz2 : (tupleText (PyData.shownAll ds)).length ≤ sizeLine := by simpa only [PyData.shown] using hz
      obtain ⟨as, bs, rd, rm, kk⟩ := HqAll.shows I ds xs its k rv (by simpa [PyData.showable] using hs) fun t ht => Nat.le_trans (tupleText_mem_le ht) hz2
      have whole : Reads s.heap (.ref a) (.tuple ds) _ := .tuple (vs := its.toArray) ho hc hd (by simpa using rd)
      have out : a ∉ bs := not_mem_of_deeper whole (by simp only [PyData.depth]; omega) rm
      refine ⟨_, a :: bs, whole, ReadAtMost.cons whole (by simp only [PyData.depth]; omega) rm, ?_⟩
      simp only [PyData.depth, PyData.shown]
      exact ReprK.tuple ho hc hd out (by simpa using kk)
  | .dict kvs, _, _, h, r, hs, hz => by
    cases h with
    | @dct a e =>
      cases r
      obtain ⟨ns, o, n, ho, hc, hd⟩ := dict0 I e
      have whole : Reads s.heap (.ref a) (.dict []) _ := .dict (es := #[]) ho hc hd .nil .nil
      refine ⟨_, a :: [], whole, ReadAtMost.cons whole (Nat.zero_le _) (fun _ z => nomatch z), ?_⟩
      simp only [PyData.depth, PyData.shown, PyData.shownKv_eq]
      exact ReprK.dict ho hc hd ns (by simp) (ReprEntriesK.of_two [] [] [] .nil .nil)
theorem HqAll.shows (I : Inv X pins σ H s) : ∀ (ds : List PyData) (vs : List V) (us : List Value), HqAll H vs ds → Vals vs us → PyData.showableAll ds = true → (∀ t ∈ PyData.shownAll ds, t.length ≤ sizeLine) → ShowsQA X s us ds
  | [], _, _, h, r, _, _ => by
    cases h
    cases r
    exact ⟨_, [], .nil, (fun _ z => nomatch z), by simp only [PyData.shownAll]; exact .nil⟩
  | d :: ds, _, _, h, r, hs, hz => by
    cases h with
    | cons h1 h2 =>
      cases r with
      | cons r1 r2 =>
        have hs2 : d.showable = true ∧ PyData.showableAll ds = true := by simpa [PyData.showableAll] using hs
        obtain ⟨as1, bs1, q1, m1, k1⟩ := Hq.shows I d _ _ h1 r1 hs2.1 (hz _ (by simp only [PyData.shownAll]; exact List.mem_cons_self))
        obtain ⟨as2, bs2, q2, m2, k2⟩ := HqAll.shows I ds _ _ h2 r2 hs2.2 fun t ht => hz t (by simp only [PyData.shownAll]; exact List.mem_cons_of_mem _ ht)
        refine ⟨_, bs1 ++ bs2, .cons q1 q2, ?_, ?_⟩
        · simp only [PyData.depthAll]
          exact (m1.mono (Nat.le_max_left _ _)).append (m2.mono (Nat.le_max_right _ _))
        · simp only [PyData.depthAll, PyData.shownAll]
          exact .cons ((k1.more fun b z => List.mem_append_left _ z).level_le (Nat.le_max_left _ _)) (k2.more_le (fun b z => List.mem_append_right _ z) (Nat.le_max_right _ _))
end
end
section
variable {X : Cx}
/-- repr(x) of a list or a tuple -/
def rRepr : List V → Hp → VK → Prop := fun xs H Q => ∃ (v : V) (ds : List PyData) (d : PyData), (d = .list ds ∨ d = .tuple ds) ∧ xs = [v] ∧ Hq H v d ∧ d.showable = true ∧ d.depth ≤ 60 ∧ d.shown.length ≤ sizeLine ∧ Q (.str d.shown) H
theorem call_repr (hG : X.A.guards = some []) (hu : X.A.units + 64 < cLine) : CallR X (.builtin "repr") rRepr := by
  intro pins s σ H xs us Q I r h
  obtain ⟨v, ds, d, hd, rfl, hv, hs, hdp, hz, q⟩ := h
  obtain ⟨u, rfl, ru⟩ := vals1 r
  rcases hd with rfl | rfl
  · cases hv with
    | @lst a xs _ e k =>
      cases ru
      obtain ⟨_, its, n, rv, ho⟩ := (show ObjOk X.prog X.w H s.heap a (.lst xs) from I.hok a _ e)
      have hz2 : (listText (PyData.shownAll ds)).length ≤ sizeLine := by simpa only [PyData.shown] using hz
      obtain ⟨as, bs, rd, rm, kk⟩ := HqAll.shows I ds xs its k rv (by simpa [PyData.showable] using hs) fun t ht => Nat.le_trans (listText_mem_le ht) hz2
      have whole : Reads s.heap (.ref a) (.list ds) _ := .list (vs := its.toArray) ho rfl rfl (by simpa using rd)
      have out : a ∉ bs := not_mem_of_deeper whole (by simp only [PyData.depth]; omega) rm
      have e1 : (PyData.list ds).depth = PyData.depthAll ds + 1 := by simp only [PyData.depth]
      have e2 : (PyData.list ds).shown = listText (PyData.shownAll ds) := by simp only [PyData.shown]
      rw [e2] at q
      refine call_repr_slot (by omega) ⟨_, ho, rfl⟩ F.slot_list_repr.toG ?_
      cases its with
      | nil =>
        cases rd
        simp only [PyData.shownAll, listText_nil] at q
        exact call_list_repr_empty ⟨_, ho, rfl⟩ ho rfl ⟨_, _, rfl, .str _, H, I.tok _, ⟨_, rfl⟩, q⟩
      | cons y l =>
        exact call_list_reprK (A := X.A.in1) ho rfl rfl out (by simpa using kk.length_eq) (fun i z ez => kk.item i z (by simpa using ez)) hG (fun b _ => Clear.nil b) (by show X.A.units + 1 + _ < cLine; omega) (fun _ _ z => z)
          (fun h' u' tk hk => ⟨_, _, rfl, .str _, H, I.kept hk, ⟨_, rfl⟩, q⟩) hz2
  · cases hv with
    | @tup a xs _ e k =>
      cases ru
      obtain ⟨_, its, rv, o, ho, hc, n, hd⟩ := (show ObjOk X.prog X.w H s.heap a (.tup xs) from I.hok a _ e)
      have hz2 : (tupleText (PyData.shownAll ds)).length ≤ sizeLine := by simpa only [PyData.shown] using hz
      obtain ⟨as, bs, rd, rm, kk⟩ := HqAll.shows I ds xs its k rv (by simpa [PyData.showable] using hs) fun t ht => Nat.le_trans (tupleText_mem_le ht) hz2
      have whole : Reads s.heap (.ref a) (.tuple ds) _ := .tuple (vs := its.toArray) ho hc hd (by simpa using rd)
      have out : a ∉ bs := not_mem_of_deeper whole (by simp only [PyData.depth]; omega) rm
      have e1 : (PyData.tuple ds).depth = PyData.depthAll ds + 1 := by simp only [PyData.depth]
      have e2 : (PyData.tuple ds).shown = tupleText (PyData.shownAll ds) := by simp only [PyData.shown]
      rw [e2] at q
      refine call_repr_slot (by omega) ⟨_, ho, hc⟩ F.slot_tuple_repr ?_
      exact call_tuple_reprK (A := X.A.in1) ho hc hd out (by simpa using kk) hG (fun b _ => Clear.nil b) (by show X.A.units + 1 + _ < cLine; omega) (fun _ _ z => z)
        (fun h' u' tk hk => ⟨_, _, rfl, .str _, H, I.kept hk, ⟨_, rfl⟩, q⟩) hz2
end
end FD

namespace FD
open PySem PySem.Spec PyProof.Rows L2
mutual
/-- a datum's text is that of this one -/
def pq : D → Option PyData
  | .non => some .none
  | .bl b => some (.bool b)
  | .int i => some (.int i)
  | .str x => some (.str x)
  | .tup ds => (pqs ds).map .tuple
  | .lst ds => (pqs ds).map .list
  | .dct [] => some (.dict [])
  | _ => none
def pqs : List D → Option (List PyData)
  | [] => some []
  | d :: ds => match pq d, pqs ds with
    | some a, some b => some (a :: b)
    | _, _ => none
end
section
variable {Z : Wd} {O : Addr → Prop} {H : Hp}
mutual
theorem Den.hq : ∀ {v : V} {d : D}, Den Z O H v d → ∀ {p : PyData}, pq d = some p → Hq H v p
  | _, _, .non => fun e => by simp only [pq] at e; cases e; exact .non
  | _, _, .bl b => fun e => by simp only [pq] at e; cases e; exact .bl b
  | _, _, .int i => fun e => by simp only [pq] at e; cases e; exact .int i
  | _, _, .str x => fun e => by simp only [pq] at e; cases e; exact .str x
  | _, _, .ty x => fun h => by simp [pq] at h
  | _, _, .hnd x => fun h => by simp [pq] at h
  | _, _, .ref e m c => fun h => Cont.hq c e h
theorem Cont.hq : ∀ {o : HO} {d : D}, Cont Z O H o d → ∀ {a : Addr} {p : PyData}, H a = some o → pq d = some p → Hq H (.ref a) p
  | _, _, .tup c => fun e h => by
    simp only [pq] at h
    obtain ⟨qs, h1, rfl⟩ := Option.map_eq_some_iff.mp h
    exact .tup e (DenA.hq c h1)
  | _, _, .lst c => fun e h => by
    simp only [pq] at h
    obtain ⟨qs, h1, rfl⟩ := Option.map_eq_some_iff.mp h
    exact .lst e (DenA.hq c h1)
  | _, _, .dct c => fun e h => by
    cases c with
    | nil =>
      simp only [pq] at h
      cases h
      exact .dct e
    | cons _ _ => simp [pq] at h
  | _, _, .obj c => fun e h => by simp [pq] at h
theorem DenA.hq : ∀ {vs : List V} {ds : List D}, DenA Z O H vs ds → ∀ {ps : List PyData}, pqs ds = some ps → HqAll H vs ps
  | _, _, .nil => fun e => by
    simp only [pqs] at e
    cases e
    exact .nil
  | _, _, .cons q r => fun e => by
    simp only [pqs] at e
    split at e
    · rename_i p1 p2
      cases e
      exact .cons (Den.hq q p1) (DenA.hq r p2)
    · cases e
end
end
/-- what repr can be asked of -/
def Shown (p : PyData) : Prop := p.showable = true ∧ p.depth ≤ 60 ∧ p.shown.length ≤ sizeLine
instance (p : PyData) : Decidable (Shown p) := inferInstanceAs (Decidable (_ ∧ _ ∧ _))
def isSeq : PyData → Bool
  | .list _ => true
  | .tuple _ => true
  | _ => false
def reprD : List D → Option (D × Bool)
  | [x] => match pq x with
    | some p => if isSeq p = true ∧ Shown p then some (.str p.shown, false) else none
    | none => none
  | _ => none
theorem Shows.hq {Z : Wd} {O : Addr → Prop} {H : Hp} {v : V} {d : D} {p : PyData} (s : Shows Z O H v d) (e : pq d = some p) : Hq H v p := by
  cases s with
  | den s => exact s.hq e
  | own h _ c => exact c.hq h e
theorem cD_repr {Z : Wd} {X : Cx} (hG : X.A.guards = some []) (hu : X.A.units + 64 < cLine) : CallD Z X (.builtin "repr") reprD := by
  intro pins s σ H xs us Q I r h
  obtain ⟨O, ds, z, hO, sh, e, q⟩ := h
  unfold reprD at e
  split at e
  · split at e
    · rename_i p e1
      split at e
      · rename_i hp
        cases e
        cases sh with
        | cons sx sr =>
          cases sr
          have : ∃ ds : List PyData, p = .list ds ∨ p = .tuple ds := by
            obtain ⟨h1, _⟩ := hp
            unfold isSeq at h1
            split at h1
            · exact ⟨_, .inl rfl⟩
            · exact ⟨_, .inr rfl⟩
            · cases h1
          obtain ⟨ps, hps⟩ := this
          exact call_repr hG hu pins s σ H _ us Q I r ⟨_, ps, p, hps, rfl, sx.hq e1, hp.2.1, hp.2.2.1, hp.2.2.2, q _ _ (.same (.str _))⟩
      · cases e
    · cases e
  · cases e
end FD

/-! F17: sorted of ints, by reverse; list(range(..)), tuple(range(..)). -/
namespace FD
open PySem PySem.Spec PyProof.Rows L2
/-! ### sorted of a tuple -/
section
variable {prog : Program} {w : World} {A : Around} {E : Value → Shared → Prop} {s : Shared}
def gathered (h : Heap) (us : List Value) : Heap := (h.push (seqObj "list" #[] 0)).update h.objs.size (Obj.mapSeq (· ++ us.toArray))
theorem gather_tup {a : Addr} {us : List Value} {R : List Value → Shared → Prop} (ht : IsTup s.heap a us.toArray) (hz : us.length ≤ sizeLine) (k : R us { s with heap := gathered s.heap us }) :
    wpAny (model prog w) A (collect (.ref a)) R E s := by
  obtain ⟨ob, hob, hcl, m, hdat⟩ := id ht
  unfold collect
  refine wpAny_bind (wpAny_runValue (codeAny_builtin entry_proto_collect' ?_))
  show wpAny _ _ (newList [] >>= fun acc => again (.builtin "list.__iadd__" ⟨[acc, .ref a], []⟩)) _ _ s
  refine wpAny_bind (wpAny_newList (wpAny_pure ⟨Code.quiet_builtin _ (by decide +kernel), codeAny_builtin entry_list_iadd' ?_⟩))
  show wpAny _ _ (Builtin.List.listExtendWith (.ref s.heap.objs.size) (.ref a) (.ref s.heap.objs.size)) _ _ { s with heap := s.heap.push (seqObj "list" #[] 0) }
  unfold Builtin.List.listExtendWith
  have hob' : (s.heap.push (seqObj "list" #[] 0)).get? a = some ob := Heap.get?_push_of_some _ hob
  refine wpAny_bind (wpAny_typeOf (T := "tuple") ⟨ob, hob', hcl⟩ ?_)
  have isT : (Value.type "tuple" == Value.type "tuple") = true := by rfl
  rw [if_pos (by rw [isT]; simp)]
  refine wpAny_bind (listItems_at hob' hdat (wpAny_bind (listItems_at (xs := #[]) (n := 0) (Heap.get?_push_size _ rfl) rfl ?_)))
  rw [if_neg (by simp)]
  refine wpAny_bind (listUpdate_at (xs := #[]) (n := 0) (Heap.get?_push_size _ rfl) rfl ?_ (Nat.zero_le _) (by show (#[] ++ us.toArray).size ≤ sizeLine + 1; simp only [Array.size_append, List.size_toArray, List.length_nil]; omega))
  refine wpAny_pure (show wpAny (model prog w) A (do
      let fin ← load s.heap.objs.size
      match fin.data with
      | .seq got _ => pure got.toList
      | _ => unsupported "internal:collect") R E { s with heap := gathered s.heap us } from wpAny_bind (wpAny_load (get?_update_seq (Heap.get?_push_size _ rfl) _) ?_))
  show wpAny _ _ (pure ((#[] : Array Value) ++ us.toArray).toList) R E _
  rw [show ((#[] : Array Value) ++ us.toArray).toList = us by simp]
  exact wpAny_pure k
open Srt SrtO in
/-- sorted(t, ..) of a tuple, by keywords that say reverse=b -/
theorem sorted_ordT {l : Addr} {vs : List Value} {b : Bool} {kw : List (Str × Value)} {ltv : Value → Value → Bool} {Q : Value → Shared → Prop} (hk : ∀ a, Builtin.«list.sort» ⟨[.ref a], kw⟩ = Builtin.«list.sort» ⟨[.ref a], [(Str.ofString "reverse", .bool b)]⟩)
    (ha1 : argsOk "sorted" ⟨[.ref l], kw⟩) (ha2 : ∀ a, argsOk "list.sort" ⟨[a], kw⟩) (O : Swo ltv) (hl : IsTup s.heap l vs.toArray) (hz : vs.length ≤ sizeLine)
    (hS : 2 ≤ vs.length → ∀ (h₁ : Heap) (a : Addr), h₁.get? a = some (seqObj "list" vs.toArray 0) → (∀ b o, s.heap.get? b = some o → b ≠ a ∧ h₁.get? b = some o) → SortableO prog w A.in1.in1 { s with heap := h₁ } a vs ltv)
    (h : ∀ out : List Value, Srtd ltv out → Stb ltv out (if b = true then vs.reverse else vs) → Q (.ref (s.heap.objs.size + 1)) { s with heap := sortedAll s.heap vs (if b = true then out.toArray.reverse else out.toArray) }) :
    wpAny (model prog w) A (call (.builtin "sorted") [.ref l] kw) Q E s := by
  refine call_function_entry_kw kind_sorted plain_sorted entry_sorted ha1 ?_
  unfold Builtin.«sorted»
  refine wpAny_bind (m := checkCount "sorted" 1 1 _) (wpAny_pure ?_)
  refine wpAny_bind (gather_tup hl hz ?_)
  unfold gathered
  refine wpAny_bind (wpAny_newList ?_ hz)
  have hsz : ((s.heap.push (seqObj "list" #[] 0)).update s.heap.objs.size (Obj.mapSeq (· ++ vs.toArray))).objs.size = s.heap.objs.size + 1 := by
    rw [Heap.size_update, size_push']
  have hoL : (((s.heap.push (seqObj "list" #[] 0)).update s.heap.objs.size (Obj.mapSeq (· ++ vs.toArray))).push (seqObj "list" vs.toArray 0)).get? (s.heap.objs.size + 1) = some (seqObj "list" vs.toArray 0) := by
    rw [← hsz]; exact Heap.get?_push_size _ rfl
  have keep : ∀ b o, s.heap.get? b = some o → b ≠ s.heap.objs.size + 1 ∧ (((s.heap.push (seqObj "list" #[] 0)).update s.heap.objs.size (Obj.mapSeq (· ++ vs.toArray))).push (seqObj "list" vs.toArray 0)).get? b = some o := fun b o q => by
    have hlt : b < s.heap.objs.size := Heap.lt_size q
    refine ⟨Nat.ne_of_lt (Nat.lt_succ_of_lt hlt), Heap.get?_push_of_some _ ?_⟩
    rw [Heap.get?_update_ne _ _ _ _ (Nat.ne_of_lt hlt)]
    exact Heap.get?_push_of_some _ q
  show wpAny _ _ _ _ _ { s with heap := ((s.heap.push (seqObj "list" #[] 0)).update s.heap.objs.size (Obj.mapSeq (· ++ vs.toArray))).push (seqObj "list" vs.toArray 0) }
  rw [hsz]
  refine wpAny_bind (wpAny_holding (wpAny_call_entry_kw slot_list_sort ⟨_, hoL, rfl⟩ entry_list_sort ?_ (ha2 _)))
  rw [hk]
  refine SrtR.list_sort_ordR O hoL hz (fun h2 => hS h2 _ _ hoL keep) fun out hs hb => ⟨_, rfl, ?_⟩
  exact wpAny_pure ⟨_, rfl, h out hs hb⟩
end
section
variable {X : Cx}
theorem sorted_runT {b : Bool} {kw : List (Str × Value)} {pins : List (Addr × Obj)} {s : Shared} {σ : L2.St} {H : Hp} {a : Addr} {ns : List Int} {Q : VK} (I : Inv X pins σ H s) (hs : SqT X.K H a (ns.map V.int))
    (hk : ∀ a, Builtin.«list.sort» ⟨[.ref a], kw⟩ = Builtin.«list.sort» ⟨[.ref a], [(Str.ofString "reverse", .bool b)]⟩) (ha1 : argsOk "sorted" ⟨[.ref a], kw⟩) (ha2 : ∀ a, argsOk "list.sort" ⟨[a], kw⟩)
    (q : ∀ (ns' : List Int) (p : Addr), ns'.Perm ns → OrdB b ns' → H p = none → Q (.ref p) (upd H p (.lst (ns'.map V.int)))) : wpAny (model X.prog X.w) X.A (call (.builtin "sorted") [.ref a] kw) (EP X pins σ Q) X.xe s := by
  obtain ⟨its, rv, hl, hz⟩ := I.tuple hs
  have hi := rv.ints
  refine sorted_ordT hk ha1 ha2 SrtO.swo_int hl (by rw [← rv.length]; exact hz) (fun h2 h₁ a' _ _ => SrtO.ints_sortable hi h2) fun out h1 h2 => ?_
  obtain ⟨ns', k1, k2, k3⟩ := SrtR.ints_outR hi h1 h2
  obtain ⟨ep, he'⟩ := PyProof.Rows.sortedAll_at s.heap its (if b = true then out.toArray.reverse else out.toArray)
  have hlen : (ns'.map V.int).length ≤ sizeLine := by
    rw [List.length_map, k2.length_eq]
    rw [List.length_map] at hz
    exact hz
  have e0 : ((if b = true then out.toArray.reverse else out.toArray).toList).toArray = (if b = true then out.toArray.reverse else out.toArray) := by rw [Array.toArray_toList]
  exact ⟨.ref _, upd H (s.heap.objs.size + 1) (.lst (ns'.map V.int)), I.laid (t' := s.toks) (fun _ _ => PyProof.Rows.sortedAll_old) (Nat.le_succ _) ⟨hlen, _, ep, vals_of_ints k1, by rw [e0]; exact he'⟩, rfl, q _ _ k2 k3 (I.hok.fresh (Nat.le_succ _))⟩
end
/-! ### one order of ints -/
def sortUp (ns : List Int) : List Int := ns.mergeSort fun a b => decide (a ≤ b)
def sortDown (ns : List Int) : List Int := ns.mergeSort fun a b => decide (b ≤ a)
theorem sorted_one : ∀ {xs ys : List Int}, xs.Perm ys → xs.Pairwise (· ≤ ·) → ys.Pairwise (· ≤ ·) → xs = ys
  | [], ys, p, _, _ => (List.nil_perm.mp p).symm
  | x :: xs, [], p, _, _ => absurd p.length_eq (by simp)
  | x :: xs, y :: ys, p, h1, h2 => by
    rw [List.pairwise_cons] at h1 h2
    have e : x = y := by
      have m1 : x ∈ y :: ys := p.subset List.mem_cons_self
      have m2 : y ∈ x :: xs := p.symm.subset List.mem_cons_self
      have a1 : y ≤ x := by
        rcases List.mem_cons.mp m1 with z | z
        · omega
        · exact h2.1 _ z
      have a2 : x ≤ y := by
        rcases List.mem_cons.mp m2 with z | z
        · omega
        · exact h1.1 _ z
      omega
    subst e
    rw [sorted_one p.cons_inv h1.2 h2.2]
theorem sorted_oneR : ∀ {xs ys : List Int}, xs.Perm ys → xs.Pairwise (· ≥ ·) → ys.Pairwise (· ≥ ·) → xs = ys := fun {xs ys} p h1 h2 => by
  have := sorted_one (xs := xs.reverse) (ys := ys.reverse) ((List.reverse_perm xs).trans (p.trans (List.reverse_perm ys).symm)) (List.pairwise_reverse.mpr h1) (List.pairwise_reverse.mpr h2)
  rw [← List.reverse_reverse xs, this, List.reverse_reverse]
theorem sortUp_perm (ns : List Int) : (sortUp ns).Perm ns := List.mergeSort_perm _ _
theorem sortDown_perm (ns : List Int) : (sortDown ns).Perm ns := List.mergeSort_perm _ _
theorem sortUp_sorted (ns : List Int) : (sortUp ns).Pairwise (· ≤ ·) := by
  have := List.pairwise_mergeSort (le := fun a b : Int => decide (a ≤ b)) (fun a b c h1 h2 => by simp at *; omega) (fun a b => by simp; omega) ns
  exact this.imp fun h => of_decide_eq_true h
theorem sortDown_sorted (ns : List Int) : (sortDown ns).Pairwise (· ≥ ·) := by
  have := List.pairwise_mergeSort (le := fun a b : Int => decide (b ≤ a)) (fun a b c h1 h2 => by simp at *; omega) (fun a b => by simp; omega) ns
  exact this.imp fun h => of_decide_eq_true h
section
variable {Z : Wd} {C : Fx Z} {X : Cx}
def sortOf (b : Bool) (ns : List Int) : List Int := if b = true then sortDown ns else sortUp ns
theorem sortOf_one {b : Bool} {xs ns : List Int} (p : xs.Perm ns) (h : OrdB b xs) : xs = sortOf b ns := by
  cases b with
  | true => exact sorted_oneR (p.trans (sortDown_perm ns).symm) h (sortDown_sorted ns)
  | false => exact sorted_one (p.trans (sortUp_perm ns).symm) h (sortUp_sorted ns)
/-- sorted of ints, of a list or a tuple -/
def sortBD (b : Bool) : List D → Option (D × Bool)
  | [.lst ds] => (intsD ds).map fun ns => (.lst ((sortOf b ns).map D.int), true)
  | [.tup ds] => (intsD ds).map fun ns => (.lst ((sortOf b ns).map D.int), true)
  | _ => none
def sortD : List D → Option (D × Bool) := sortBD false
theorem runs_sort {b : Bool} {kw : List (Str × Value)} {pins : List (Addr × Obj)} {s : Shared} {σ : L2.St} {H : Hp} {xs : List V} {us : List Value} {Q : VK} (I : Inv X pins σ H s) (r : Vals xs us) (h : rDA Z (sortBD b) xs H Q)
    (hk : ∀ a, Builtin.«list.sort» ⟨[.ref a], kw⟩ = Builtin.«list.sort» ⟨[.ref a], [(Str.ofString "reverse", .bool b)]⟩) (ha1 : ∀ a, argsOk "sorted" ⟨[.ref a], kw⟩) (ha2 : ∀ a, argsOk "list.sort" ⟨[a], kw⟩) :
    wpAny (model X.prog X.w) X.A (call (.builtin "sorted") us kw) (EP X pins σ Q) X.xe s := by
  obtain ⟨O, ds, z, hO, sh, e, q⟩ := h
  unfold sortBD at e
  split at e
  · obtain ⟨ns, e1, rfl⟩ := Option.map_eq_some_iff.mp e
    cases intsD_of e1
    cases sh with
    | cons sx sr =>
      cases sr
      obtain ⟨a, ys, rfl, h1, c1⟩ := sx.lst
      cases c1.ints
      obtain rfl := Vals.ref1 r
      refine sorted_run I (SqL.of h1) hk (ha1 _) ha2 fun ns' p h2 h3 h4 => ?_
      rw [sortOf_one h2 h3]
      exact q _ _ (.lst h4 (denA_ints _))
  · obtain ⟨ns, e1, rfl⟩ := Option.map_eq_some_iff.mp e
    cases intsD_of e1
    cases sh with
    | cons sx sr =>
      cases sr
      obtain ⟨a, ys, rfl, h1, c1, _⟩ := sx.tup
      cases c1.ints
      obtain rfl := Vals.ref1 r
      refine sorted_runT I (SqT.of h1) hk (ha1 _) ha2 fun ns' p h2 h3 h4 => ?_
      rw [sortOf_one h2 h3]
      exact q _ _ (.lst h4 (denA_ints _))
  · cases e
def rKw (Z : Wd) (op : List D → Option (D × Bool)) (zs0 : List V) : List V → List V → Hp → VK → Prop := fun xs zs H Q => zs = zs0 ∧ rDA Z op xs H Q
theorem crk_sortRev {b : Bool} : CallRK X (.builtin "sorted") [Str.ofString "reverse"] (rKw Z (sortBD b) [.bl b]) := by
  intro pins s σ H vs zs us ws Q I r rz h
  obtain ⟨rfl, h⟩ := h
  obtain ⟨w1, rfl, e1⟩ := vals1 rz
  obtain rfl : w1 = Value.bool b := e1
  exact runs_sort I r h (fun _ => rfl) (fun _ => PyProof.Rows.args_sorted_rev _ _) (fun _ => PyProof.Rows.args_list_sort_rev _ _)
theorem ev_sortRev {b : Bool} {g : AF Z.T} {p pos kpos cpos : Pos} {j : Nat} {e : Expr} (hg : Gl X "sorted") (hm : X.mg "sorted" = none) (ha : PA X [e] (tA C g))
    (he : backTo pos (starEach [e] X.env) = (false, eval e X.env) :: backTo pos (starEach [] X.env) := by rfl) (h4 : ((backTo pos (starEach [e] X.env)).any fun x => x.fst) = false := by rfl)
    (h5 : ((backToKw pos (keywordEach [⟨some "reverse", .Constant (.bool b) j cpos, kpos⟩] X.env)).all fun x => x.fst.isSome) = true := by rfl) (h6 : ((backToKw pos (keywordEach [⟨some "reverse", .Constant (.bool b) j cpos, kpos⟩] X.env)).any fun x => x.fst.isNone) = false := by rfl)
    (h7 : List.filterMap (fun x => x.fst) (backToKw pos (keywordEach [⟨some "reverse", .Constant (.bool b) j cpos, kpos⟩] X.env)) = [Str.ofString "reverse"] := by rfl) :
    PE X (.Call (.Name "sorted" p) [e] [⟨some "reverse", .Constant (.bool b) j cpos, kpos⟩] pos) (tF C (callF (sortBD b) g)) :=
  ⟨fun pins s σ H Q I h => (pe_callBK crk_sortRev hg hm (by decide +kernel) ha (pk_cons pe_bl pk_nil) (by decide) (by decide) he h4 h5 h6 h7).run pins s σ H Q I (tA_mono (call_of h) fun vs H1 q => ⟨rfl, q⟩)⟩
theorem key_no (a : Addr) : Builtin.«list.sort» ⟨[.ref a], []⟩ = Builtin.«list.sort» ⟨[.ref a], [(Str.ofString "reverse", .bool false)]⟩ := by
  rw [list_sort_rev]
  first | rfl | kernel_rfl
theorem cD_sort : CallD Z X (.builtin "sorted") sortD := by
  intro pins s σ H xs us Q I r h
  exact runs_sort (b := false) I r h key_no (fun a => PyProof.Rows.args_sorted1 _) (fun a => PyProof.Rows.args_list_sort _)

/-! ### list(range(..)), tuple(range(..)) -/
def lrng1F {T : Type} (f : EF T) : EF T := bindF f fun r => doneF fun τ => match peek τ (hold r) with
  | some (.int n) => if n ≤ LEN ∧ small n = true then some (.lst (rngL 0 n), true) else none
  | _ => none
def trng1F {T : Type} (f : EF T) : EF T := bindF f fun r => doneF fun τ => match peek τ (hold r) with
  | some (.int n) => if n ≤ LEN ∧ small n = true then some (.tup (rngL 0 n), false) else none
  | _ => none
theorem den_rg {O : Addr → Prop} {H : Hp} (a b : Int) : DenA Z O H (rgV a b) (rngL a b) := by
  unfold rgV rngL
  induction (List.range (b - a).toNat) with
  | nil => exact .nil
  | cons k r ih => exact .cons (.int _) ih
theorem rg_ok {n : Int} (h : n ≤ LEN ∧ small n = true) : RgOk 0 n := by
  obtain ⟨h1, h2⟩ := h
  unfold small at h2
  have h2 := of_decide_eq_true h2
  unfold RgOk
  simp only [LEN] at h1
  exact ⟨by omega, by omega, by omega, by omega, by omega⟩
theorem ev_lrng1 {f : EF Z.T} {p pos p2 pos2 : Pos} {a : Expr} (hc : X.calm = true) (hg : Gl X "list") (hm : X.mg "list" = none) (hg2 : Gl X "range") (hm2 : X.mg "range" = none) (ha : PE X a (tF C f))
    (n1 : starEach [a] X.env = (false, eval a X.env) :: starEach [] X.env := by rfl) (n2 : starEach [.Call (.Name "range" p2) [a] [] pos2] X.env = (false, eval (.Call (.Name "range" p2) [a] [] pos2) X.env) :: starEach [] X.env := by rfl) :
    PE X (.Call (.Name "list" p) [.Call (.Name "range" p2) [a] [] pos2] [] pos) (tF C (lrng1F f)) :=
  ⟨fun pins s σ H Q I h => (pe_listRg hc hg hm (prg_1 hg2 hm2 ha n1) n2).run pins s σ H Q I (by
    obtain ⟨ow, τ, t, R, h0, h⟩ := h.at_
    refine tF_mono (h.bind R h0) fun x H1 ⟨ow1, τ1, t1, ra, R1, r1, h1, _⟩ => ?_
    obtain ⟨ow2, R2, z2, r2, x2⟩ := r1.hold R1
    obtain ⟨z, e, q⟩ := (h1.from x2).done R2 z2
    split at e
    · rename_i n p1
      split at e
      · rename_i hn
        cases e
        exact ⟨n, (r2.peek R2 p1).int, rg_ok hn, fun l hl => q _ _ (.lst hl (den_rg 0 n))⟩
      · cases e
    · cases e)⟩
theorem ev_trng1 {f : EF Z.T} {p pos p2 pos2 : Pos} {a : Expr} (hc : X.calm = true) (hg : Gl X "tuple") (hm : X.mg "tuple" = none) (hg2 : Gl X "range") (hm2 : X.mg "range" = none) (ha : PE X a (tF C f))
    (n1 : starEach [a] X.env = (false, eval a X.env) :: starEach [] X.env := by rfl) (n2 : starEach [.Call (.Name "range" p2) [a] [] pos2] X.env = (false, eval (.Call (.Name "range" p2) [a] [] pos2) X.env) :: starEach [] X.env := by rfl) :
    PE X (.Call (.Name "tuple" p) [.Call (.Name "range" p2) [a] [] pos2] [] pos) (tF C (trng1F f)) :=
  ⟨fun pins s σ H Q I h => (pe_tupRg hc hg hm (prg_1 hg2 hm2 ha n1) n2).run pins s σ H Q I (by
    obtain ⟨ow, τ, t, R, h0, h⟩ := h.at_
    refine tF_mono (h.bind R h0) fun x H1 ⟨ow1, τ1, t1, ra, R1, r1, h1, _⟩ => ?_
    obtain ⟨ow2, R2, z2, r2, x2⟩ := r1.hold R1
    obtain ⟨z, e, q⟩ := (h1.from x2).done R2 z2
    split at e
    · rename_i n p1
      split at e
      · rename_i hn
        cases e
        exact ⟨n, (r2.peek R2 p1).int, rg_ok hn, fun l hl => q _ _ (.tup (fun p hp => R2.nohid hp) hl (den_rg 0 n))⟩
      · cases e
    · cases e)⟩
end
end FD

/-! F18: the deck as a world: its state, a draw. -/
namespace FD
open PySem PySem.Spec PyProof.Rows L2
structure Dk where
  a : Addr
  l1 : Addr
  l2 : Addr
structure Dk.At (D : Dk) (H : Hp) (c : Nat) (big cells : List Int) : Prop where
  top : H D.a = some (.lst [.ref D.l1, .ref D.l2, .int c])
  one : H D.l1 = some (.lst (big.map V.int))
  two : H D.l2 = some (.lst (cells.map V.int))
  pos : 0 < cells.length
  ne1 : D.a ≠ D.l1
  ne2 : D.a ≠ D.l2
  ne3 : D.l2 ≠ D.l1
structure DS where
  c : Nat
  big : List Int
  cells : List Int
/-- a mixed draw -/
def mixed (m : Int) (c : Nat) (cells : List Int) : Int :=
  let x := (cells[(((c + 1 : Nat) : Int) % (cells.length : Int)).toNat]?.getD 0) % 2147483647
  let y := (x * (16807 + 39373 * ((c + 1 : Nat) : Int)) + 40692 * ((c + 1 : Nat) : Int) * ((c + 1 : Nat) : Int) + 97) % 2147483629
  y * y % 2147483587 / 16 % m
def drawB : List Int → Int → Option (Int × List Int)
  | [], _ => none
  | b :: r, m => if 0 < b then some (b % m, (b / m) :: r) else drawB r m
def DS.draw (m : Int) (s : DS) : Int := match drawB s.big m with
  | some (v, _) => v
  | none => mixed m s.c s.cells
def DS.step (m : Int) (s : DS) : DS := match drawB s.big m with
  | some (_, r) => { s with big := r }
  | none => ⟨s.c + 1, [], s.cells⟩
theorem drawB_in {m : Int} (hm : 0 < m) : ∀ {bs : List Int} {v : Int} {r : List Int}, drawB bs m = some (v, r) → 0 ≤ v ∧ v < m
  | [], _, _, h => by cases h
  | b :: bs, v, r, h => by
    unfold drawB at h
    split at h
    · cases h
      exact ⟨Int.emod_nonneg _ (by omega), Int.emod_lt_of_pos _ hm⟩
    · exact drawB_in hm h
theorem DS.draw_in {m : Int} (hm : 0 < m) (s : DS) : 0 ≤ s.draw m ∧ s.draw m < m := by
  unfold DS.draw
  split
  · rename_i p
    exact drawB_in hm p
  · unfold mixed
    exact ⟨Int.emod_nonneg _ (by omega), Int.emod_lt_of_pos _ hm⟩
theorem DS.step_c {m : Int} {s : DS} : (s.step m).c ≤ s.c + 1 := by
  unfold DS.step
  split
  · exact Nat.le_succ _
  · exact Nat.le_refl _
/-- the world with a deck at A -/
def Zdk (A : Dk) (ca : Str → Addr) : Wd where
  T := DS
  On := fun s H => A.At H s.c s.big s.cells
  hid := fun a => a = A.a ∨ a = A.l1 ∨ a = A.l2
  val := fun _ => .ref A.a
  ca := ca
  loc := fun t H H' d k => ⟨k _ _ (.inl rfl) d.top, k _ _ (.inr (.inl rfl)) d.one, k _ _ (.inr (.inr rfl)) d.two, d.pos, d.ne1, d.ne2, d.ne3⟩
  trk := fun t H a d h => by
    rcases h with rfl | rfl | rfl
    · exact ⟨_, d.top, nofun⟩
    · exact ⟨_, d.one, nofun⟩
    · exact ⟨_, d.two, nofun⟩
/-- _law_next -/
def FF_q_next : FF DS := fun ds s => match ds with
  | [.hnd _, .int m] => if 0 < m ∧ m < 2 ^ 64 ∧ s.c < 2 ^ 40 then some (.ok (.int (s.draw m)) false, s.step m) else none
  | _ => none
theorem len_q_next {ds : List D} {t : DS} {o : FOut × DS} (h : FF_q_next ds t = some o) : ds.length = 2 := by
  unfold FF_q_next at h
  split at h
  · rfl
  · cases h
theorem den_hnd {A : Dk} {ca : Str → Addr} {O : Addr → Prop} {H : Hp} {v : V} {n : Nat} (h : Den (Zdk A ca) O H v (.hnd n)) : v = .ref A.a := by
  generalize hd : D.hnd n = d at h
  cases h with
  | hnd k => rfl
  | ref e m c => subst hd; cases c
  | _ => cases hd
theorem dp_ints {K : PySem.W.Frag} {H : Hp} : ∀ ns : List Int, DpAll K H (ns.map V.int) (ns.map PyData.int)
  | [] => .nil
  | n :: r => .cons (.int n) (dp_ints r)
theorem lay_ints : ∀ ns : List Int, PyData.canLayAll0 (ns.map PyData.int) = true
  | [] => by simp [PyData.canLayAll0]
  | n :: r => by simp [PyData.canLayAll0, PyData.canLay0, lay_ints r]
theorem deep_ints : ∀ ns : List Int, PyData.depthAll (ns.map PyData.int) = 0
  | [] => by simp [PyData.depthAll]
  | n :: r => by simp [PyData.depthAll, PyData.depth, deep_ints r]
theorem shaped_ints (ns : List Int) : SeqAt.shaped (.list (ns.map PyData.int)) = true := by
  have h1 := lay_ints ns
  have h2 := deep_ints ns
  unfold SeqAt.shaped
  simp [PyData.canLay0, PyData.depth, h1, h2]
theorem eqv_nil (ns : List Int) : PyData.eqv (.list (ns.map PyData.int)) (.list []) = ns.isEmpty := by
  cases ns with
  | nil => simp [PyData.eqv, PyData.eqvAll]
  | cons n r => simp [PyData.eqv, PyData.eqvAll]
theorem upd_keep {H : Hp} {p : Addr} {o : HO} (h : H p = none) {b : Addr} {x : HO} (e : H b = some x) : upd H p o b = some x := by
  rw [upd_ne (ne_of_none e h)]
  exact e
theorem Dk.At.new {D : Dk} {H : Hp} {c : Nat} {big cells : List Int} {p : Addr} {o : HO} (d : D.At H c big cells) (h : H p = none) : D.At (upd H p o) c big cells :=
  ⟨upd_keep h d.top, upd_keep h d.one, upd_keep h d.two, d.pos, d.ne1, d.ne2, d.ne3⟩
/-- all stands but what the deck may change -/
def Keep (D : Dk) (H H' : Hp) : Prop := ∀ b x, H b = some x → b ≠ D.a → b ≠ D.l1 → H' b = some x
theorem Keep.rfl' {D : Dk} {H : Hp} : Keep D H H := fun _ _ e _ _ => e
theorem Keep.trans {D : Dk} {H H1 H2 : Hp} (h : Keep D H H1) (k : Keep D H1 H2) : Keep D H H2 := fun b x e n1 n2 => k b x (h b x e n1 n2) n1 n2
theorem Keep.new {D : Dk} {H : Hp} {p : Addr} {o : HO} (h : H p = none) : Keep D H (upd H p o) := fun _ _ e _ _ => upd_keep h e
theorem at0 {α : Type} {x : α} {xs : List α} : atI (x :: xs) 0 = some x := atI_nat (j := 0) rfl
theorem at1 {α : Type} {x y : α} {xs : List α} : atI (x :: y :: xs) 1 = some y := atI_nat (j := 1) rfl
theorem at2 {α : Type} {x y z : α} {xs : List α} : atI (x :: y :: z :: xs) 2 = some z := atI_nat (j := 2) rfl
theorem ix0 {n : Nat} (h : 0 < n) : ixN n 0 = some 0 := by
  unfold ixN
  rw [if_pos (Int.le_refl 0), if_pos (by omega)]
  rfl
theorem ix2 {n : Nat} (h : 2 < n) : ixN n 2 = some 2 := by
  unfold ixN
  rw [if_pos (by decide), if_pos (by omega)]
  rfl
theorem seq0 {n : Nat} (h : 0 < n) : seqIndex? 0 n = some 0 := by
  have := seqIndex_of (k := 0) (n := n) (by omega) (by omega)
  simpa using this
end FD

/-! F19: the end of a law. -/
namespace FD
open PySem PySem.Spec PyProof.Rows L2
/-- as FnOk, where it is called with no guard around -/
def FnG (P : Program) (w : World) (K : PySem.W.Frag) (mg : Str → Option Value) (base : Heap) (CX : CXT) (k : Nat) (f : Addr) (fd : FuncData) (ps : List Str) (sp : Sp) : Prop :=
  ∀ (B : Around) (outer : List Env) (s : Shared) (H : Hp) (args : Args) (us : List Value) (vs : List V) (Q : VK) (E : XK), B.guards = some [] → Room k B → Env0 P w K mg base B outer s H → BindsTo s fd args (ps.zip us) → Vals vs us → sp vs H Q E →
    codeAny (model P w) B (.call (.ref f) args) (CR CX outer P w H s Q E) s
theorem fun_okG {CX : CXT} {P : Program} {w : World} {K : PySem.W.Frag} {mg : Str → Option Value} {base : Heap} {x qual : Str} {st : Stmt} {f : Addr} {fd : FuncData} {N ps : List Str} {k : Nat} {sp : Sp} (F : Fun K x qual st f fd) (S : FnScope N ps (defScope st))
    (len : ∀ vs H Q E, sp vs H Q E → vs.length = ps.length)
    (body : ∀ (cdv : Value) (B : Around) (outer : List Env) (s : Shared) (H : Hp) (vs : List V) (Q : VK) (E : XK), B.guards = some [] → Room k (B.deeper (envOfC qual (defScope st) s.heap.objs.size f cdv)) → sp vs H Q E →
      ∃ t, PSs (cxOf CX P w K mg base N qual (defScope st) f cdv B outer s H E) (defBody st) t ∧ t { nx := fun _ H' => Q .non H', rt := Q } (start N vs) H) : FnG P w K mg base CX (k + 1) f fd ps sp := by
  intro B outer s H args us vs Q E gd hr env hb rel hsp
  obtain ⟨oc, od, kV, doc, pm, an, cdv, ct, osl, rfl, look, isCode⟩ := F.ex
  have many := len _ _ _ _ hsp
  have inK : K.In s.heap := env.mod.kin.keeps fun b o e => (env.bs b o e).1
  have noLim : s.heap.NoLimit := env.mod.nolimit.keeps fun b o e => (env.bs b o e).1
  have kinds : ∀ y ∈ ps.zip us, (defScope st).names.lookup y.1 = some .local ∨ ((defScope st).names.lookup y.1 = some .cell ∧ ((cellsFrom (s.heap.objs.size + 1) (defScope st).names []).lookup y.1).isSome = true) := by
    rintro ⟨n, v⟩ hy
    rcases S.par n (List.of_mem_zip hy).1 with q | q
    · exact .inl q
    · exact .inr ⟨q, PySem.W.cellsFrom_some _ _ _ (.inl q)⟩
  refine codeAny_call_function hr.depth (inK _ _ look) rfl S.co S.gen rfl (PySem.W.codeRec_of inK isCode) (hb _ _ _ _ (wpAny_newFunctionEnv_cells S.kind kinds ?_))
  intro env' he s1 ic
  subst he
  obtain ⟨t, derived, asked⟩ := body cdv B outer s H vs Q E gd (hr.deeper _) hsp
  have I : Inv (cxOf CX P w K mg base N qual (defScope st) f cdv B outer s H E) [] (start N vs) H s1 := inv_start S hr.hd env many rel ic
  refine ⟨noLim.keeps ic.toInCall.keep, codeAny_func (wpAny_mono (derived.run [] s1 (start N vs) H _ I asked) (fun fl s' end_ => ?_) fun e s' z => z)⟩
  cases fl with
  | ret u =>
    obtain ⟨v, σ', H', J, rv, q⟩ := end_
    exact ⟨v, H', J.os, J.bare, J.base, J.hok, rv, q⟩
  | next =>
    obtain ⟨σ', H', J, q⟩ := end_
    exact ⟨V.non, H', J.os, J.bare, J.base, J.hok, (rfl : RelV V.non Value.none), q⟩
  | brk => exact (end_.choose_spec.choose_spec.2 : False).elim
  | cont => exact (end_.choose_spec.choose_spec.2 : False).elim
/-- the law's own call, behind the top -/
theorem callG {P : Program} {w : World} {K : PySem.W.Frag} {mg mb : Str → Option Value} {CX : CXT} {k : Nat} {fa sc : Addr} {fd : FuncData} {x : Str} {sp : Sp} {s₁ : Shared} {us : List Value} {ns : List Int}
    (inK : K.In s₁.heap) (nsG : s₁.heap.Ns mainGlobals mg) (nsB : s₁.heap.Ns builtinsNs mb) (isB : ∀ x : Str, x ≠ "__name__" → mb x = bootBuiltins x) (noLim : s₁.heap.NoLimit) (noGen : s₁.gens = #[])
    (hsc : s₁.heap.get? sc = some { cls := .type "list", data := .seq us.toArray }) (hints : IntsAre us ns) (short : ns.length ≤ sizeLine) (room : Room k callerA)
    (F : ∀ base : Heap, K.In base → base.Ns mainGlobals mg → FnG P w K mg base CX k fa fd [x] sp) (hbind : ∀ (s : Shared) (u : Value), BindsTo s fd ⟨[u], []⟩ [(x, u)])
    (hsp : ∀ H : Hp, SqL K H sc (ns.map V.int) → sp [.ref sc] H (fun v _ => v = .bl true) fun _ _ _ => False) (noE : ∀ H e s', CX [] H s₁ (fun _ _ _ => False) e s' → False) :
    codeAny (model P w) callerA (.call (.ref fa) ⟨[.ref sc], []⟩) (fun r s' => r = .ok (.ret (.bool true)) ∧ OldK s₁.heap s'.heap ∧ s'.os = s₁.os ∧ AllBare s'.gens) s₁ := by
  have rel := vals_ints hints
  have same := hints.length
  -- H tracks at most the script, locked
  have main : ∀ H : Hp, (∀ b, H b = none ∨ (b = sc ∧ K.lookup sc = none ∧ ∃ o xs, H b = some (.frz o (.lst xs)))) → SqL K H sc (ns.map V.int) → HOk P w H s₁.heap →
      codeAny (model P w) callerA (.call (.ref fa) ⟨[.ref sc], []⟩) (fun r s' => r = .ok (.ret (.bool true)) ∧ OldK s₁.heap s'.heap ∧ s'.os = s₁.os ∧ AllBare s'.gens) s₁ := by
    intro H only held ok
    have low : ∀ {b : Addr} {o : Obj}, s₁.heap.get? b = some o → H b = none → (hidT s₁.heap H).get? b = some o := fun e n => hidT_get e n
    have notDict : ∀ {b : Addr} {o : Obj} {es : Array DictEntry} {ep : Nat}, s₁.heap.get? b = some o → o.data = .dict es ep → H b = none := by
      intro b o es ep e d
      rcases only b with z | ⟨z, _, _⟩
      · exact z
      · subst z
        rw [hsc] at e
        cases e
        cases (show Data.seq us.toArray _ = Data.dict es ep from d)
    have nsLow : ∀ {b : Addr} {m : Str → Option Value}, s₁.heap.Ns b m → (hidT s₁.heap H).Ns b m := by
      rintro b m ⟨o, es, ep, e, d, r⟩
      exact ⟨o, es, ep, low e (notDict e d), d, r⟩
    have inLow : K.In (hidT s₁.heap H) := by
      intro b o e
      refine low (inK b o e) ?_
      rcases only b with z | ⟨z, n, _⟩
      · exact z
      · subst z
        rw [n] at e
        cases e
    have md : Mod K mg (hidT s₁.heap H) := ⟨inLow, nsLow nsG, ⟨mb, nsLow nsB, isB⟩, let ⟨mc, q1, q2⟩ := noLim; ⟨mc, nsLow q1, q2⟩⟩
    have env : Env0 P w K mg (hidT s₁.heap H) callerA [] s₁ H := ⟨rfl, md, fun b o e => of_hidT e, Nat.le_of_eq (hidT_size _ _), trivial, fun b hb => absurd (show b ∈ ([] : List Addr) from hb) (by simp), ok, .of_eq noGen⟩
    refine codeAny_mono (F _ inLow (nsLow nsG) callerA [] s₁ H ⟨[.ref sc], []⟩ [.ref sc] [.ref sc] _ _ rfl room env (hbind s₁ (.ref sc)) (.cons rfl .nil) (hsp H held)) ?_
    intro r s' h
    cases r with
    | error e => exact (noE H e s' h).elim
    | ok fl =>
      cases fl with
      | next => exact (h : False).elim
      | brk => exact (h : False).elim
      | cont => exact (h : False).elim
      | ret u =>
        obtain ⟨v, H', os, bare, un, ok', ru, q⟩ := h
        obtain rfl : v = .bl true := q
        obtain rfl : u = Value.bool true := ru
        refine ⟨rfl, OldK.of_keep fun b o e => ?_, os, bare⟩
        rcases only b with z | ⟨_, _, ob, xs, z⟩
        · exact un.keep b o e z (fun y => absurd (show b ∈ ([] : List Addr) from y) (by simp)) (by simp)
        · obtain ⟨e1, _⟩ := ok b _ z
          obtain ⟨e2, _⟩ := ok' b _ (un.frzs b ob _ z)
          rw [e] at e1
          cases e1
          exact e2
  cases hk : K.lookup sc with
  | some o =>
    have e := inK sc o hk
    rw [hsc] at e
    cases e
    exact main (fun _ => none) (fun _ => .inl rfl) (.inr ⟨_, us.toArray, _, hk, rfl, rfl, rfl, by rw [List.size_toArray, same]; exact short, by simpa using rel⟩) (fun b u z => by cases (show (none : Option HO) = some u from z))
  | none =>
    refine main (fun b => if b = sc then some (.frz { cls := .type "list", data := .seq us.toArray } (.lst (ns.map V.int))) else none) (fun b => ?_) (.inl (.inr ⟨{ cls := .type "list", data := .seq us.toArray }, if_pos rfl⟩)) (fun b u z => ?_)
    · by_cases hb : b = sc
      · exact .inr ⟨hb, hk, _, _, if_pos hb⟩
      · exact .inl (if_neg hb)
    · by_cases hb : b = sc
      · cases (if_pos hb).symm.trans z
        subst hb
        exact ⟨hsc, by rw [List.length_map]; exact short, us, _, rel, hsc⟩
      · cases (if_neg hb).symm.trans z
/-- the goal that k_head leaves -/
theorem walkG {l : PySem.W.OpenLaw} {n k : Nat} {q : Program} {loose : List Str} {XP : (Str → Option Value) → Heap → Prop} {YP : World → Heap → Prop} {d : DefRec} {K : Params → PySem.W.Frag} {CX : World → CXT} {sp : World → Sp} {x : Str}
    (most : l.most = some n) (fits : n ≤ sizeLine) (plain : d.params.defaults = []) (room : Room k callerA) (inK : ∀ (w : World) (h : Heap), YP w h → (K w.params).In h)
    (F : ∀ (w : World) (mg : Str → Option Value) (fa : Addr) (h : Heap), (K w.params).In h → h.Ns mainGlobals mg → mg d.name = some (.ref fa) → ∃ fd : FuncData, (∀ (s : Shared) (u : Value), BindsTo s fd ⟨[u], []⟩ [(x, u)]) ∧
      ∀ base : Heap, (K w.params).In base → base.Ns mainGlobals mg → FnG l.prog w (K w.params) mg base (CX w) k fa fd [x] (sp w))
    (hsp : ∀ (w : World) (H : Hp) (a : Addr) (ns : List Int), ns.length ≤ n → SqL (K w.params) H a (ns.map V.int) → sp w [.ref a] H (fun v _ => v = .bl true) fun _ _ _ => False)
    (noE : ∀ (w : World) (H : Hp) (s : Shared) (e : Value) (s' : Shared), CX w [] H s (fun _ _ _ => False) e s' → False) : PySem.W.WalkO q loose XP YP l.row.toRowW d [] (fun f vs => PySem.call f vs) := by
  refine Att.attach_call most plain ?_
  intro w s₀ s₁ mg mb fa o pm cd doc a vs ns G Y ho hd hcd hmg hobj hints len gens
  have KX := inK w _ Y
  obtain ⟨fd, hb, hF⟩ := F w mg fa _ KX G.T.g hmg
  exact callG KX G.T.g G.T.b G.T.builtins G.T.nolimit gens hobj hints (Nat.le_trans len fits) room hF hb (fun H hS => hsp w H a ns len hS) fun H e s' => noE w H s₁ e s'
end FD

namespace FD
open PySem PySem.Spec PyProof.Rows L2
theorem noCX {P : Program} {w : World} (H : Hp) (s : Shared) (e : Value) (s' : Shared) (h : L2.CX P w [] H s (fun _ _ _ => False) e s') : False := by
  obtain ⟨_, _, _, _, _, _, _, _, _, _, _, _, z⟩ := h
  exact z
def sp_law (K : PySem.W.Frag) : Sp := fun vs H Q _ => ∃ (a : Addr) (ns : List Int), vs = [.ref a] ∧ SqL K H a (ns.map V.int) ∧ ns.length ≤ 63 ∧ ∀ H', Q (.bl true) H'
def sp_q_deck (K : PySem.W.Frag) : Sp := fun vs H Q _ => ∃ (a : Addr) (ns : List Int), vs = [.ref a] ∧ SqL K H a (ns.map V.int) ∧ ns.length ≤ 63 ∧
  ∀ (H' : Hp) (D : Dk) (big cells : List Int), Same H H' → H D.a = none → H D.l1 = none → H D.l2 = none → D.At H' 0 big cells → Q (.ref D.a) H'
theorem same_new {H : Hp} {p : Addr} {o : HO} (h : H p = none) : Same H (upd H p o) := fun b x e => upd_keep h e
theorem same_set {H H' : Hp} {p : Addr} {o : HO} (k : Same H H') (h : H p = none) : Same H (upd H' p o) := fun b x e => by
  rw [upd_ne (ne_of_none e h)]
  exact k b x e
def absI (n : Int) : Int := if n < 0 then -n else n
def bigs (ns : List Int) : List Int := ns.filter fun n => decide ((1000000000000000000 : Int) ≤ n)
theorem bigs_take {ns : List Int} {i : Nat} {n : Int} (h : ns[i]? = some n) : bigs (ns.take (i + 1)) = bigs (ns.take i) ++ (if (1000000000000000000 : Int) ≤ n then [n] else []) := by
  unfold bigs
  rw [List.take_add_one, h, List.filter_append]
  by_cases c : (1000000000000000000 : Int) ≤ n
  · simp [c]
  · simp [c]
theorem small1000 {n : Nat} (h : n ≤ 1000) : n < sizeLine := by rw [sizeLine_eq]; omega
theorem line63 {n : Nat} (h : n ≤ 1000) : n < sizeLine := small1000 h
theorem le_line {n : Nat} (h : n ≤ 1000) : n ≤ sizeLine := Nat.le_of_lt (small1000 h)
/-- the first state behind the deck -/
def lawS (n : Nat) : List Sl := .no :: .v (.hnd 0) :: List.replicate (n - 2) .no
/-- behind the deck: the rest of the law, by data -/
theorem law_rest {D : Dk} {ca : Str → Addr} {f : SF DS} {n : Nat} {H : Hp} {σ : L2.St} {big cells : List Int} {Q : VK} {C : Fx (Zdk D ca)}
    (hC : C = ⟨(Zdk D ca).hid, H, dead⟩) (hn : 2 ≤ n) (hl : σ.length = n) (h1 : σ[1]? = some (some (.ref D.a))) (at_ : D.At H 0 big cells) (q : ∀ H', Q (.bl true) H')
    (pure_ : ∀ t : DS, t.c = 0 → ∃ s', f (lawS n, t) = some (.rt (.d (.bl true)), s')) : tS C f { nx := fun _ H' => Q .non H', rt := Q } σ H := by
  subst hC
  obtain ⟨s', e⟩ := pure_ ⟨0, big, cells⟩ rfl
  refine ⟨fun _ => none, lawS n, ⟨0, big, cells⟩, ?_, rfl, _, s', e, fun ow' σ' v H' R r x => ?_⟩
  · refine ⟨at_, fun a h => h, fun a h => (Zdk D ca).trk ⟨0, big, cells⟩ H a at_ h, fun _ _ e _ => e, ?_, fun i s h => ?_, fun _ _ _ z => (nomatch z), fun _ _ z => (nomatch z)⟩
    · unfold lawS
      simp only [List.length_cons, List.length_replicate]
      omega
    · match i, h with
      | 0, h => cases h; trivial
      | 1, h => cases h; exact ⟨_, h1, .hnd (Z := Zdk D ca) 0⟩
      | i + 2, h =>
        unfold lawS at h
        simp only [List.getElem?_cons_succ] at h
        rw [List.getElem?_replicate] at h
        split at h
        · cases h; trivial
        · cases h
  · rw [(Shows.den r.2).bl]
    exact q H'
theorem ex_S {X : Cx} {f : SF DS} {st : List Stmt} {ca0 : Str → Addr} (h : ∀ (Dx : Dk) (C : Fx (Zdk Dx ca0)), C.W = dead → PSs X st (tS C f)) :
    PSs X st (fun E σ H => ∃ (Dx : Dk) (C : Fx (Zdk Dx ca0)), C.W = dead ∧ tS C f E σ H) := ⟨fun pins s σ H E I ⟨Dx, C, w, q⟩ => (h Dx C w).run pins s σ H E I q⟩
end FD

/-! F20: slices. -/
namespace FD
open PySem PySem.Spec PyProof.Rows L2
def partB (b : Bool) : D → Option (Option Int)
  | .non => if b then none else some none
  | .int i => if b then some (some i) else none
  | _ => none
def partF {T : Type} (b : Bool) (g : EF T) (k : Option Int → EF T) : EF T := bindF g fun r s => match peek s.1 r with
  | none => none
  | some d => match partB b d with
    | none => none
    | some i => k i s
def sl0 (n : Nat) (lo : Option Int) : Nat := HT.sIx n 0 lo
def sl1 (n : Nat) (hi : Option Int) : Nat := HT.sIx n n hi
/-- xs[lo:hi] -/
def cutL {A : Type} (xs : List A) (lo hi : Option Int) : List A := (xs.drop (sl0 xs.length lo)).take (sl1 xs.length hi - sl0 xs.length lo)
def sliceD : D → Option Int → Option Int → Option (D × Bool)
  | .lst ds, lo, hi => some (.lst (cutL ds lo hi), true)
  | .tup ds, lo, hi => some (.tup (cutL ds lo hi), false)
  | _, _, _ => none
def slF {T : Type} (bl bh : Bool) (f g h : EF T) : EF T := bindF f fun ra => partF bl g fun lo => partF bh h fun hi => doneF fun τ => match peek τ (hold ra) with
  | some x => sliceD x lo hi
  | none => none
/-- a part of a slice, by data -/
structure PD {Z : Wd} (X : Cx) (C : Fx Z) (b : Bool) (e : Option Expr) (f : EF Z.T) : Prop where
  ex : ∃ tl, PO X e tl ∧ ∀ σ H (Q : Option Int → Hp → Prop), tF C f σ H (fun x H1 => ∃ i, (if b then ∃ n, x = .int n ∧ i = some n else x = .non ∧ i = none) ∧ Q i H1) → tl σ H Q
section
variable {Z : Wd} {C : Fx Z} {X : Cx} {e a b : Expr} {f g h : EF Z.T} {pos p2 : Pos} {lo hi : Option Expr}
theorem pd_no : PD (Z := Z) X C false none (conF .non) := ⟨_, po_none, fun σ H Q q => by
  obtain ⟨ow, τ, t, o, s', R, h0, e, h⟩ := q
  cases e
  obtain ⟨i, h1, h2⟩ := h ow .non H R ⟨h0, .non⟩ .refl
  simp only [Bool.false_eq_true, if_false, true_and] at h1
  subst h1
  exact h2⟩
theorem pd_some (h : PE X e (tF C f)) : PD X C true (some e) f := ⟨_, po_some h, fun σ H Q q => tF_mono q fun x H1 ⟨i, h1, h2⟩ => by
  simp only [if_true] at h1
  obtain ⟨n, rfl, rfl⟩ := h1
  exact ⟨n, rfl, h2⟩⟩
theorem Kn.part {ow : Nat → Option Addr} {τ : List Sl} {t : Z.T} {σ : L2.St} {H : Hp} {Q : VK} {bb : Bool} {k : Option Int → EF Z.T} (h : Kn C (partF bb g k) ow τ t σ H Q) (R : C.Rel ow τ t σ H) (h0 : ow 0 = none) :
    FD.tF C g σ H (fun x H1 => ∃ i, (if bb then ∃ n, x = .int n ∧ i = some n else x = .non ∧ i = none) ∧ ∃ ow1 τ1 t1, C.Rel ow1 τ1 t1 σ H1 ∧ ow1 0 = none ∧ Kn C (k i) ow1 τ1 t1 σ H1 Q ∧ Ext (C.Hid ow) H (C.Hid ow1) H1) := by
  unfold partF at h
  refine tF_mono (h.bind R h0) fun x H1 ⟨ow1, τ1, t1, r, R1, r1, ⟨o, s', e, hq⟩, x1⟩ => ?_
  cases p1 : FD.peek τ1 r with
  | none => simp only [p1] at e; cases e
  | some d =>
    cases p2 : partB bb d with
    | none => simp only [p1, p2] at e; cases e
    | some i =>
      simp only [p1, p2] at e
      obtain ⟨ow2, R2, z2, r2, x2⟩ := r1.hold R1
      refine ⟨i, ?_, ow2, τ1, t1, R2, z2, ⟨o, s', e, hq.from x2⟩, x1.trans x2⟩
      have sh := r1.peek R1 p1
      unfold partB at p2
      split at p2
      · cases bb
        · cases p2
          exact ⟨sh.non, rfl⟩
        · cases p2
      · cases bb
        · cases p2
        · cases p2
          exact ⟨_, sh.int, rfl⟩
      · cases p2
theorem DenA.cut {O : Addr → Prop} {H : Hp} {xs : List V} {ds : List D} (c : DenA Z O H xs ds) (l u : Option Int) : DenA Z O H (cutV xs l u) (cutL ds l u) := by
  unfold cutV cutL sl0 sl1
  rw [c.len]
  exact (c.drop _).take _
theorem cutL_whole {A : Type} (xs : List A) (l u : Option Int) (h : HT.sIx xs.length 0 l = 0 ∧ HT.sIx xs.length xs.length u = xs.length) : cutL xs l u = xs := by
  unfold cutL sl0 sl1
  rw [h.1, h.2]
  simp
theorem cut_of {x : V} {l u : Option Int} {H : Hp} {Q : VK} {O : Addr → Prop} {d : D} {z : D × Bool} (hO : ∀ p, H p = none → ¬ O p) (sx : Shows Z O H x d) (e : sliceD d l u = some z) (q : ∀ v H', Gets Z O H v H' z → Q v H') :
    rSlL X.K x l u H Q ∨ rSlA X.K x l u H Q := by
  unfold sliceD at e
  split at e
  · cases e
    obtain ⟨a, xs, rfl, h1, c1⟩ := sx.lst
    exact .inl ⟨a, xs, rfl, SqL.of h1, fun p hp => q _ _ (.lst hp (c1.cut l u))⟩
  · cases e
    obtain ⟨a, xs, rfl, h1, c1, n⟩ := sx.tup
    refine .inr ⟨a, xs, rfl, SqT.of h1, fun w => q _ _ (.same ?_), fun _ p hp => q _ _ (.tup hO hp (c1.cut l u))⟩
    rw [cutL_whole _ l u (by rw [← c1.len]; exact w)]
    exact .ref h1 n (.tup c1)
  · cases e
theorem sl_of {bl bh : Bool} (hl : PD X C bl lo g) (hh : PD X C bh hi h) : ∃ tl th, PO X lo tl ∧ PO X hi th ∧ ∀ σ H Q, tF C (slF bl bh f g h) σ H Q → tSl (fun x l u H Q => rSlL X.K x l u H Q ∨ rSlA X.K x l u H Q) (tF C f) tl th σ H Q := by
  obtain ⟨tl, pl, kl⟩ := hl.ex
  obtain ⟨th, ph, kh⟩ := hh.ex
  refine ⟨tl, th, pl, ph, fun σ H Q q => ?_⟩
  obtain ⟨ow, τ, t, R, h0, q⟩ := q.at_
  refine tF_mono (q.bind R h0) fun x H1 ⟨ow1, τ1, t1, ra, R1, r1, h1, _⟩ => ?_
  obtain ⟨ow1', R1', z1, r1', x1⟩ := r1.hold R1
  refine kl σ H1 _ (tF_mono (Kn.part (h1.from x1) R1' z1) fun y H2 ⟨i, hi, ow2, τ2, t2, R2, z2, h2, x2⟩ => ⟨i, hi, ?_⟩)
  refine kh σ H2 _ (tF_mono (Kn.part h2 R2 z2) fun y H3 ⟨j, hj, ow3, τ3, t3, R3, z3, h3, x3⟩ => ⟨j, hj, ?_⟩)
  obtain ⟨z, e, k⟩ := h3.done R3 z3
  cases pa : peek τ3 (hold ra) with
  | none => simp only [pa] at e; cases e
  | some dx =>
    simp only [pa] at e
    exact cut_of (fun p hp => R3.nohid hp) (r1'.later R3 (x2.trans x3) pa) e k
theorem ev_slice {bl bh : Bool} (he : PE X a (tF C f)) (hl : PD X C bl lo g) (hh : PD X C bh hi h) : PE X (.Subscript a (.Slice lo hi none p2) pos) (tF C (slF bl bh f g h)) := by
  obtain ⟨tl, th, pl, ph, k⟩ := sl_of (f := f) hl hh
  exact ⟨fun pins s σ H Q I q => (pe_slice (SlR.or sl_list sl_tupA) he pl ph).run pins s σ H Q I (k σ H Q q)⟩
end
end FD

/-! F21: [::-1] of lists and tuples. -/
namespace FD
open PySem PySem.Spec PyProof.Rows L2 HT
section
variable {prog : Program} {w : World} {A : Around} {E : Value → Shared → Prop} {s : Shared}
theorem sliceApplied_rev {sl : Addr} {vl vu vs : Value} {n : Nat} {Q : Int × Int × Nat → Shared → Prop} (hs : s.heap.IsSliceOf sl vl vu vs) (pl : IsPart vl none) (pu : IsPart vu none) (ps : IsPart vs (some (-1)))
    (h : Q ((n : Int) - 1, -1, n) s) : wpAny (model prog w) A (Builtin.Slice.sliceApplied (.ref sl) (pure (n : Int))) Q E s := by
  obtain ⟨os, hos, hcs, hds⟩ := id hs
  unfold Builtin.Slice.sliceApplied Builtin.Slice.sliceFields
  refine wpAny_bind (wpAny_bind (wpAny_field hos hds (x := vl) rfl (wpAny_bind (wpAny_field hos hds (x := vu) rfl (wpAny_bind (wpAny_field hos hds (x := vs) rfl (wpAny_pure ?_)))))))
  refine wpAny_bind (slicePart_ ps ?_)
  show wpAny _ _ (if ((-1 : Int) == 0) = true then _ else _) _ _ s
  rw [if_neg (by decide)]
  refine wpAny_bind (slicePart_ pl (wpAny_bind (slicePart_ pu (wpAny_bind (wpAny_pure ?_)))))
  show wpAny _ _ (match Builtin.Slice.sliceAdjust none none (-1) (n : Int) with | (lo, hi) => pure (lo, (-1 : Int), Builtin.Slice.slicePlaces lo hi (-1))) _ _ s
  have e1 : Builtin.Slice.sliceAdjust none none (-1) (n : Int) = ((n : Int) - 1, -1) := by
    unfold Builtin.Slice.sliceAdjust
    rfl
  have e2 : Builtin.Slice.slicePlaces ((n : Int) - 1) (-1) (-1) = n := by
    unfold Builtin.Slice.slicePlaces
    simp
    omega
  rw [e1]
  show wpAny _ _ (pure ((n : Int) - 1, (-1 : Int), Builtin.Slice.slicePlaces ((n : Int) - 1) (-1) (-1))) _ _ s
  rw [e2]
  exact wpAny_pure h
theorem pick_rev (xs : Array Value) : ((List.range xs.size).filterMap fun (m : Nat) => xs[((xs.size : Int) - 1 + (m : Int) * (-1)).toNat]?).toArray = xs.toList.reverse.toArray := by
  have e : (fun (m : Nat) => xs[((xs.size : Int) - 1 + (m : Int) * (-1)).toNat]?) = (fun k => xs[k]?) ∘ fun m => xs.size - 1 - m := by
    funext m
    have : ((xs.size : Int) - 1 + (m : Int) * (-1)).toNat = xs.size - 1 - m := by omega
    show xs[((xs.size : Int) - 1 + (m : Int) * (-1)).toNat]? = xs[xs.size - 1 - m]?
    rw [this]
  rw [e, ← List.filterMap_map, PySem.W.krv_range, List.filterMap_reverse, PySem.W.krv_all]
theorem getItem_tuple_rev {t sl : Addr} {items : Array Value} {vl vu vs : Value} {Q : Value → Shared → Prop} (ht : IsTup s.heap t items) (hs : s.heap.IsSliceOf sl vl vu vs) (pl : IsPart vl none) (pu : IsPart vu none) (ps : IsPart vs (some (-1)))
    (h : Q (.ref s.heap.objs.size) { s with heap := s.heap.push { cls := .type "tuple", data := .seq items.toList.reverse.toArray } })
    (hsz : items.size ≤ sizeLine) : wpAny (model prog w) A (getItem (.ref t) (.ref sl)) Q E s := by
  have htake : sizeOk (.seq items.toList.reverse.toArray) := by
    show items.toList.reverse.toArray.size ≤ sizeLine
    rw [List.size_toArray, List.length_reverse, Array.length_toList]
    omega
  obtain ⟨os, hos, hcs, hds⟩ := id hs
  have hTs : s.TypeIs (.ref sl) "slice" := ⟨os, hos, hcs⟩
  unfold getItem
  try with_reducible refine wpAny_holding ?_
  first | refine wpAny_bind (wpAny_pure ?_) | skip
  refine wpAny_bind (wpAny_sequenceKey ht.typeIs (by decide) ?_)
  refine wpAny_bind (wpAny_callSpecial?_slot (name := Str.ofString "__getitem__") ht.typeIs PyProof.Rows.slot_tuple_getitem
    (wpAny_call_entry PyProof.Rows.slot_tuple_getitem ht.typeIs entry_tuple_getitem ?_ (args_tuple_getitem _ _)))
  show wpAny _ _ (Builtin.Tuple.tupleItemsOf (.ref t) >>= _) _ _ s
  refine wpAny_bind (tupleItemsOf_ ht ?_)
  refine wpAny_bind (wpAny_typeOf hTs ?_)
  rw [if_pos (by decide)]
  refine wpAny_bind (sliceApplied_rev hs pl pu ps ?_)
  have hno : ¬ ((((items.size : Int) - 1) == 0 && (-1 : Int) == 1 && items.size == items.size) = true) := by
    intro q
    simp at q
  show wpAny _ _ (if (((items.size : Int) - 1) == 0 && (-1 : Int) == 1 && items.size == items.size) = true then _ else _) _ _ s
  rw [if_neg hno, pick_rev]
  first
    | exact wpAny_bind (m := Builtin.Tuple.tupleExact _) (wpAny_newObj_type (wpAny_pure ⟨_, rfl, wpAny_pure h⟩) htake)
    | exact wpAny_bind (m := Builtin.Tuple.tupleExact _) (wpAny_newObj_type (wpAny_bind (wpAny_pure (wpAny_pure ⟨_, rfl, wpAny_pure h⟩))) htake)
    | exact wpAny_bind (wpAny_bind (m := Builtin.Tuple.tupleExact _) (wpAny_newObj_type (wpAny_pure (wpAny_pure ⟨_, rfl, wpAny_pure h⟩)) htake))
    | exact wpAny_bind (wpAny_bind (m := Builtin.Tuple.tupleExact _) (wpAny_newObj_type (wpAny_pure ⟨_, rfl, wpAny_pure h⟩) htake))
end
def rRv (K : PySem.W.Frag) : V → Hp → VK → Prop := fun x H Q => (∃ a xs, x = .ref a ∧ SqL K H a xs ∧ ∀ p, H p = none → Q (.ref p) (upd H p (.lst xs.reverse))) ∨ (∃ a xs, x = .ref a ∧ SqT K H a xs ∧ ∀ p, H p = none → Q (.ref p) (upd H p (.tup xs.reverse)))
theorem pe_rev {X : Cx} {e : Expr} {te : TE} {k : Nat} {p1 p2 p3 pos : Pos} (he : PE X e te) : PE X (.Subscript e (.Slice none none (some (.UnaryOp .USub (.Constant (.int 1) k p1) p2)) p3) pos) (tUn (rRv X.K) te) := by
  refine ⟨fun pins s σ H Q I h => ?_⟩
  refine Subscript_ (thn (he.run pins s σ H _ I h) fun v s1 ⟨x, H1, I1, r1, q1⟩ => ?_)
  have hst : PO X (some (.UnaryOp .USub (.Constant (.int 1) k p1) p2)) (tPart (tUn (rU fun i => .int (-i)) (tC (.int 1)))) := po_some (pe_un un_neg pe_int)
  refine wpAny_Slice (thn (po_none.run pins s1 σ H1 (fun o H2 => o = none ∧ H2 = H1) I1 ⟨rfl, rfl⟩) fun vl s2 ⟨l, H2, I2, pl, el, e2⟩ => ?_)
  subst el e2
  refine thn (po_none.run pins s2 σ H2 (fun o H3 => o = none ∧ H3 = H2) I2 ⟨rfl, rfl⟩) fun vu s3 ⟨u, H3, I3, pu, eu, e3⟩ => ?_
  subst eu e3
  refine thn (hst.run pins s3 σ H3 (fun o H4 => o = some (-1) ∧ H4 = H3) I3 ⟨1, rfl, -1, rfl, rfl, rfl⟩) fun vs s4 ⟨o, H4, I4, ps, eo, e4⟩ => ?_
  subst eo e4
  have I5 : Inv X pins σ H4 { s4 with heap := s4.heap.push { cls := .type "slice", data := .fields #[vl, vu, vs] } } := I4.kept (t' := s4.toks) fun b ob q => Heap.get?_push_of_some _ q
  rcases q1 with ⟨a, xs, ex, hx, q⟩ | ⟨a, xs, ex, hx, q⟩
  · subst ex
    cases r1
    obtain ⟨its, r, ht, hz⟩ := I5.list hx
    have hlen := r.length
    show wpAny (model X.prog X.w) X.A (subscriptTail e (.Slice none none (some (.UnaryOp .USub (.Constant (.int 1) k p1) p2)) p3) (.ref a) (.ref s4.heap.objs.size)) (EP X pins σ Q) X.xe { s4 with heap := s4.heap.push { cls := .type "slice", data := .fields #[vl, vu, vs] } }
    refine tail_any (ops := [.ref a, .ref s4.heap.objs.size]) ht.isList.typeIs (PySem.slot_list_getitem.lookup) ?_ (by with_unfolding_all rfl)
    refine wpAny_getItem_list_slice ht.isList (Heap.IsSliceOf.new _ vl vu vs) pl pu ps (by decide) ?_ (by rw [List.size_toArray]; omega)
    rw [PySem.W.krv_pick]
    refine ⟨.ref _, _, I5.laid (t' := s4.toks) (o := .lst xs.reverse) (fun b ob q => Heap.get?_push_of_some _ q) (Nat.le_refl _) ?_, rfl, q _ (I5.hok.fresh (Nat.le_refl _))⟩
    exact ⟨by rw [List.length_reverse]; exact hz, _, 0, r.reverse, Heap.get?_push_size _ rfl⟩
  · subst ex
    cases r1
    obtain ⟨its, r, ht, hz⟩ := I5.tuple hx
    have hlen := r.length
    show wpAny (model X.prog X.w) X.A (subscriptTail e (.Slice none none (some (.UnaryOp .USub (.Constant (.int 1) k p1) p2)) p3) (.ref a) (.ref s4.heap.objs.size)) (EP X pins σ Q) X.xe { s4 with heap := s4.heap.push { cls := .type "slice", data := .fields #[vl, vu, vs] } }
    refine tail_any (ops := [.ref a, .ref s4.heap.objs.size]) ht.typeIs (PyProof.Rows.slot_tuple_getitem.lookup) ?_ (by with_unfolding_all rfl)
    refine getItem_tuple_rev ht (Heap.IsSliceOf.new _ vl vu vs) pl pu ps ?_ (by rw [List.size_toArray]; omega)
    refine ⟨.ref _, _, I5.laid (t' := s4.toks) (o := .tup xs.reverse) (fun b ob q => Heap.get?_push_of_some _ q) (Nat.le_refl _) ?_, rfl, q _ (I5.hok.fresh (Nat.le_refl _))⟩
    exact ⟨by rw [List.length_reverse]; exact hz, _, r.reverse, IsTup.new _ _⟩
theorem DenA.rev {Z : Wd} {O : Addr → Prop} {H : Hp} : ∀ {vs : List V} {ds : List D}, DenA Z O H vs ds → DenA Z O H vs.reverse ds.reverse
  | _, _, .nil => .nil
  | _, _, .cons h r => by
    rw [List.reverse_cons, List.reverse_cons]
    exact (DenA.rev r).app (.one h)
def revD : D → Option (D × Bool)
  | .lst ds => some (.lst ds.reverse, true)
  | .tup ds => some (.tup ds.reverse, false)
  | _ => none
theorem revR {Z : Wd} {K : PySem.W.Frag} {x : V} {H : Hp} {Q : VK} (h : rD1 Z revD x H Q) : rRv K x H Q := by
  obtain ⟨O, dx, z, hO, sx, e, q⟩ := h
  unfold revD at e
  split at e
  · cases e
    obtain ⟨a, xs, rfl, h1, c1⟩ := sx.lst
    exact .inl ⟨a, xs, rfl, SqL.of h1, fun p hp => q _ _ (.lst hp c1.rev)⟩
  · cases e
    obtain ⟨a, xs, rfl, h1, c1, _⟩ := sx.tup
    exact .inr ⟨a, xs, rfl, SqT.of h1, fun p hp => q _ _ (.tup hO hp c1.rev)⟩
  · cases e
def revF {T : Type} (f : EF T) : EF T := unF revD f
theorem ev_rev {Z : Wd} {X : Cx} {C : Fx Z} {f : EF Z.T} {e : Expr} {k : Nat} {p1 p2 p3 pos : Pos} (he : PE X e (tF C f)) : PE X (.Subscript e (.Slice none none (some (.UnaryOp .USub (.Constant (.int 1) k p1) p2)) p3) pos) (tF C (revF f)) :=
  ⟨fun pins s σ H Q I q => (pe_rev he).run pins s σ H Q I (tF_mono (tUn_of q) fun x H1 h => revR h)⟩
end FD

/-! F22: running functions of data by simp: each step waits for the one before. -/
namespace FD
open PySem PySem.Spec PyProof.Rows L2
section
variable {T : Type}
/-! ### results -/
def pkS : Option Sl → Option D
  | some (.v d) => some d
  | some (.o d) => some d
  | _ => none
def gvS (i : Nat) (τ : List Sl) : Option Sl → Option (D × List Sl)
  | some (.v d) => some (d, τ)
  | some (.o d) => some (d, τ.set i (.v d))
  | _ => none
def gvB (d : D) : Option (List D × List Sl) → Option (List D × List Sl)
  | some (ds, τ) => some (d :: ds, τ)
  | none => none
def gvA (rs : List Res) : Option (D × List Sl) → Option (List D × List Sl)
  | some (d, τ) => gvB d (giveAll τ rs)
  | none => none
def pkB : Option D → Option (List D) → Option (List D)
  | some d, some ds => some (d :: ds)
  | _, _ => none
theorem q_hold_d {d : D} : hold (.d d) = .d d := (rfl)
theorem q_hold_f {d : D} : hold (.f d) = .d d := (rfl)
theorem q_hold_s {i : Nat} : hold (.s i) = .s i := (rfl)
theorem q_peek_d {τ : List Sl} {d : D} : peek τ (.d d) = some d := (rfl)
theorem q_peek_f {τ : List Sl} {d : D} : peek τ (.f d) = some d := (rfl)
theorem q_peek_s {τ : List Sl} {i : Nat} : peek τ (.s i) = pkS τ[i]? := by
  unfold peek pkS
  rfl
theorem q_pkS_v {d : D} : pkS (some (.v d)) = some d := (rfl)
theorem q_pkS_o {d : D} : pkS (some (.o d)) = some d := (rfl)
theorem q_give_d {τ : List Sl} {d : D} : give τ (.d d) = some (d, τ) := (rfl)
theorem q_give_f {τ : List Sl} {d : D} : give τ (.f d) = some (d, τ) := (rfl)
theorem q_give_s {τ : List Sl} {i : Nat} : give τ (.s i) = gvS i τ τ[i]? := by
  unfold give gvS
  rfl
theorem q_gvS_v {i : Nat} {τ : List Sl} {d : D} : gvS i τ (some (.v d)) = some (d, τ) := (rfl)
theorem q_gvS_o {i : Nat} {τ : List Sl} {d : D} : gvS i τ (some (.o d)) = some (d, τ.set i (.v d)) := (rfl)
theorem q_giveAll_n {τ : List Sl} : giveAll τ [] = some ([], τ) := (rfl)
theorem q_giveAll_c {τ : List Sl} {r : Res} {rs : List Res} : giveAll τ (r :: rs) = gvA rs (give τ r) := by
  unfold giveAll
  cases give τ r with
  | none => rfl
  | some z =>
    unfold gvA
    simp only
    cases giveAll z.2 rs with
    | none => rfl
    | some w => rfl
theorem q_gvA {rs : List Res} {d : D} {τ : List Sl} : gvA rs (some (d, τ)) = gvB d (giveAll τ rs) := (rfl)
theorem q_gvB {d : D} {ds : List D} {τ : List Sl} : gvB d (some (ds, τ)) = some (d :: ds, τ) := (rfl)
theorem q_peekAll_n {τ : List Sl} : peekAll τ [] = some [] := (rfl)
theorem q_peekAll_c {τ : List Sl} {r : Res} {rs : List Res} : peekAll τ (r :: rs) = pkB (peek τ r) (peekAll τ rs) := by
  show (match peek τ r, peekAll τ rs with
    | some d, some ds => some (d :: ds)
    | _, _ => none) = _
  cases peek τ r with
  | none => rfl
  | some d =>
    cases peekAll τ rs with
    | none => rfl
    | some ds => rfl
theorem q_pkB {d : D} {ds : List D} : pkB (some d) (some ds) = some (d :: ds) := (rfl)
theorem q_resOf_t {d : D} : resOf (d, true) = .f d := (rfl)
theorem q_resOf_f {d : D} : resOf (d, false) = .d d := (rfl)
/-! ### expressions -/
def varK (i : Nat) (s : Sg T) : Option Sl → Option (Out × Sg T)
  | some (.v _) => some (.ok (.s i), s)
  | some (.o _) => some (.ok (.s i), s)
  | _ => none
theorem q_var {i : Nat} {τ : List Sl} {t : T} : varF i (τ, t) = varK i (τ, t) τ[i]? := by
  unfold varF varK
  rfl
theorem q_varK_v {i : Nat} {s : Sg T} {d : D} : varK i s (some (.v d)) = some (.ok (.s i), s) := (rfl)
theorem q_varK_o {i : Nat} {s : Sg T} {d : D} : varK i s (some (.o d)) = some (.ok (.s i), s) := (rfl)
theorem q_con {d : D} {s : Sg T} : conF d s = some (.ok (.d d), s) := (rfl)
def bnd (k : Res → EF T) : Option (Out × Sg T) → Option (Out × Sg T)
  | none => none
  | some (.ex c fs, s1) => some (.ex c fs, s1)
  | some (.ok r, s1) => k r s1
def dnO (s : Sg T) : Option (D × Bool) → Option (Out × Sg T)
  | none => none
  | some z => some (.ok (resOf z), s)
def op2 (op : D → D → Option (D × Bool)) : Option D → Option D → Option (D × Bool)
  | some x, some y => op x y
  | _, _ => none
def op1 (op : D → Option (D × Bool)) : Option D → Option (D × Bool)
  | some x => op x
  | _ => none
theorem q_bnd {k : Res → EF T} {r : Res} {s : Sg T} : bnd k (some (.ok r, s)) = k r s := (rfl)
theorem q_dnO {s : Sg T} {z : D × Bool} : dnO s (some z) = some (.ok (resOf z), s) := (rfl)
theorem q_op2 {op : D → D → Option (D × Bool)} {x y : D} : op2 op (some x) (some y) = op x y := (rfl)
theorem q_op1 {op : D → Option (D × Bool)} {x : D} : op1 op (some x) = op x := (rfl)
def binK2 (op : D → D → Option (D × Bool)) (ra rb : Res) : EF T := fun s => dnO s (op2 op (peek s.1 (hold ra)) (peek s.1 (hold rb)))
def binK (op : D → D → Option (D × Bool)) (fb : EF T) (ra : Res) : EF T := fun s => bnd (binK2 op ra) (fb s)
theorem q_bin {op : D → D → Option (D × Bool)} {fa fb : EF T} {s : Sg T} : binF op fa fb s = bnd (binK op fb) (fa s) := (rfl)
theorem q_binK {op : D → D → Option (D × Bool)} {fb : EF T} {ra : Res} {s : Sg T} : binK op fb ra s = bnd (binK2 op ra) (fb s) := (rfl)
theorem q_binK2 {op : D → D → Option (D × Bool)} {ra rb : Res} {s : Sg T} : binK2 op ra rb s = dnO s (op2 op (peek s.1 (hold ra)) (peek s.1 (hold rb))) := (rfl)
def unK (op : D → Option (D × Bool)) (ra : Res) : EF T := fun s => dnO s (op1 op (peek s.1 (hold ra)))
theorem q_un {op : D → Option (D × Bool)} {fa : EF T} {s : Sg T} : unF op fa s = bnd (unK op) (fa s) := by
  unfold unF bindF doneF bnd unK dnO op1
  rcases fa s with _ | ⟨r | _, s1⟩
  · rfl
  · simp only
    cases peek s1.1 (hold r) <;> rfl
  · rfl
theorem q_unK {op : D → Option (D × Bool)} {ra : Res} {s : Sg T} : unK op ra s = dnO s (op1 op (peek s.1 (hold ra))) := (rfl)
def brB (g h : EF T) (s : Sg T) : Option D → Option (Out × Sg T)
  | some (.bl true) => g s
  | some (.bl false) => h s
  | _ => none
def brK (g h : EF T) (r : Res) : EF T := fun s => brB g h s (peek s.1 (hold r))
theorem q_branch {f g h : EF T} {s : Sg T} : branchF f g h s = bnd (brK g h) (f s) := (rfl)
theorem q_brK {g h : EF T} {r : Res} {s : Sg T} : brK g h r s = brB g h s (peek s.1 (hold r)) := (rfl)
theorem q_brB_t {g h : EF T} {s : Sg T} : brB g h s (some (.bl true)) = g s := (rfl)
theorem q_brB_f {g h : EF T} {s : Sg T} : brB g h s (some (.bl false)) = h s := (rfl)
theorem q_and {f g : EF T} {s : Sg T} : andF f g s = bnd (brK g (conF (.bl false))) (f s) := (rfl)
theorem q_or {f g : EF T} {s : Sg T} : orF f g s = bnd (brK (conF (.bl true)) g) (f s) := (rfl)
theorem q_not {f : EF T} {s : Sg T} : notF f s = bnd (brK (conF (.bl false)) (conF (.bl true))) (f s) := (rfl)
/-! ### arguments -/
def cnsA (r : Res) : Option (OutA × Sg T) → Option (OutA × Sg T)
  | none => none
  | some (.ex c fs, s2) => some (.ex c fs, s2)
  | some (.ok rs, s2) => some (.ok (hold r :: rs), s2)
def cnsK (g : AF T) : Option (Out × Sg T) → Option (OutA × Sg T)
  | none => none
  | some (.ex c fs, s1) => some (.ex c fs, s1)
  | some (.ok r, s1) => cnsA r (g s1)
theorem q_nilA {s : Sg T} : nilA s = some (.ok [], s) := (rfl)
theorem q_consA {f : EF T} {g : AF T} {s : Sg T} : consA f g s = cnsK g (f s) := by
  unfold consA cnsK cnsA
  rcases f s with _ | ⟨_ | _, _⟩ <;> rfl
theorem q_cnsK {g : AF T} {r : Res} {s : Sg T} : cnsK g (some (.ok r, s)) = cnsA r (g s) := (rfl)
theorem q_cnsA {r : Res} {rs : List Res} {s : Sg T} : cnsA r (some (.ok rs, s)) = some (.ok (hold r :: rs), s) := (rfl)
def abnd (k : List Res → EF T) : Option (OutA × Sg T) → Option (Out × Sg T)
  | none => none
  | some (.ex c fs, s1) => some (.ex c fs, s1)
  | some (.ok r, s1) => k r s1
theorem q_abnd {k : List Res → EF T} {r : List Res} {s : Sg T} : abnd k (some (.ok r, s)) = k r s := (rfl)
def dspO (mk : List D → D) (fr : Bool) (t : T) : Option (List D × List Sl) → Option (Out × Sg T)
  | none => none
  | some (ds, τ) => if ds.length ≤ LEN then some (.ok (resOf (mk ds, fr)), (τ, t)) else none
def dspK (mk : List D → D) (fr : Bool) (rs : List Res) : EF T := fun s => dspO mk fr s.2 (giveAll s.1 rs)
theorem q_disp {mk : List D → D} {fr : Bool} {g : AF T} {s : Sg T} : dispF mk fr g s = abnd (dspK mk fr) (g s) := by
  unfold dispF abnd dspK dspO
  rcases g s with _ | ⟨_ | _, _⟩ <;> rfl
theorem q_dspK {mk : List D → D} {fr : Bool} {rs : List Res} {s : Sg T} : dspK mk fr rs s = dspO mk fr s.2 (giveAll s.1 rs) := (rfl)
theorem q_dspO {mk : List D → D} {fr : Bool} {ds : List D} {τ : List Sl} {t : T} : dspO mk fr t (some (ds, τ)) = if ds.length ≤ LEN then some (.ok (resOf (mk ds, fr)), (τ, t)) else none := (rfl)
theorem q_tup {g : AF T} {s : Sg T} : tupF g s = abnd (dspK .tup false) (g s) := q_disp
theorem q_lst {g : AF T} {s : Sg T} : lstF g s = abnd (dspK .lst true) (g s) := q_disp
def opA (op : List D → Option (D × Bool)) : Option (List D) → Option (D × Bool)
  | some ds => op ds
  | none => none
theorem q_opA {op : List D → Option (D × Bool)} {ds : List D} : opA op (some ds) = op ds := (rfl)
def clK (op : List D → Option (D × Bool)) (rs : List Res) : EF T := fun s => dnO s (opA op (peekAll s.1 rs))
theorem q_call {op : List D → Option (D × Bool)} {g : AF T} {s : Sg T} : callF op g s = abnd (clK op) (g s) := by
  unfold callF abnd clK dnO opA
  rcases g s with _ | ⟨rs | _, s1⟩
  · rfl
  · simp only
    cases peekAll s1.1 rs <;> rfl
  · rfl
theorem q_clK {op : List D → Option (D × Bool)} {rs : List Res} {s : Sg T} : clK op rs s = dnO s (opA op (peekAll s.1 rs)) := (rfl)
def fOut (τ : List Sl) : Option (FOut × T) → Option (Out × Sg T)
  | none => none
  | some (.ok d fr, t) => some (.ok (resOf (d, fr)), (τ, t))
  | some (.ex c fs, t) => some (.ex c fs, (τ, t))
def ucO (F : FF T) (t : T) : Option (List D × List Sl) → Option (Out × Sg T)
  | none => none
  | some (ds, τ) => fOut τ (F ds t)
def ucK (F : FF T) (rs : List Res) : EF T := fun s => ucO F s.2 (giveAll s.1 rs)
theorem q_ucall {F : FF T} {g : AF T} {s : Sg T} : ucallF F g s = abnd (ucK F) (g s) := by
  unfold ucallF abnd ucK ucO fOut
  rcases g s with _ | ⟨_ | _, _⟩ <;> rfl
theorem q_ucK {F : FF T} {rs : List Res} {s : Sg T} : ucK F rs s = ucO F s.2 (giveAll s.1 rs) := (rfl)
theorem q_ucO {F : FF T} {t : T} {ds : List D} {τ : List Sl} : ucO F t (some (ds, τ)) = fOut τ (F ds t) := (rfl)
theorem q_fOut {τ : List Sl} {d : D} {fr : Bool} {t : T} : fOut τ (some (.ok d fr, t)) = some (.ok (resOf (d, fr)), (τ, t)) := (rfl)
/-! ### statements -/
def sqO (g : SF T) : Option (SOut × Sg T) → Option (SOut × Sg T)
  | some (.nx, s1) => g s1
  | r => r
theorem q_seq {f g : SF T} {s : Sg T} : seqF f g s = sqO g (f s) := (rfl)
theorem q_sqO_nx {g : SF T} {s : Sg T} : sqO g (some (.nx, s)) = g s := (rfl)
theorem q_sqO_rt {g : SF T} {s : Sg T} {r : Res} : sqO g (some (.rt r, s)) = some (.rt r, s) := (rfl)
theorem q_sqO_bk {g : SF T} {s : Sg T} : sqO g (some (.bk, s)) = some (.bk, s) := (rfl)
theorem q_sqO_ct {g : SF T} {s : Sg T} : sqO g (some (.ct, s)) = some (.ct, s) := (rfl)
theorem q_sqO_ex {g : SF T} {s : Sg T} {c : Str} {fs : List (Str × D)} : sqO g (some (.ex c fs, s)) = some (.ex c fs, s) := (rfl)
theorem q_nx {s : Sg T} : nxF s = some (.nx, s) := (rfl)
theorem q_bk {s : Sg T} : bkF s = some (.bk, s) := (rfl)
theorem q_ct {s : Sg T} : ctF s = some (.ct, s) := (rfl)
def sbnd (k : Res → SF T) : Option (Out × Sg T) → Option (SOut × Sg T)
  | none => none
  | some (.ex c fs, s1) => some (.ex c fs, s1)
  | some (.ok r, s1) => k r s1
theorem q_sbnd {k : Res → SF T} {r : Res} {s : Sg T} : sbnd k (some (.ok r, s)) = k r s := (rfl)
def drK (r : Res) : SF T := fun s => some (.nx, s)
theorem q_drop {f : EF T} {s : Sg T} : dropF f s = sbnd drK (f s) := (rfl)
theorem q_drK {r : Res} {s : Sg T} : drK r s = some (.nx, s) := (rfl)
def rtS (i : Nat) (s : Sg T) : Option Sl → Option (SOut × Sg T)
  | some (.v d) => some (.rt (.d d), s)
  | some (.o d) => some (.rt (.f d), (s.1.set i .no, s.2))
  | _ => none
def rtK (r : Res) : SF T := fun s => match r with
  | .s i => rtS i s s.1[i]?
  | r => some (.rt r, s)
theorem q_ret {f : EF T} {s : Sg T} : retF f s = sbnd rtK (f s) := by
  unfold retF sbind sbnd rtK rtS
  rcases f s with _ | ⟨(_ | _ | _) | _, _⟩ <;> rfl
theorem q_rtK_d {d : D} {s : Sg T} : rtK (.d d) s = some (.rt (.d d), s) := (rfl)
theorem q_rtK_f {d : D} {s : Sg T} : rtK (.f d) s = some (.rt (.f d), s) := (rfl)
theorem q_rtK_s {i : Nat} {s : Sg T} : rtK (.s i) s = rtS i s s.1[i]? := (rfl)
theorem q_rtS_v {i : Nat} {s : Sg T} {d : D} : rtS i s (some (.v d)) = some (.rt (.d d), s) := (rfl)
theorem q_rtS_o {i : Nat} {s : Sg T} {d : D} : rtS i s (some (.o d)) = some (.rt (.f d), (s.1.set i .no, s.2)) := (rfl)
theorem q_retN {s : Sg T} : retNF s = some (.rt (.d .non), s) := (rfl)
def ifB (g h : SF T) (s : Sg T) : Option D → Option (SOut × Sg T)
  | some (.bl true) => g s
  | some (.bl false) => h s
  | _ => none
def ifK (g h : SF T) (r : Res) : SF T := fun s => ifB g h s (peek s.1 (hold r))
theorem q_if {f : EF T} {g h : SF T} {s : Sg T} : ifF f g h s = sbnd (ifK g h) (f s) := (rfl)
theorem q_ifK {g h : SF T} {r : Res} {s : Sg T} : ifK g h r s = ifB g h s (peek s.1 (hold r)) := (rfl)
theorem q_ifB_t {g h : SF T} {s : Sg T} : ifB g h s (some (.bl true)) = g s := (rfl)
theorem q_ifB_f {g h : SF T} {s : Sg T} : ifB g h s (some (.bl false)) = h s := (rfl)
def stN (t : T) : Option (List Sl) → Option (SOut × Sg T)
  | none => none
  | some τ => some (.nx, (τ, t))
theorem q_stN {t : T} {τ : List Sl} : stN t (some τ) = some (.nx, (τ, t)) := (rfl)
def stK (i : Nat) (r : Res) : SF T := fun s => stN s.2 (storeAt i s.1 r)
theorem q_set {i : Nat} {f : EF T} {s : Sg T} : setF i f s = sbnd (stK i) (f s) := (rfl)
theorem q_stK {i : Nat} {r : Res} {s : Sg T} : stK i r s = stN s.2 (storeAt i s.1 r) := (rfl)
def stS (i j : Nat) (τ : List Sl) : Option Sl → Option (List Sl)
  | some (.v d) => some (τ.set i (.v d))
  | some (.o d) => some ((τ.set j (.v d)).set i (.v d))
  | _ => none
theorem q_store_d {i : Nat} {τ : List Sl} {d : D} : storeAt i τ (.d d) = some (τ.set i (.v d)) := (rfl)
theorem q_store_f {i : Nat} {τ : List Sl} {d : D} : storeAt i τ (.f d) = some (τ.set i (.o d)) := (rfl)
theorem q_store_s {i j : Nat} {τ : List Sl} : storeAt i τ (.s j) = stS i j τ τ[j]? := by
  show (match give τ (.s j) with
    | none => none
    | some (d, τ1) => some (τ1.set i (.v d))) = _
  rw [q_give_s]
  unfold gvS stS
  rcases τ[j]? with _ | (_ | _ | _) <;> rfl
theorem q_stS_v {i j : Nat} {τ : List Sl} {d : D} : stS i j τ (some (.v d)) = some (τ.set i (.v d)) := (rfl)
theorem q_stS_o {i j : Nat} {τ : List Sl} {d : D} : stS i j τ (some (.o d)) = some ((τ.set j (.v d)).set i (.v d)) := (rfl)
def asO (g : GF) (t : T) : Option (D × List Sl) → Option (SOut × Sg T)
  | none => none
  | some (d, τ) => stN t (g d τ)
def asK (g : GF) (r : Res) : SF T := fun s => asO g s.2 (give s.1 r)
theorem q_asg {g : GF} {f : EF T} {s : Sg T} : asgF g f s = sbnd (asK g) (f s) := by
  unfold asgF sbind sbnd asK asO stN
  rcases f s with _ | ⟨_ | _, _⟩ <;> rfl
theorem q_asK {g : GF} {r : Res} {s : Sg T} : asK g r s = asO g s.2 (give s.1 r) := (rfl)
theorem q_asO {g : GF} {t : T} {d : D} {τ : List Sl} : asO g t (some (d, τ)) = stN t (g d τ) := (rfl)
def paN (i : Nat) (d : D) (t : T) : Option (List Sl) → Option (SOut × Sg T)
  | none => none
  | some τ => some (.nx, (τ.set i (.v d), t))
def paK2 (i j : Nat) (d : D) (r : Res) : SF T := fun s => paN i d s.2 (storeAt j s.1 r)
def paO (i j : Nat) (g : EF T) (t : T) : Option (D × List Sl) → Option (SOut × Sg T)
  | none => none
  | some (d, τ) => sbnd (paK2 i j d) (g (τ, t))
def paK (i j : Nat) (g : EF T) (r : Res) : SF T := fun s => paO i j g s.2 (give s.1 r)
theorem q_par {i j : Nat} {f g : EF T} {s : Sg T} : parF i j f g s = sbnd (paK i j g) (f s) := by
  unfold parF sbnd paK paO paK2 paN sbind sbnd
  rcases f s with _ | ⟨_ | _, _⟩ <;> rfl
theorem q_paK {i j : Nat} {g : EF T} {r : Res} {s : Sg T} : paK i j g r s = paO i j g s.2 (give s.1 r) := (rfl)
theorem q_paO {i j : Nat} {g : EF T} {t : T} {d : D} {τ : List Sl} : paO i j g t (some (d, τ)) = sbnd (paK2 i j d) (g (τ, t)) := (rfl)
theorem q_paK2 {i j : Nat} {d : D} {r : Res} {s : Sg T} : paK2 i j d r s = paN i d s.2 (storeAt j s.1 r) := (rfl)
theorem q_paN {i : Nat} {d : D} {t : T} {τ : List Sl} : paN i d t (some τ) = some (.nx, (τ.set i (.v d), t)) := (rfl)
def pnN (j : Nat) (t : T) : Option (List Sl) → Option (SOut × Sg T)
  | none => none
  | some τ => some (.nx, (τ.set j (.o (.lst [])), t))
def pnK (i j : Nat) (r : Res) : SF T := fun s => pnN j s.2 (storeAt i s.1 r)
theorem q_parN {i j : Nat} {f : EF T} {s : Sg T} : parNF i j f s = sbnd (pnK i j) (f s) := (rfl)
theorem q_pnK {i j : Nat} {r : Res} {s : Sg T} : pnK i j r s = pnN j s.2 (storeAt i s.1 r) := (rfl)
theorem q_pnN {j : Nat} {t : T} {τ : List Sl} : pnN j t (some τ) = some (.nx, (τ.set j (.o (.lst [])), t)) := (rfl)
/-! ### own lists changed -/
def muN (i : Nat) (t : T) : Option (List D × D) → Option (Out × Sg T) := fun _ => none
def muX (i : Nat) (op : List D → List D → Option (List D × D)) (ds : List D) (τ : List Sl) (t : T) : Option Sl → Option (Out × Sg T)
  | some (.o (.lst xs)) => (op xs ds).map fun z => (.ok (.d z.2), (τ.set i (.o (.lst z.1)), t))
  | _ => none
def muO (i : Nat) (op : List D → List D → Option (List D × D)) (t : T) : Option (List D × List Sl) → Option (Out × Sg T)
  | none => none
  | some (ds, τ) => muX i op ds τ t τ[i]?
def muK (i : Nat) (op : List D → List D → Option (List D × D)) (rs : List Res) : EF T := fun s => muO i op s.2 (giveAll s.1 rs)
def muA (i : Nat) (op : List D → List D → Option (List D × D)) (g : AF T) (s : Sg T) : Option Sl → Option (Out × Sg T)
  | some (.o (.lst _)) => abnd (muK i op) (g s)
  | _ => none
theorem q_mut {i : Nat} {op : List D → List D → Option (List D × D)} {g : AF T} {s : Sg T} : mutF i op g s = muA i op g s s.1[i]? := by
  unfold mutF muA
  generalize s.1[i]? = z
  rcases z with _ | (_ | _ | d) <;> try rfl
  cases d <;> try rfl
  all_goals
    unfold abnd muK muO muX
    rcases g s with _ | ⟨rs | _, s1⟩ <;> try rfl
  all_goals
    cases e : giveAll s1.1 rs with
    | none => simp only [e]
    | some w =>
      simp only [e]
      generalize w.2[i]? = y
      rcases y with _ | (_ | _ | d2) <;> try rfl
      cases d2 <;> try rfl
      all_goals
        rename_i xs
        dsimp only
        cases op xs w.1 <;> rfl
theorem q_muA {i : Nat} {op : List D → List D → Option (List D × D)} {g : AF T} {s : Sg T} {xs : List D} : muA i op g s (some (.o (.lst xs))) = abnd (muK i op) (g s) := (rfl)
theorem q_muK {i : Nat} {op : List D → List D → Option (List D × D)} {rs : List Res} {s : Sg T} : muK i op rs s = muO i op s.2 (giveAll s.1 rs) := (rfl)
theorem q_muO {i : Nat} {op : List D → List D → Option (List D × D)} {t : T} {ds : List D} {τ : List Sl} : muO i op t (some (ds, τ)) = muX i op ds τ t τ[i]? := (rfl)
theorem q_muX {i : Nat} {op : List D → List D → Option (List D × D)} {ds : List D} {τ : List Sl} {t : T} {xs : List D} : muX i op ds τ t (some (.o (.lst xs))) = (op xs ds).map fun z => (.ok (.d z.2), (τ.set i (.o (.lst z.1)), t)) := (rfl)
/-! ### items set, +=, slices -/
def putJ (i : Nat) (d : D) (xs : List D) (τ : List Sl) : Option Nat → Option (List Sl)
  | none => none
  | some j => some (τ.set i (.o (.lst (xs.set j d))))
def putS (i : Nat) (d : D) (n : Int) (τ : List Sl) : Option Sl → Option (List Sl)
  | some (.o (.lst xs)) => putJ i d xs τ (ixN xs.length n)
  | _ => none
theorem q_putAt {i : Nat} {τ : List Sl} {n : Int} {d : D} : putAt i τ (.int n) d = putS i d n τ τ[i]? := by
  unfold putAt putS putJ
  rcases τ[i]? with _ | (_ | _ | (_ | _ | _ | _ | _ | _ | _ | _ | _ | _)) <;> rfl
theorem q_putS {i : Nat} {d : D} {n : Int} {τ : List Sl} {xs : List D} : putS i d n τ (some (.o (.lst xs))) = putJ i d xs τ (ixN xs.length n) := (rfl)
theorem q_putJ {i : Nat} {d : D} {xs : List D} {τ : List Sl} {j : Nat} : putJ i d xs τ (some j) = some (τ.set i (.o (.lst (xs.set j d)))) := (rfl)
def siP (i : Nat) (d : D) (s : Sg T) : Option D → Option (SOut × Sg T)
  | none => none
  | some k => stN s.2 (putAt i s.1 k d)
def siK2 (i : Nat) (d : D) (rk : Res) : SF T := fun s => siP i d s (peek s.1 (hold rk))
def siG (i : Nat) (fk : EF T) (d : D) (s : Sg T) : Option Sl → Option (SOut × Sg T)
  | some (.o (.lst _)) => sbnd (siK2 i d) (fk s)
  | _ => none
def siO (i : Nat) (fk : EF T) (t : T) : Option (D × List Sl) → Option (SOut × Sg T)
  | none => none
  | some (d, τ) => siG i fk d (τ, t) τ[i]?
def siK (i : Nat) (fk : EF T) (r : Res) : SF T := fun s => siO i fk s.2 (give s.1 r)
theorem q_setIx {i : Nat} {fk fe : EF T} {s : Sg T} : setIxF i fk fe s = sbnd (siK i fk) (fe s) := by
  unfold setIxF sbind sbnd siK siO siG siK2 siP stN
  rcases fe s with _ | ⟨r | _, s1⟩
  · rfl
  · simp only
    cases give s1.1 r with
    | none => rfl
    | some z =>
      simp only
      rcases z.2[i]? with _ | (_ | _ | (_ | _ | _ | _ | _ | _ | _ | _ | _ | _)) <;> try rfl
  · rfl
theorem q_siK {i : Nat} {fk : EF T} {r : Res} {s : Sg T} : siK i fk r s = siO i fk s.2 (give s.1 r) := (rfl)
theorem q_siO {i : Nat} {fk : EF T} {t : T} {d : D} {τ : List Sl} : siO i fk t (some (d, τ)) = siG i fk d (τ, t) τ[i]? := (rfl)
theorem q_siG {i : Nat} {fk : EF T} {d : D} {s : Sg T} {xs : List D} : siG i fk d s (some (.o (.lst xs))) = sbnd (siK2 i d) (fk s) := (rfl)
theorem q_siK2 {i : Nat} {d : D} {rk : Res} {s : Sg T} : siK2 i d rk s = siP i d s (peek s.1 (hold rk)) := (rfl)
theorem q_siP {i : Nat} {d k : D} {s : Sg T} : siP i d s (some k) = stN s.2 (putAt i s.1 k d) := (rfl)
def agO (i : Nat) (s : Sg T) : Option (D × Bool) → Option (SOut × Sg T)
  | some (z, false) => some (.nx, (s.1.set i (.v z), s.2))
  | _ => none
def agK (i : Nat) (op : D → D → Option (D × Bool)) (x : D) (r : Res) : SF T := fun s => agO i s (op1 (op x) (peek s.1 (hold r)))
def agS (i : Nat) (op : D → D → Option (D × Bool)) (f : EF T) (s : Sg T) : Option Sl → Option (SOut × Sg T)
  | some (.v x) => sbnd (agK i op x) (f s)
  | _ => none
theorem q_aug {i : Nat} {op : D → D → Option (D × Bool)} {f : EF T} {s : Sg T} : augF i op f s = agS i op f s s.1[i]? := by
  unfold augF agS
  rcases s.1[i]? with _ | (_ | x | _) <;> try rfl
  simp only [sbind, sbnd, agK, agO, op1]
  rcases f s with _ | ⟨r | _, s1⟩
  · rfl
  · simp only
    cases peek s1.1 (hold r) with
    | none => rfl
    | some y => first | rfl | (simp only; rcases op x y with _ | ⟨_, _ | _⟩ <;> rfl)
  · rfl
theorem q_agS {i : Nat} {op : D → D → Option (D × Bool)} {f : EF T} {s : Sg T} {x : D} : agS i op f s (some (.v x)) = sbnd (agK i op x) (f s) := (rfl)
theorem q_agK {i : Nat} {op : D → D → Option (D × Bool)} {x : D} {r : Res} {s : Sg T} : agK i op x r s = agO i s (op1 (op x) (peek s.1 (hold r))) := (rfl)
theorem q_agO {i : Nat} {s : Sg T} {z : D} : agO i s (some (z, false)) = some (.nx, (s.1.set i (.v z), s.2)) := (rfl)
def ptI (k : Option Int → EF T) (s : Sg T) : Option (Option Int) → Option (Out × Sg T)
  | none => none
  | some i => k i s
def ptD (b : Bool) : Option D → Option (Option Int)
  | none => none
  | some d => partB b d
def ptK (b : Bool) (k : Option Int → EF T) (r : Res) : EF T := fun s => ptI k s (ptD b (peek s.1 r))
def slP (ra : Res) (lo hi : Option Int) : EF T := fun s => dnO s (op1 (fun x => sliceD x lo hi) (peek s.1 (hold ra)))
def slH (bh : Bool) (h : EF T) (ra : Res) (lo : Option Int) : EF T := fun s => bnd (ptK bh (slP ra lo)) (h s)
def slL (bl bh : Bool) (g h : EF T) (ra : Res) : EF T := fun s => bnd (ptK bl (slH bh h ra)) (g s)
theorem part_eq {b : Bool} {g : EF T} {k k' : Option Int → EF T} (e : k = k') {s : Sg T} : partF b g k s = bnd (ptK b k') (g s) := by
  subst e
  unfold partF bindF bnd ptK ptD ptI
  rcases g s with _ | ⟨r | _, s1⟩
  · rfl
  · simp only
    cases peek s1.1 r with
    | none => rfl
    | some d => first | rfl | (simp only; cases partB b d <;> rfl)
  · rfl
theorem q_sl {bl bh : Bool} {f g h : EF T} {s : Sg T} : slF bl bh f g h s = bnd (slL bl bh g h) (f s) := by
  unfold slF bindF bnd
  rcases f s with _ | ⟨r | _, s1⟩
  · rfl
  · simp only
    refine part_eq (funext fun lo => funext fun s2 => ?_)
    refine part_eq (funext fun hi => funext fun s3 => ?_)
    unfold doneF slP dnO op1
    simp only
    cases peek s3.1 (hold r) <;> rfl
  · rfl
theorem q_slL {bl bh : Bool} {g h : EF T} {ra : Res} {s : Sg T} : slL bl bh g h ra s = bnd (ptK bl (slH bh h ra)) (g s) := (rfl)
theorem q_slH {bh : Bool} {h : EF T} {ra : Res} {lo : Option Int} {s : Sg T} : slH bh h ra lo s = bnd (ptK bh (slP ra lo)) (h s) := (rfl)
theorem q_slP {ra : Res} {lo hi : Option Int} {s : Sg T} : slP ra lo hi s = dnO s (op1 (fun x => sliceD x lo hi) (peek s.1 (hold ra))) := (rfl)
theorem q_ptK {b : Bool} {k : Option Int → EF T} {r : Res} {s : Sg T} : ptK b k r s = ptI k s (ptD b (peek s.1 r)) := (rfl)
theorem q_ptI {k : Option Int → EF T} {s : Sg T} {i : Option Int} : ptI k s (some i) = k i s := (rfl)
theorem q_ptD_n : ptD false (some .non) = some none := (rfl)
theorem q_ptD_i {i : Int} : ptD true (some (.int i)) = some (some i) := (rfl)
theorem q_slice_l {ds : List D} {lo hi : Option Int} : sliceD (.lst ds) lo hi = some (.lst (cutL ds lo hi), true) := (rfl)
theorem q_slice_t {ds : List D} {lo hi : Option Int} : sliceD (.tup ds) lo hi = some (.tup (cutL ds lo hi), false) := (rfl)
theorem q_rev {f : EF T} {s : Sg T} : revF f s = bnd (unK revD) (f s) := q_un
theorem q_rev_l {ds : List D} : revD (.lst ds) = some (.lst ds.reverse, true) := (rfl)
theorem q_rev_t {ds : List D} : revD (.tup ds) = some (.tup ds.reverse, false) := (rfl)
/-! ### loops -/
def frO (g : GF) (b : SF T) : Option (OutI × Sg T) → Option (SOut × Sg T)
  | none => none
  | some (.ex c fs, s1) => some (.ex c fs, s1)
  | some (.ok ds, s1) => forL g b ds s1
theorem q_for {it : IF T} {g : GF} {b : SF T} {s : Sg T} : forF it g b s = frO g b (it s) := by
  unfold forF frO
  rcases it s with _ | ⟨_ | _, _⟩ <;> rfl
theorem q_frO {g : GF} {b : SF T} {ds : List D} {s : Sg T} : frO g b (some (.ok ds, s)) = forL g b ds s := (rfl)
def itO (t : T) : Option (List D × List Sl) → Option (OutI × Sg T)
  | none => none
  | some (ds, τ) => some (.ok ds, (τ, t))
def itA (τ : List Sl) : Option (List D) → Option (List D × List Sl)
  | none => none
  | some ds => some (ds, τ)
def sqA : Option (D × List Sl) → Option (List D × List Sl)
  | none => none
  | some (d, τ) => itA τ (itemsD d)
def opI (op : List D → Option (List D)) : Option (List D × List Sl) → Option (List D × List Sl)
  | none => none
  | some (ds, τ) => itA τ (op ds)
def siB : Option (Out × Sg T) → Option (OutI × Sg T)
  | none => none
  | some (.ex c fs, s1) => some (.ex c fs, s1)
  | some (.ok r, s1) => itO s1.2 (sqA (give s1.1 r))
theorem q_seqI {f : EF T} {s : Sg T} : seqI f s = siB (f s) := by
  unfold seqI siB itO sqA itA
  rcases f s with _ | ⟨r | _, s1⟩
  · rfl
  · simp only
    cases give s1.1 r with
    | none => rfl
    | some z => simp only; cases itemsD z.1 <;> rfl
  · rfl
theorem q_siB {r : Res} {s : Sg T} : siB (some (.ok r, s)) = itO s.2 (sqA (give s.1 r)) := (rfl)
theorem q_sqA {d : D} {τ : List Sl} : sqA (some (d, τ)) = itA τ (itemsD d) := (rfl)
theorem q_itA {ds : List D} {τ : List Sl} : itA τ (some ds) = some (ds, τ) := (rfl)
theorem q_itO {ds : List D} {τ : List Sl} {t : T} : itO t (some (ds, τ)) = some (.ok ds, (τ, t)) := (rfl)
theorem q_items_l {ds : List D} : itemsD (.lst ds) = some ds := (rfl)
theorem q_items_t {ds : List D} : itemsD (.tup ds) = some ds := (rfl)
def ciB (op : List D → Option (List D)) : Option (OutA × Sg T) → Option (OutI × Sg T)
  | none => none
  | some (.ex c fs, s1) => some (.ex c fs, s1)
  | some (.ok rs, s1) => itO s1.2 (opI op (giveAll s1.1 rs))
theorem q_callI {op : List D → Option (List D)} {g : AF T} {s : Sg T} : callI op g s = ciB op (g s) := by
  unfold callI ciB itO opI itA
  rcases g s with _ | ⟨r | _, s1⟩
  · rfl
  · simp only
    cases giveAll s1.1 r with
    | none => rfl
    | some z => simp only; cases op z.1 <;> rfl
  · rfl
theorem q_ciB {op : List D → Option (List D)} {rs : List Res} {s : Sg T} : ciB op (some (.ok rs, s)) = itO s.2 (opI op (giveAll s.1 rs)) := (rfl)
theorem q_opI {op : List D → Option (List D)} {ds : List D} {τ : List Sl} : opI op (some (ds, τ)) = itA τ (op ds) := (rfl)
def lcR (τ : List Sl) : Option (List D × T) → Option (Out × Sg T)
  | none => none
  | some (out, t) => some (.ok (.f (.lst out)), (τ, t))
def lcO (sh vs : List Nat) (g : GF) (c e : EF T) : Option (OutI × Sg T) → Option (Out × Sg T)
  | none => none
  | some (.ex k fs, s1) => some (.ex k fs, s1)
  | some (.ok ds, s1) => if ds.length ≤ LEN then lcR (shareAll sh s1.1) (lcL g c e (hideFrom vs 0 (shareAll sh s1.1)) ds s1.2) else none
theorem q_lc {sh vs : List Nat} {it : IF T} {g : GF} {c e : EF T} {s : Sg T} : lcF sh vs it g c e s = lcO sh vs g c e (it s) := by
  unfold lcF lcO lcR
  rcases it s with _ | ⟨_ | _, _⟩ <;> rfl
theorem q_lcO {sh vs : List Nat} {g : GF} {c e : EF T} {ds : List D} {s : Sg T} : lcO sh vs g c e (some (.ok ds, s)) = if ds.length ≤ LEN then lcR (shareAll sh s.1) (lcL g c e (hideFrom vs 0 (shareAll sh s.1)) ds s.2) else none := (rfl)
theorem q_lcR {τ : List Sl} {out : List D} {t : T} : lcR τ (some (out, t)) = some (.ok (.f (.lst out)), (τ, t)) := (rfl)
def whO (c : EF T) (b : SF T) (n : Nat) : Option (SOut × Sg T) → Option (SOut × Sg T)
  | some (.nx, s1) => whileN c b n s1
  | some (.ct, s1) => whileN c b n s1
  | some (.bk, s1) => some (.nx, s1)
  | r => r
def whL (c : EF T) (b : SF T) (n : Nat) : SF T := fun s => whO c b n (b s)
theorem q_whileN {c : EF T} {b : SF T} {n : Nat} {s : Sg T} : whileN c b (n + 1) s = sbnd (ifK (whL c b n) nxF) (c s) := by
  show ifF c _ nxF s = _
  rw [q_if]
  rfl
theorem q_whL {c : EF T} {b : SF T} {n : Nat} {s : Sg T} : whL c b n s = whO c b n (b s) := (rfl)
theorem q_whO_nx {c : EF T} {b : SF T} {n : Nat} {s : Sg T} : whO c b n (some (.nx, s)) = whileN c b n s := (rfl)
theorem q_whO_ct {c : EF T} {b : SF T} {n : Nat} {s : Sg T} : whO c b n (some (.ct, s)) = whileN c b n s := (rfl)
theorem q_whO_bk {c : EF T} {b : SF T} {n : Nat} {s : Sg T} : whO c b n (some (.bk, s)) = some (.nx, s) := (rfl)
theorem q_whO_rt {c : EF T} {b : SF T} {n : Nat} {s : Sg T} {r : Res} : whO c b n (some (.rt r, s)) = some (.rt r, s) := (rfl)
/-! ### targets -/
theorem q_nameG {i : Nat} {d : D} {τ : List Sl} : nameG i d τ = some (τ.set i (.v d)) := (rfl)
def cgO (h : GFs) (ds : List D) : Option (List Sl) → Option (List Sl)
  | none => none
  | some τ => h ds τ
theorem q_nilG {τ : List Sl} : nilG [] τ = some τ := (rfl)
theorem q_consG {g : GF} {h : GFs} {d : D} {ds : List D} {τ : List Sl} : consG g h (d :: ds) τ = cgO h ds (g d τ) := by
  unfold cgO
  first | (rw [consG]; done) | (rw [consG]; cases g d τ <;> rfl)
theorem q_cgO {h : GFs} {ds : List D} {τ : List Sl} : cgO h ds (some τ) = h ds τ := (rfl)
theorem q_tupG {n : Nat} {h : GFs} {ds : List D} {τ : List Sl} : tupG n h (.tup ds) τ = if ds.length = n then h ds τ else none := (rfl)
theorem q_lstG {n : Nat} {h : GFs} {ds : List D} {τ : List Sl} : lstG n h (.lst ds) τ = if ds.length = n then h ds τ else none := (rfl)
/-! ### defs -/
def outF : Option (SOut × Sg T) → Option (FOut × T)
  | some (.nx, s) => some (.ok .non false, s.2)
  | some (.rt (.d d), s) => some (.ok d false, s.2)
  | some (.rt (.f d), s) => some (.ok d true, s.2)
  | some (.ex c fs, s) => some (.ex c fs, s.2)
  | _ => none
theorem q_run {N n : Nat} {f : SF T} {ds : List D} {t : T} (h : ds.length = n) : runF N n f ds t = outF (f (ds.map Sl.v ++ List.replicate (N - ds.length) .no, t)) := by
  unfold runF outF
  rw [if_pos h]
  rfl
theorem q_out_n {s : Sg T} : outF (some (.nx, s)) = some (.ok .non false, s.2) := (rfl)
theorem q_out_d {s : Sg T} {d : D} : outF (some (.rt (.d d), s)) = some (.ok d false, s.2) := (rfl)
theorem q_out_f {s : Sg T} {d : D} : outF (some (.rt (.f d), s)) = some (.ok d true, s.2) := (rfl)
end
/-! ### isinstance of constants -/
theorem q_is_non_int  : isiD [.non, .ty "int"] = some (.bl false, false) := by simp [isiD, tyN, kinds, isA]
theorem q_is_non_bool  : isiD [.non, .ty "bool"] = some (.bl false, false) := by simp [isiD, tyN, kinds, isA]
theorem q_is_non_str  : isiD [.non, .ty "str"] = some (.bl false, false) := by simp [isiD, tyN, kinds, isA]
theorem q_is_non_list  : isiD [.non, .ty "list"] = some (.bl false, false) := by simp [isiD, tyN, kinds, isA]
theorem q_is_non_tuple  : isiD [.non, .ty "tuple"] = some (.bl false, false) := by simp [isiD, tyN, kinds, isA]
theorem q_is_non_dict  : isiD [.non, .ty "dict"] = some (.bl false, false) := by simp [isiD, tyN, kinds, isA]
theorem q_is_non_tuple_list  : isiD [.non, .tup [.ty "tuple", .ty "list"]] = some (.bl false, false) := by simp [isiD, tyN, kinds, isA, isAny]
theorem q_is_non_list_tuple  : isiD [.non, .tup [.ty "list", .ty "tuple"]] = some (.bl false, false) := by simp [isiD, tyN, kinds, isA, isAny]
theorem q_is_bl_int {x : Bool} : isiD [(.bl x), .ty "int"] = some (.bl true, false) := by simp [isiD, tyN, kinds, isA]
theorem q_is_bl_bool {x : Bool} : isiD [(.bl x), .ty "bool"] = some (.bl true, false) := by simp [isiD, tyN, kinds, isA]
theorem q_is_bl_str {x : Bool} : isiD [(.bl x), .ty "str"] = some (.bl false, false) := by simp [isiD, tyN, kinds, isA]
theorem q_is_bl_list {x : Bool} : isiD [(.bl x), .ty "list"] = some (.bl false, false) := by simp [isiD, tyN, kinds, isA]
theorem q_is_bl_tuple {x : Bool} : isiD [(.bl x), .ty "tuple"] = some (.bl false, false) := by simp [isiD, tyN, kinds, isA]
theorem q_is_bl_dict {x : Bool} : isiD [(.bl x), .ty "dict"] = some (.bl false, false) := by simp [isiD, tyN, kinds, isA]
theorem q_is_bl_tuple_list {x : Bool} : isiD [(.bl x), .tup [.ty "tuple", .ty "list"]] = some (.bl false, false) := by simp [isiD, tyN, kinds, isA, isAny]
theorem q_is_bl_list_tuple {x : Bool} : isiD [(.bl x), .tup [.ty "list", .ty "tuple"]] = some (.bl false, false) := by simp [isiD, tyN, kinds, isA, isAny]
theorem q_is_int_int {x : Int} : isiD [(.int x), .ty "int"] = some (.bl true, false) := by simp [isiD, tyN, kinds, isA]
theorem q_is_int_bool {x : Int} : isiD [(.int x), .ty "bool"] = some (.bl false, false) := by simp [isiD, tyN, kinds, isA]
theorem q_is_int_str {x : Int} : isiD [(.int x), .ty "str"] = some (.bl false, false) := by simp [isiD, tyN, kinds, isA]
theorem q_is_int_list {x : Int} : isiD [(.int x), .ty "list"] = some (.bl false, false) := by simp [isiD, tyN, kinds, isA]
theorem q_is_int_tuple {x : Int} : isiD [(.int x), .ty "tuple"] = some (.bl false, false) := by simp [isiD, tyN, kinds, isA]
theorem q_is_int_dict {x : Int} : isiD [(.int x), .ty "dict"] = some (.bl false, false) := by simp [isiD, tyN, kinds, isA]
theorem q_is_int_tuple_list {x : Int} : isiD [(.int x), .tup [.ty "tuple", .ty "list"]] = some (.bl false, false) := by simp [isiD, tyN, kinds, isA, isAny]
theorem q_is_int_list_tuple {x : Int} : isiD [(.int x), .tup [.ty "list", .ty "tuple"]] = some (.bl false, false) := by simp [isiD, tyN, kinds, isA, isAny]
theorem q_is_str_int {x : Str} : isiD [(.str x), .ty "int"] = some (.bl false, false) := by simp [isiD, tyN, kinds, isA]
theorem q_is_str_bool {x : Str} : isiD [(.str x), .ty "bool"] = some (.bl false, false) := by simp [isiD, tyN, kinds, isA]
theorem q_is_str_str {x : Str} : isiD [(.str x), .ty "str"] = some (.bl true, false) := by simp [isiD, tyN, kinds, isA]
theorem q_is_str_list {x : Str} : isiD [(.str x), .ty "list"] = some (.bl false, false) := by simp [isiD, tyN, kinds, isA]
theorem q_is_str_tuple {x : Str} : isiD [(.str x), .ty "tuple"] = some (.bl false, false) := by simp [isiD, tyN, kinds, isA]
theorem q_is_str_dict {x : Str} : isiD [(.str x), .ty "dict"] = some (.bl false, false) := by simp [isiD, tyN, kinds, isA]
theorem q_is_str_tuple_list {x : Str} : isiD [(.str x), .tup [.ty "tuple", .ty "list"]] = some (.bl false, false) := by simp [isiD, tyN, kinds, isA, isAny]
theorem q_is_str_list_tuple {x : Str} : isiD [(.str x), .tup [.ty "list", .ty "tuple"]] = some (.bl false, false) := by simp [isiD, tyN, kinds, isA, isAny]
theorem q_is_tup_int {x : List D} : isiD [(.tup x), .ty "int"] = some (.bl false, false) := by simp [isiD, tyN, kinds, isA]
theorem q_is_tup_bool {x : List D} : isiD [(.tup x), .ty "bool"] = some (.bl false, false) := by simp [isiD, tyN, kinds, isA]
theorem q_is_tup_str {x : List D} : isiD [(.tup x), .ty "str"] = some (.bl false, false) := by simp [isiD, tyN, kinds, isA]
theorem q_is_tup_list {x : List D} : isiD [(.tup x), .ty "list"] = some (.bl false, false) := by simp [isiD, tyN, kinds, isA]
theorem q_is_tup_tuple {x : List D} : isiD [(.tup x), .ty "tuple"] = some (.bl true, false) := by simp [isiD, tyN, kinds, isA]
theorem q_is_tup_dict {x : List D} : isiD [(.tup x), .ty "dict"] = some (.bl false, false) := by simp [isiD, tyN, kinds, isA]
theorem q_is_tup_tuple_list {x : List D} : isiD [(.tup x), .tup [.ty "tuple", .ty "list"]] = some (.bl true, false) := by simp [isiD, tyN, kinds, isA, isAny]
theorem q_is_tup_list_tuple {x : List D} : isiD [(.tup x), .tup [.ty "list", .ty "tuple"]] = some (.bl true, false) := by simp [isiD, tyN, kinds, isA, isAny]
theorem q_is_lst_int {x : List D} : isiD [(.lst x), .ty "int"] = some (.bl false, false) := by simp [isiD, tyN, kinds, isA]
theorem q_is_lst_bool {x : List D} : isiD [(.lst x), .ty "bool"] = some (.bl false, false) := by simp [isiD, tyN, kinds, isA]
theorem q_is_lst_str {x : List D} : isiD [(.lst x), .ty "str"] = some (.bl false, false) := by simp [isiD, tyN, kinds, isA]
theorem q_is_lst_list {x : List D} : isiD [(.lst x), .ty "list"] = some (.bl true, false) := by simp [isiD, tyN, kinds, isA]
theorem q_is_lst_tuple {x : List D} : isiD [(.lst x), .ty "tuple"] = some (.bl false, false) := by simp [isiD, tyN, kinds, isA]
theorem q_is_lst_dict {x : List D} : isiD [(.lst x), .ty "dict"] = some (.bl false, false) := by simp [isiD, tyN, kinds, isA]
theorem q_is_lst_tuple_list {x : List D} : isiD [(.lst x), .tup [.ty "tuple", .ty "list"]] = some (.bl true, false) := by simp [isiD, tyN, kinds, isA, isAny]
theorem q_is_lst_list_tuple {x : List D} : isiD [(.lst x), .tup [.ty "list", .ty "tuple"]] = some (.bl true, false) := by simp [isiD, tyN, kinds, isA, isAny]
theorem q_is_dct_int {x : List (Key × D)} : isiD [(.dct x), .ty "int"] = some (.bl false, false) := by simp [isiD, tyN, kinds, isA]
theorem q_is_dct_bool {x : List (Key × D)} : isiD [(.dct x), .ty "bool"] = some (.bl false, false) := by simp [isiD, tyN, kinds, isA]
theorem q_is_dct_str {x : List (Key × D)} : isiD [(.dct x), .ty "str"] = some (.bl false, false) := by simp [isiD, tyN, kinds, isA]
theorem q_is_dct_list {x : List (Key × D)} : isiD [(.dct x), .ty "list"] = some (.bl false, false) := by simp [isiD, tyN, kinds, isA]
theorem q_is_dct_tuple {x : List (Key × D)} : isiD [(.dct x), .ty "tuple"] = some (.bl false, false) := by simp [isiD, tyN, kinds, isA]
theorem q_is_dct_dict {x : List (Key × D)} : isiD [(.dct x), .ty "dict"] = some (.bl true, false) := by simp [isiD, tyN, kinds, isA]
theorem q_is_dct_tuple_list {x : List (Key × D)} : isiD [(.dct x), .tup [.ty "tuple", .ty "list"]] = some (.bl false, false) := by simp [isiD, tyN, kinds, isA, isAny]
theorem q_is_dct_list_tuple {x : List (Key × D)} : isiD [(.dct x), .tup [.ty "list", .ty "tuple"]] = some (.bl false, false) := by simp [isiD, tyN, kinds, isA, isAny]
def fdA :=
  And.intro (@q_hold_d) <| And.intro (@q_hold_f) <| And.intro (@q_hold_s) <| And.intro (@q_peek_d) <| And.intro (@q_peek_f) <| And.intro (@q_peek_s) <| And.intro (@q_pkS_v) <| And.intro (@q_pkS_o) <| And.intro (@q_give_d) <| And.intro (@q_give_f) <| And.intro (@q_give_s) <| And.intro (@q_gvS_v) <| And.intro (@q_gvS_o) <| And.intro (@q_giveAll_n) <| And.intro (@q_giveAll_c) <| And.intro (@q_gvA) <| And.intro (@q_gvB) <| And.intro (@q_peekAll_n) <| And.intro (@q_peekAll_c) <| And.intro (@q_pkB) <| And.intro (@q_resOf_t) <| And.intro (@q_resOf_f) <| And.intro (@q_var) <| And.intro (@q_varK_v) <| And.intro (@q_varK_o) <| And.intro (@q_con) <| And.intro (@q_bnd) <| And.intro (@q_dnO) <| And.intro (@q_op2) <| And.intro (@q_op1) <| And.intro (@q_bin) <| And.intro (@q_binK) <| And.intro (@q_binK2) <| And.intro (@q_un) <| And.intro (@q_unK) <| And.intro (@q_branch) <| And.intro (@q_brK) <| And.intro (@q_brB_t) <| And.intro (@q_brB_f) <| And.intro (@q_and) <| And.intro (@q_or) <| And.intro (@q_not) <| And.intro (@q_nilA) <| And.intro (@q_consA) <| And.intro (@q_cnsK) <| And.intro (@q_cnsA) <| And.intro (@q_abnd) <| And.intro (@q_disp) <| And.intro (@q_dspK) <| And.intro (@q_dspO) <| And.intro (@q_tup) <| And.intro (@q_lst) <| And.intro (@q_opA) <| And.intro (@q_call) <| And.intro (@q_clK) <| And.intro (@q_ucall) <| And.intro (@q_ucK) <| And.intro (@q_ucO) <| And.intro (@q_fOut) <| And.intro (@q_seq) <| And.intro (@q_sqO_nx) <| And.intro (@q_sqO_rt) <| And.intro (@q_sqO_bk) <| And.intro (@q_sqO_ct) <| And.intro (@q_sqO_ex) <| And.intro (@q_nx) <| And.intro (@q_bk) <| And.intro (@q_ct) <| And.intro (@q_sbnd) <| And.intro (@q_drop) <| And.intro (@q_drK) <| And.intro (@q_ret) <| And.intro (@q_rtK_d) <| And.intro (@q_rtK_f) <| And.intro (@q_rtK_s) <| And.intro (@q_rtS_v) <| And.intro (@q_rtS_o) <| And.intro (@q_retN) <| And.intro (@q_if) <| And.intro (@q_ifK) <| And.intro (@q_ifB_t) <| And.intro (@q_ifB_f) <| And.intro (@q_stN) <| And.intro (@q_set) <| And.intro (@q_stK) <| And.intro (@q_store_d) <| And.intro (@q_store_f) <| And.intro (@q_store_s) <| And.intro (@q_stS_v) <| And.intro (@q_stS_o) <| And.intro (@q_asg) <| And.intro (@q_asK) <| And.intro (@q_asO) <| And.intro (@q_par) <| And.intro (@q_paK) <| And.intro (@q_paO) <| And.intro (@q_paK2) <| And.intro (@q_paN) <| And.intro (@q_parN) <| And.intro (@q_pnK) <| And.intro (@q_pnN) <| And.intro (@q_mut) <| And.intro (@q_muA) <| And.intro (@q_muK) <| And.intro (@q_muO) <| And.intro (@q_muX) <| And.intro (@q_for) <| And.intro (@q_frO) <| And.intro (@q_seqI) <| And.intro (@q_siB) <| And.intro (@q_sqA) <| And.intro (@q_itA) <| And.intro (@q_itO) <| And.intro (@q_items_l) <| And.intro (@q_items_t) <| And.intro (@q_callI) <| And.intro (@q_ciB) <| And.intro (@q_opI) <| And.intro (@q_lc) <| And.intro (@q_lcO) <| And.intro (@q_lcR) <| And.intro (@q_nameG) <| And.intro (@q_nilG) <| And.intro (@q_consG) <| And.intro (@q_cgO) <| And.intro (@q_tupG) <| And.intro (@q_lstG) <| And.intro (@q_run) <| And.intro (@q_out_n) <| And.intro (@q_out_d) <| And.intro (@q_out_f) <| And.intro (@q_whL) <| And.intro (@q_whO_nx) <| And.intro (@q_whO_ct) <| And.intro (@q_whO_bk) <| And.intro (@q_whO_rt) <| And.intro (@q_putAt) <| And.intro (@q_putS) <| And.intro (@q_putJ) <| And.intro (@q_setIx) <| And.intro (@q_siK) <| And.intro (@q_siO) <| And.intro (@q_siG) <| And.intro (@q_siK2) <| And.intro (@q_siP) <| And.intro (@q_aug) <| And.intro (@q_agS) <| And.intro (@q_agK) <| And.intro (@q_agO) <| And.intro (@q_sl) <| And.intro (@q_slL) <| And.intro (@q_slH) <| And.intro (@q_slP) <| And.intro (@q_ptK) <| And.intro (@q_ptI) <| And.intro (@q_ptD_n) <| And.intro (@q_ptD_i) <| And.intro (@q_slice_l) <| And.intro (@q_slice_t) <| And.intro (@q_rev) <| And.intro (@q_rev_l) <| And.intro (@q_rev_t) <| And.intro (@q_is_non_int) <| And.intro (@q_is_non_bool) <| And.intro (@q_is_non_str) <| And.intro (@q_is_non_list) <| And.intro (@q_is_non_tuple) <| And.intro (@q_is_non_dict) <| And.intro (@q_is_non_tuple_list) <| And.intro (@q_is_non_list_tuple) <| And.intro (@q_is_bl_int) <| And.intro (@q_is_bl_bool) <| And.intro (@q_is_bl_str) <| And.intro (@q_is_bl_list) <| And.intro (@q_is_bl_tuple) <| And.intro (@q_is_bl_dict) <| And.intro (@q_is_bl_tuple_list) <| And.intro (@q_is_bl_list_tuple) <| And.intro (@q_is_int_int) <| And.intro (@q_is_int_bool) <| And.intro (@q_is_int_str) <| And.intro (@q_is_int_list) <| And.intro (@q_is_int_tuple) <| And.intro (@q_is_int_dict) <| And.intro (@q_is_int_tuple_list) <| And.intro (@q_is_int_list_tuple) <| And.intro (@q_is_str_int) <| And.intro (@q_is_str_bool) <| And.intro (@q_is_str_str) <| And.intro (@q_is_str_list) <| And.intro (@q_is_str_tuple) <| And.intro (@q_is_str_dict) <| And.intro (@q_is_str_tuple_list) <| And.intro (@q_is_str_list_tuple) <| And.intro (@q_is_tup_int) <| And.intro (@q_is_tup_bool) <| And.intro (@q_is_tup_str) <| And.intro (@q_is_tup_list) <| And.intro (@q_is_tup_tuple) <| And.intro (@q_is_tup_dict) <| And.intro (@q_is_tup_tuple_list) <| And.intro (@q_is_tup_list_tuple) <| And.intro (@q_is_lst_int) <| And.intro (@q_is_lst_bool) <| And.intro (@q_is_lst_str) <| And.intro (@q_is_lst_list) <| And.intro (@q_is_lst_tuple) <| And.intro (@q_is_lst_dict) <| And.intro (@q_is_lst_tuple_list) <| And.intro (@q_is_lst_list_tuple) <| And.intro (@q_is_dct_int) <| And.intro (@q_is_dct_bool) <| And.intro (@q_is_dct_str) <| And.intro (@q_is_dct_list) <| And.intro (@q_is_dct_tuple) <| And.intro (@q_is_dct_dict) <| And.intro (@q_is_dct_tuple_list) (@q_is_dct_list_tuple)
abbrev tpI (ns : List Int) : D := .tup (ns.map D.int)
abbrev lsI (ns : List Int) : D := .lst (ns.map D.int)
theorem next_eq {t : DS} {m : Int} {n : Nat} (h1 : 0 < m) (h2 : m < 2 ^ 64) (h3 : t.c < 2 ^ 40) : FF_q_next [.hnd n, .int m] t = some (.ok (.int (t.draw m)) false, t.step m) := by
  unfold FF_q_next
  exact if_pos ⟨h1, h2, h3⟩
theorem forL_inv {T : Type} {g : GF} {b : SF T} (I : Nat → Sg T → Prop) : ∀ (ds : List D) (k : Nat) (s : Sg T),
    (∀ i d s, ds[i]? = some d → I (k + i) s → ∃ τ s', g d s.1 = some τ ∧ b (τ, s.2) = some (.nx, s') ∧ I (k + i + 1) s') → I k s → ∃ s', forL g b ds s = some (.nx, s') ∧ I (k + ds.length) s'
  | [], k, s, _, h => ⟨s, rfl, h⟩
  | d :: ds, k, s, st, h => by
    obtain ⟨τ, s1, e1, e2, h1⟩ := st 0 d s rfl h
    obtain ⟨s2, e3, h2⟩ := forL_inv I ds (k + 1) s1 (fun i d' s e hI => by
      have := st (i + 1) d' s e (by rw [show k + (i + 1) = k + 1 + i by omega]; exact hI)
      rwa [show k + (i + 1) + 1 = k + 1 + i + 1 by omega] at this) h1
    refine ⟨s2, ?_, by rw [List.length_cons, show k + (ds.length + 1) = k + 1 + ds.length by omega]; exact h2⟩
    unfold forL
    simp only [e1, e2]
    exact e3
end FD

/-! F23: what the operations give for data of known kinds. -/
namespace FD
open PySem PySem.Spec PyProof.Rows L2
theorem eqv_int (a b : Int) : PyData.eqv (.int a) (.int b) = decide (a = b) := by
  simp only [PyData.eqv]
  by_cases h : a = b <;> simp [h]
theorem eqv_bl (a b : Bool) : PyData.eqv (.bool a) (.bool b) = decide (a = b) := by
  cases a <;> cases b <;> simp [PyData.eqv]
theorem okAll_int (n : Nat) : ∀ ns : List Int, okAll n (ns.map D.int) = true
  | [] => rfl
  | a :: r => by simp [okAll, okD, okAll_int n r]
theorem pys_int : ∀ ns : List Int, pys (ns.map D.int) = ns.map PyData.int
  | [] => rfl
  | a :: r => by simp [pys, py, pys_int r]
theorem eqvAll_int : ∀ a b : List Int, PyData.eqvAll (a.map PyData.int) (b.map PyData.int) = decide (a = b)
  | [], [] => by simp [PyData.eqvAll]
  | [], b :: bs => by simp [PyData.eqvAll]
  | a :: r, [] => by simp [PyData.eqvAll]
  | a :: r, b :: bs => by simp [PyData.eqvAll, eqv_int, eqvAll_int r bs]
theorem v_eq_int {a b : Int} : eqD (.int a) (.int b) = some (.bl (decide (a = b)), false) := by
  simp [eqD, okD, eqB, py, eqv_int]
theorem v_ne_int {a b : Int} : neD (.int a) (.int b) = some (.bl (!decide (a = b)), false) := by
  simp [neD, okD, eqB, py, eqv_int]
theorem v_eq_bl {a b : Bool} : eqD (.bl a) (.bl b) = some (.bl (decide (a = b)), false) := by
  simp [eqD, okD, eqB, py, eqv_bl]
theorem v_ne_bl {a b : Bool} : neD (.bl a) (.bl b) = some (.bl (!decide (a = b)), false) := by
  simp [neD, okD, eqB, py, eqv_bl]
theorem v_eq_str {a b : Str} : eqD (.str a) (.str b) = some (.bl (decide (a = b)), false) := (rfl)
theorem v_ne_str {a b : Str} : neD (.str a) (.str b) = some (.bl (!decide (a = b)), false) := (rfl)
theorem v_eq_tpI {a b : List Int} : eqD (.tup (a.map D.int)) (.tup (b.map D.int)) = some (.bl (decide (a = b)), false) := by
  simp [eqD, okD, eqB, py, okAll_int, pys_int, PyData.eqv, eqvAll_int]
theorem v_ne_tpI {a b : List Int} : neD (.tup (a.map D.int)) (.tup (b.map D.int)) = some (.bl (!decide (a = b)), false) := by
  simp [neD, okD, eqB, py, okAll_int, pys_int, PyData.eqv, eqvAll_int]
theorem v_eq_lsI {a b : List Int} : eqD (.lst (a.map D.int)) (.lst (b.map D.int)) = some (.bl (decide (a = b)), false) := by
  simp [eqD, okD, eqB, py, okAll_int, pys_int, PyData.eqv, eqvAll_int]
theorem v_ne_lsI {a b : List Int} : neD (.lst (a.map D.int)) (.lst (b.map D.int)) = some (.bl (!decide (a = b)), false) := by
  simp [neD, okD, eqB, py, okAll_int, pys_int, PyData.eqv, eqvAll_int]
theorem v_eq_nil {a : List D} (h : okAll 63 a = true) : eqD (.lst a) (.lst []) = some (.bl a.isEmpty, false) := by
  cases a with
  | nil => simp [eqD, okD, okAll, eqB, py, pys, PyData.eqv, PyData.eqvAll]
  | cons x r =>
    have h' : okD 64 (.lst (x :: r)) = true := by unfold okD; exact h
    have h2 : okD 64 (.lst []) = true := by simp [okD, okAll]
    show (if okD 64 (.lst (x :: r)) = true ∧ okD 64 (.lst []) = true then _ else _) = _
    rw [if_pos ⟨h', h2⟩]
    simp [eqB, py, pys, PyData.eqv, PyData.eqvAll]
theorem v_ne_nil {a : List D} (h : okAll 63 a = true) : neD (.lst a) (.lst []) = some (.bl (!a.isEmpty), false) := by
  cases a with
  | nil => simp [neD, okD, okAll, eqB, py, pys, PyData.eqv, PyData.eqvAll]
  | cons x r =>
    have h' : okD 64 (.lst (x :: r)) = true := by unfold okD; exact h
    have h2 : okD 64 (.lst []) = true := by simp [okD, okAll]
    show (if okD 64 (.lst (x :: r)) = true ∧ okD 64 (.lst []) = true then _ else _) = _
    rw [if_pos ⟨h', h2⟩]
    simp [eqB, py, pys, PyData.eqv, PyData.eqvAll]
theorem v_is_bl {a : Bool} : isD (.bl a) .non = some (.bl false, false) := (rfl)
theorem v_is_int {a : Int} : isD (.int a) .non = some (.bl false, false) := (rfl)
theorem v_is_str {a : Str} : isD (.str a) .non = some (.bl false, false) := (rfl)
theorem v_is_tup {a : List D} : isD (.tup a) .non = some (.bl false, false) := (rfl)
theorem v_is_lst {a : List D} : isD (.lst a) .non = some (.bl false, false) := (rfl)
theorem v_is_non : isD .non .non = some (.bl true, false) := (rfl)
theorem v_is_bb {a b : Bool} : isD (.bl a) (.bl b) = some (.bl (decide (a = b)), false) := (rfl)
theorem v_isnt_bl {a : Bool} : isntD (.bl a) .non = some (.bl true, false) := (rfl)
theorem v_isnt_int {a : Int} : isntD (.int a) .non = some (.bl true, false) := (rfl)
theorem v_isnt_str {a : Str} : isntD (.str a) .non = some (.bl true, false) := (rfl)
theorem v_isnt_tup {a : List D} : isntD (.tup a) .non = some (.bl true, false) := (rfl)
theorem v_isnt_lst {a : List D} : isntD (.lst a) .non = some (.bl true, false) := (rfl)
theorem v_isnt_non : isntD .non .non = some (.bl false, false) := (rfl)
theorem v_add_int {a b : Int} : addD (.int a) (.int b) = some (.int (a + b), false) := (rfl)
theorem v_sub_int {a b : Int} : subD (.int a) (.int b) = some (.int (a - b), false) := (rfl)
theorem v_addI {a b : Int} : addI (.int a) (.int b) = some (.int (a + b), false) := (rfl)
theorem v_subI {a b : Int} : subI (.int a) (.int b) = some (.int (a - b), false) := (rfl)
theorem v_lt {a b : Int} : ltD (.int a) (.int b) = some (.bl (decide (a < b)), false) := (rfl)
theorem v_le {a b : Int} : leD (.int a) (.int b) = some (.bl (decide (a ≤ b)), false) := (rfl)
theorem v_gt {a b : Int} : gtD (.int a) (.int b) = some (.bl (decide (b < a)), false) := (rfl)
theorem v_ge {a b : Int} : geD (.int a) (.int b) = some (.bl (decide (b ≤ a)), false) := (rfl)
theorem v_mod {a b : Int} (h : 0 < b) : modD (.int a) (.int b) = some (.int (a % b), false) := if_pos h
theorem v_fdiv {a b : Int} (h : 0 < b) (f : Fair b) : fdivD (.int a) (.int b) = some (.int (a / b), false) := if_pos ⟨h, f⟩
theorem v_len_t {a : List D} : lenD [.tup a] = some (.int a.length, false) := (rfl)
theorem v_len_l {a : List D} : lenD [.lst a] = some (.int a.length, false) := (rfl)
theorem v_sum_t {a : List Int} : sumD [.tup (a.map D.int)] = some (.int a.sum, false) := by
  simp [sumD, intsD_map]
theorem v_sum_l {a : List Int} : sumD [.lst (a.map D.int)] = some (.int a.sum, false) := by
  simp [sumD, intsD_map]
theorem v_tuple_l {a : List D} : tupleD [.lst a] = some (.tup a, false) := (rfl)
theorem v_tuple_t {a : List D} : tupleD [.tup a] = some (.tup a, false) := (rfl)
theorem v_list_l {a : List D} : listD [.lst a] = some (.lst a, true) := (rfl)
theorem v_list_t {a : List D} : listD [.tup a] = some (.lst a, true) := (rfl)
theorem v_int_i {a : Int} : intD [.int a] = some (.int a, false) := (rfl)
theorem v_int_b {a : Bool} : intD [.bl a] = some (.int (if a then 1 else 0), false) := (rfl)
theorem v_sort_t {b : Bool} {a : List Int} : sortBD b [.tup (a.map D.int)] = some (.lst ((sortOf b a).map D.int), true) := by
  simp [sortBD, intsD_map]
theorem v_sort_l {b : Bool} {a : List Int} : sortBD b [.lst (a.map D.int)] = some (.lst ((sortOf b a).map D.int), true) := by
  simp [sortBD, intsD_map]
theorem v_zip_l {a b : List D} : zipD [.lst a, .lst b] = some (pairD a b) := (rfl)
theorem v_zip_t {a b : List D} : zipD [.tup a, .tup b] = some (pairD a b) := (rfl)
theorem v_ix_t {a : List D} {i : Int} {d : D} (e : atI a i = some d) : ixD (.tup a) (.int i) = some (d, false) := by
  simp [ixD, e]
theorem v_ix_l {a : List D} {i : Int} {d : D} (e : atI a i = some d) : ixD (.lst a) (.int i) = some (d, false) := by
  simp [ixD, e]
theorem atI_map {a : List Int} {i : Int} (h0 : 0 ≤ i) (h1 : i < a.length) : atI (a.map D.int) i = some (.int (a[i.toNat]?.getD 0)) := by
  obtain ⟨k, rfl⟩ := Int.eq_ofNat_of_zero_le h0
  have hk : k < a.length := by omega
  have e : (a.map D.int)[k]? = some (D.int a[k]) := by simp [hk]
  rw [atI_nat e]
  simp [hk]
theorem rngL_len (lo hi : Int) : (rngL lo hi).length = (hi - lo).toNat := by
  unfold rngL
  simp
theorem rngL_map (lo hi : Int) : rngL lo hi = ((List.range (hi - lo).toNat).map fun (k : Nat) => lo + (k : Int)).map D.int := by
  unfold rngL
  rw [List.map_map]
  rfl
theorem v_rng1 {j : Int} (h : small j = true) : rng1D [.int j] = some (rngL 0 j) := if_pos h
theorem v_rng2 {i j : Int} (h1 : small i = true) (h2 : small j = true) : rng2D [.int i, .int j] = some (rngL i j) := if_pos ⟨h1, h2⟩
theorem small_of {i : Int} (h : -(2 ^ 60) ≤ i ∧ i ≤ 2 ^ 60) : small i = true := decide_eq_true h
theorem fair_of {i : Int} (h : -(2 ^ 60) ≤ i ∧ i ≤ 2 ^ 60) : Fair i := by
  unfold Fair
  have : i.natAbs ≤ 2 ^ 60 := by omega
  exact Nat.lt_of_le_of_lt this (Nat.pow_lt_pow_right (by decide) (by decide))
theorem ixN_of {n : Nat} {i : Int} (h0 : 0 ≤ i) (h1 : i < n) : ixN n i = some i.toNat := by
  unfold ixN
  rw [if_pos h0, if_pos (by omega)]
theorem set_int {ns : List Int} {k : Nat} {x : Int} : (ns.map D.int).set k (.int x) = (ns.set k x).map D.int := by
  rw [List.map_set]
theorem app_int {ns : List Int} {x : Int} : ns.map D.int ++ [D.int x] = (ns ++ [x]).map D.int := by
  rw [List.map_append]
  rfl
theorem erase_map : ∀ (ns : List Int) (k : Nat), (ns.map D.int).eraseIdx k = (ns.eraseIdx k).map D.int
  | [], _ => rfl
  | a :: r, 0 => rfl
  | a :: r, k + 1 => by
    simp only [List.map_cons, List.eraseIdx_cons_succ, erase_map r k]
theorem v_pop {ns : List Int} {i : Int} (h0 : 0 ≤ i) (h1 : i < ns.length) (h2 : ns.length ≤ 2 ^ 60) : popD (ns.map D.int) [.int i] = some ((ns.eraseIdx i.toNat).map D.int, .int (ns[i.toNat]?.getD 0)) := by
  obtain ⟨k, rfl⟩ := Int.eq_ofNat_of_zero_le h0
  have hk : k < ns.length := by omega
  have e := seqIndex_of (k := k) (n := ns.length) (by omega) (by omega)
  have e2 : (ns.map D.int)[k]? = some (.int ns[k]) := by simp [hk]
  have e3 : seqIndex? (k : Int) (ns.map D.int).length = some k := by rw [List.length_map]; exact e
  show (if small (k : Int) = true then _ else _) = _
  rw [if_pos (small_of (by omega)), e3]
  simp only [e2, Int.toNat_natCast]
  rw [erase_map]
  simp [hk]
theorem v_app {xs : List D} {d : D} (h : xs.length < LEN) : appD xs [d] = some (xs ++ [d], .non) := if_pos h
def fvA :=
  And.intro (@v_eq_int) <| And.intro (@v_ne_int) <| And.intro (@v_eq_bl) <| And.intro (@v_ne_bl) <| And.intro (@v_eq_str) <| And.intro (@v_ne_str) <| And.intro (@v_eq_tpI) <| And.intro (@v_ne_tpI) <| And.intro (@v_eq_lsI) <| And.intro (@v_ne_lsI) <| And.intro (@v_is_bl) <| And.intro (@v_is_int) <| And.intro (@v_is_str) <| And.intro (@v_is_tup) <| And.intro (@v_is_lst) <| And.intro (@v_is_non) <| And.intro (@v_is_bb) <| And.intro (@v_isnt_bl) <| And.intro (@v_isnt_int) <| And.intro (@v_isnt_str) <| And.intro (@v_isnt_tup) <| And.intro (@v_isnt_lst) <| And.intro (@v_isnt_non) <| And.intro (@v_add_int) <| And.intro (@v_sub_int) <| And.intro (@v_addI) <| And.intro (@v_subI) <| And.intro (@v_lt) <| And.intro (@v_le) <| And.intro (@v_gt) <| And.intro (@v_ge) <| And.intro (@v_len_t) <| And.intro (@v_len_l) <| And.intro (@v_sum_t) <| And.intro (@v_sum_l) <| And.intro (@v_tuple_l) <| And.intro (@v_tuple_t) <| And.intro (@v_list_l) <| And.intro (@v_list_t) <| And.intro (@v_int_i) <| And.intro (@v_int_b) <| And.intro (@v_sort_t) <| And.intro (@v_sort_l) <| And.intro (@v_zip_l) <| And.intro (@v_zip_t) <| And.intro (@set_int) <| (@app_int)
end FD

/-! F24: loops and comprehensions over lists of known kind. -/
namespace FD
open PySem PySem.Spec PyProof.Rows L2
section
variable {T : Type}
def flO (g : GF) (b : SF T) (ds : List D) : Option (SOut × Sg T) → Option (SOut × Sg T)
  | none => none
  | some (.nx, s1) => forL g b ds s1
  | some (.ct, s1) => forL g b ds s1
  | some (.bk, s1) => some (.nx, s1)
  | some (.rt r, s1) => some (.rt r, s1)
  | some (.ex c fs, s1) => some (.ex c fs, s1)
def flT (g : GF) (b : SF T) (ds : List D) (t : T) : Option (List Sl) → Option (SOut × Sg T)
  | none => none
  | some τ => flO g b ds (b (τ, t))
theorem q_forL_n {g : GF} {b : SF T} {s : Sg T} : forL g b [] s = some (.nx, s) := (rfl)
theorem q_forL_c {g : GF} {b : SF T} {d : D} {ds : List D} {s : Sg T} : forL g b (d :: ds) s = flT g b ds s.2 (g d s.1) := by
  show (match g d s.1 with
    | none => none
    | some τ => match b (τ, s.2) with
      | none => none
      | some (.nx, s1) => forL g b ds s1
      | some (.ct, s1) => forL g b ds s1
      | some (.bk, s1) => some (.nx, s1)
      | some (.rt r, s1) => some (.rt r, s1)
      | some (.ex c fs, s1) => some (.ex c fs, s1)) = _
  unfold flT flO
  cases g d s.1 with
  | none => rfl
  | some τ => rfl
theorem q_flT {g : GF} {b : SF T} {ds : List D} {t : T} {τ : List Sl} : flT g b ds t (some τ) = flO g b ds (b (τ, t)) := (rfl)
theorem q_flO_nx {g : GF} {b : SF T} {ds : List D} {s : Sg T} : flO g b ds (some (.nx, s)) = forL g b ds s := (rfl)
theorem q_flO_ct {g : GF} {b : SF T} {ds : List D} {s : Sg T} : flO g b ds (some (.ct, s)) = forL g b ds s := (rfl)
theorem q_flO_bk {g : GF} {b : SF T} {ds : List D} {s : Sg T} : flO g b ds (some (.bk, s)) = some (.nx, s) := (rfl)
theorem q_flO_rt {g : GF} {b : SF T} {ds : List D} {s : Sg T} {r : Res} : flO g b ds (some (.rt r, s)) = some (.rt r, s) := (rfl)
/-- a comprehension whose parts leave the state as it is -/
theorem lcL_fm {A : Type} {g : GF} {c e : EF T} {τ0 : List Sl} {t : T} (mk f : A → D) (p : A → Bool) : ∀ (as : List A),
    (∀ a ∈ as, ∃ τ1 rc τ2, g (mk a) τ0 = some τ1 ∧ c (τ1, t) = some (.ok rc, (τ2, t)) ∧ peek τ2 (hold rc) = some (.bl (p a)) ∧ (p a = true → ∃ r τ3 τ4, e (τ2, t) = some (.ok r, (τ3, t)) ∧ give τ3 r = some (f a, τ4))) →
    lcL g c e τ0 (as.map mk) t = some ((as.filter p).map f, t)
  | [], _ => rfl
  | a :: as, h => by
    obtain ⟨τ1, rc, τ2, e1, e2, e3, k⟩ := h a (List.mem_cons_self ..)
    have ih := lcL_fm mk f p as fun b hb => h b (List.mem_cons_of_mem _ hb)
    rw [List.map_cons]
    unfold lcL
    simp only [e1, e2, e3]
    cases hp : p a with
    | false =>
      simp only [ih]
      rw [List.filter_cons_of_neg (by simp [hp])]
    | true =>
      obtain ⟨r, τ3, τ4, e4, e5⟩ := k hp
      simp only [e4, e5, ih]
      rw [List.filter_cons_of_pos hp]
      rfl
/-- a comprehension without a condition, the state walking along -/
theorem lcL_inv {g : GF} {e : EF T} {τ0 : List Sl} (I : Nat → T → Prop) (P : Nat → D → Prop) : ∀ (ds : List D) (k : Nat) (t : T),
    (∀ i d t, ds[i]? = some d → I (k + i) t → ∃ τ1 r τ3 t' v τ4, g d τ0 = some τ1 ∧ e (τ1, t) = some (.ok r, (τ3, t')) ∧ give τ3 r = some (v, τ4) ∧ P (k + i) v ∧ I (k + i + 1) t') → I k t →
    ∃ out t', lcL g yesF e τ0 ds t = some (out, t') ∧ out.length = ds.length ∧ (∀ i v, out[i]? = some v → P (k + i) v) ∧ I (k + ds.length) t'
  | [], k, t, _, h => ⟨[], t, rfl, rfl, fun _ _ e => by simp at e, h⟩
  | d :: ds, k, t, st, h => by
    obtain ⟨τ1, r, τ3, t1, v, τ4, e1, e2, e3, p, h1⟩ := st 0 d t rfl h
    obtain ⟨out, t', e4, l, ps, h2⟩ := lcL_inv I P ds (k + 1) t1 (fun i d' t e hI => by
      have := st (i + 1) d' t e (by rw [show k + (i + 1) = k + 1 + i by omega]; exact hI)
      rwa [show k + (i + 1) + 1 = k + 1 + i + 1 by omega, show k + (i + 1) = k + 1 + i by omega] at this) h1
    refine ⟨v :: out, t', ?_, by simp [l], ?_, by rw [List.length_cons, show k + (ds.length + 1) = k + 1 + ds.length by omega]; exact h2⟩
    · unfold lcL
      have y : (yesF : EF T) (τ1, t) = some (.ok (.d (.bl true)), (τ1, t)) := (rfl)
      simp only [e1, y, peek, hold, e2, e3, e4]
    · intro i w e
      cases i with
      | zero => cases e; exact p
      | succ i => rw [show k + (i + 1) = k + 1 + i by omega]; exact ps i w e
theorem q_share_n {τ : List Sl} : shareAll [] τ = τ := (rfl)
def shO (i : Nat) (τ : List Sl) : Option Sl → List Sl
  | some (.o d) => τ.set i (.v d)
  | _ => τ
theorem q_share_c {i : Nat} {is : List Nat} {τ : List Sl} : shareAll (i :: is) τ = shareAll is (shO i τ τ[i]?) := by
  show shareAll is (match τ[i]? with
    | some (.o d) => τ.set i (.v d)
    | _ => τ) = _
  congr 1
theorem q_shO_v {i : Nat} {τ : List Sl} {d : D} : shO i τ (some (.v d)) = τ := (rfl)
theorem q_shO_o {i : Nat} {τ : List Sl} {d : D} : shO i τ (some (.o d)) = τ.set i (.v d) := (rfl)
theorem q_shO_n {i : Nat} {τ : List Sl} : shO i τ (some .no) = τ := (rfl)
theorem q_hide_n {vs : List Nat} {k : Nat} : hideFrom vs k [] = [] := (rfl)
theorem q_hide_c {vs : List Nat} {k : Nat} {s : Sl} {r : List Sl} : hideFrom vs k (s :: r) = (if k ∈ vs then .no else unown s) :: hideFrom vs (k + 1) r := (rfl)
theorem q_unown_v {d : D} : unown (.v d) = .v d := (rfl)
theorem q_unown_o {d : D} : unown (.o d) = .no := (rfl)
theorem q_unown_n : unown .no = .no := (rfl)
end
def fhA :=
  And.intro (@q_forL_n) <| And.intro (@q_forL_c) <| And.intro (@q_flT) <| And.intro (@q_flO_nx) <| And.intro (@q_flO_ct) <| And.intro (@q_flO_bk) <| And.intro (@q_flO_rt) <| And.intro (@q_share_n) <| And.intro (@q_share_c) <| And.intro (@q_shO_v) <| And.intro (@q_shO_o) <| And.intro (@q_shO_n) <| And.intro (@q_hide_n) <| And.intro (@q_hide_c) <| And.intro (@q_unown_v) <| And.intro (@q_unown_o) (@q_unown_n)
end FD

namespace FD
open PySem PySem.Spec PyProof.Rows L2
/-! ### data that repr can show -/
structure Tame (k n : Nat) (d : PyData) : Prop where
  sh : d.showable = true
  dp : d.depth ≤ k
  lv : d.leavesShort 70 = true
  bk : d.bulk ≤ n
theorem Tame.mono {k n k' n' : Nat} {d : PyData} (h : Tame k n d) (h1 : k ≤ k') (h2 : n ≤ n') : Tame k' n' d := ⟨h.sh, Nat.le_trans h.dp h1, h.lv, Nat.le_trans h.bk h2⟩
theorem Tame.fits {k n : Nat} {d : PyData} (h : Tame k n d) (hk : k ≤ 60) (hn : n ≤ 200000) : d.showable = true ∧ d.depth ≤ 60 ∧ d.shown.length ≤ sizeLine := by
  refine ⟨h.sh, Nat.le_trans h.dp hk, ?_⟩
  have := PyData.shown_le_bulk 70 (by decide) d h.lv
  have := h.bk
  rw [sizeLine_eq]
  omega
theorem log_lt {a : Nat} (h : a < 10 ^ 60) : a.log2 < 1920 := by
  by_cases h0 : a = 0
  · subst h0
    decide
  · have : a.log2 < 200 := (Nat.log2_lt h0).mpr (Nat.lt_of_lt_of_le h (by decide))
    omega
theorem tame_int {i : Int} (h : i.natAbs < 10 ^ 60) : Tame 0 0 (.int i) := by
  refine ⟨?_, ?_, ?_, ?_⟩
  · simp only [PyData.showable, decide_eq_true_eq]
    exact log_lt h
  · simp [PyData.depth]
  · have h1 := int_text_length_le10 (k := 60) (by decide) h
    have h2 : (PyData.shown (.int i)).length ≤ 70 := by
      have e : PyData.shown (.int i) = Str.ofString (toString i) := by simp only [PyData.shown]
      rw [e, PySem.ofString_length]
      omega
    simp only [PyData.leavesShort]
    exact decide_eq_true h2
  · simp [PyData.bulk]
theorem tame_str {x : Str} (h1 : x.cps.size ≤ 20) (h2 : (x.cps.toList.all fun c => decide (c < 16 ^ 8)) = true) : Tame 0 20 (.str x) :=
  ⟨by simp [PyData.showable], by simp [PyData.depth], by simpa only [PyData.leavesShort] using h2, by simpa only [PyData.bulk] using h1⟩
theorem tame_all {k n : Nat} : ∀ {ds : List PyData}, (∀ d ∈ ds, Tame k n d) → PyData.showableAll ds = true ∧ PyData.depthAll ds ≤ k ∧ PyData.leavesShortAll 70 ds = true ∧ PyData.bulkAll ds ≤ (n + 1) * ds.length
  | [], _ => ⟨by simp [PyData.showableAll], by simp [PyData.depthAll], by simp [PyData.leavesShortAll], by simp [PyData.bulkAll]⟩
  | d :: ds, h => by
    have h1 := h d List.mem_cons_self
    obtain ⟨a, b, c, e⟩ := tame_all fun x hx => h x (List.mem_cons_of_mem _ hx)
    have h2 := h1.dp
    have h3 := h1.bk
    refine ⟨by simp [PyData.showableAll, h1.sh, a], ?_, by simp [PyData.leavesShortAll, h1.lv, c], ?_⟩
    · simp only [PyData.depthAll]
      omega
    · simp only [PyData.bulkAll, List.length_cons, Nat.mul_add, Nat.mul_one]
      omega
theorem tame_tup {k n l : Nat} {ds : List PyData} (h : ∀ d ∈ ds, Tame k n d) (hl : ds.length ≤ l) : Tame (k + 1) ((n + 1) * l) (.tuple ds) := by
  obtain ⟨a, b, c, e⟩ := tame_all h
  refine ⟨by simpa only [PyData.showable] using a, by simp only [PyData.depth]; omega, by simpa only [PyData.leavesShort] using c, ?_⟩
  simp only [PyData.bulk]
  exact Nat.le_trans e (Nat.mul_le_mul_left _ hl)
theorem tame_lst {k n l : Nat} {ds : List PyData} (h : ∀ d ∈ ds, Tame k n d) (hl : ds.length ≤ l) : Tame (k + 1) ((n + 1) * l) (.list ds) := by
  obtain ⟨a, b, c, e⟩ := tame_all h
  refine ⟨by simpa only [PyData.showable] using a, by simp only [PyData.depth]; omega, by simpa only [PyData.leavesShort] using c, ?_⟩
  simp only [PyData.bulk]
  exact Nat.le_trans e (Nat.mul_le_mul_left _ hl)
theorem Tame.shown_ok {k n : Nat} {d : PyData} (h : Tame k n d) (hk : k ≤ 60) (hn : n ≤ 200000) : Shown d := h.fits hk hn
theorem pqs_int : ∀ ns : List Int, pqs (ns.map D.int) = some (ns.map PyData.int)
  | [] => by simp [pqs]
  | a :: r => by simp [pqs, pq, pqs_int r]
theorem pqs_tpI : ∀ nss : List (List Int), pqs (nss.map tpI) = some (nss.map fun ns => PyData.tuple (ns.map PyData.int))
  | [] => by simp [pqs]
  | a :: r => by
    have := pqs_tpI r
    simp [pqs, pq, pqs_int, this]
theorem tame_ints {ns : List Int} {l : Nat} (h : ∀ x ∈ ns, x.natAbs < 10 ^ 60) (hl : ns.length ≤ l) : Tame 1 l (.tuple (ns.map PyData.int)) := by
  have := tame_tup (k := 0) (n := 0) (l := l) (ds := ns.map PyData.int) (fun d hd => by
    obtain ⟨x, hx, rfl⟩ := List.mem_map.mp hd
    exact tame_int (h x hx)) (by simpa using hl)
  simpa using this
/-- repr of a list of tuples of ints -/
theorem v_repr_lt {nss : List (List Int)} (h1 : nss.length ≤ 100) (h2 : ∀ ns ∈ nss, ns.length ≤ 100 ∧ ∀ x ∈ ns, x.natAbs < 10 ^ 60) : ∃ s, reprD [.lst (nss.map tpI)] = some (.str s, false) := by
  have t := tame_lst (k := 1) (n := 100) (l := 100) (ds := nss.map fun ns => PyData.tuple (ns.map PyData.int)) (fun d hd => by
    obtain ⟨ns, hx, rfl⟩ := List.mem_map.mp hd
    exact tame_ints (h2 ns hx).2 (h2 ns hx).1) (by simpa using h1)
  have e : pq (.lst (nss.map tpI)) = some (.list (nss.map fun ns => PyData.tuple (ns.map PyData.int))) := by
    have := pqs_tpI nss
    simp [pq, this]
  have s := t.shown_ok (by decide) (by decide)
  refine ⟨(PyData.list (nss.map fun ns => PyData.tuple (ns.map PyData.int))).shown, ?_⟩
  unfold reprD
  simp only [e]
  exact if_pos ⟨rfl, s⟩
/-- behind a loop -/
theorem for_then {T : Type} {g : GF} {b k : SF T} {ds : List D} {s : Sg T} {o : SOut} (I : Nat → Sg T → Prop) (st : ∀ i d s, ds[i]? = some d → I i s → ∃ τ s', g d s.1 = some τ ∧ b (τ, s.2) = some (.nx, s') ∧ I (i + 1) s') (h : I 0 s)
    (fin : ∀ s', I ds.length s' → ∃ s'', k s' = some (o, s'')) : ∃ s'', sqO k (forL g b ds s) = some (o, s'') := by
  obtain ⟨s1, e, h1⟩ := forL_inv I ds 0 s (fun i d s e hI => by
    rw [Nat.zero_add] at hI ⊢
    exact st i d s e hI) h
  rw [Nat.zero_add] at h1
  obtain ⟨s2, e2⟩ := fin s1 h1
  refine ⟨s2, ?_⟩
  rw [e, q_sqO_nx, e2]
theorem cut1 {A : Type} (xs : List A) : cutL xs (some 1) none = xs.drop 1 := by
  unfold cutL sl0 sl1
  have e : HT.sIx xs.length 0 (some 1) = min 1 xs.length := HT.sIx_nat xs.length 0 1
  rw [e, HT.sIx_none]
  cases xs with
  | nil => rfl
  | cons a r =>
    rw [show min 1 (a :: r).length = 1 by simp]
    rw [List.take_of_length_le (by simp)]
theorem v_add_tpI {a b : List Int} (h : a.length + b.length ≤ LEN) : addD (.tup (a.map D.int)) (.tup (b.map D.int)) = some (.tup ((a ++ b).map D.int), false) := by
  unfold addD
  simp only [List.length_map]
  rw [if_pos h, List.map_append]
theorem v_mul_one {x : Int} {k : Int} (h1 : -1000 ≤ k) (h2 : k ≤ 1000) : mulD (.tup [.int x]) (.int k) = some (.tup ((List.replicate k.toNat x).map D.int), false) := by
  show (if _ ∧ _ ∧ _ ∧ _ then _ else none) = _
  rw [if_pos ⟨by simp, h1, h2, by simp⟩]
  have e : (List.replicate k.toNat [D.int x]).flatten = (List.replicate k.toNat x).map D.int := by
    rw [List.map_replicate]
    generalize k.toNat = n
    induction n with
    | zero => rfl
    | succ n ih => rw [List.replicate_succ, List.flatten_cons, ih, List.replicate_succ]; rfl
  rw [e]
theorem ints_of {Q : Int → Prop} : ∀ {out : List D}, (∀ v ∈ out, ∃ n, v = .int n ∧ Q n) → ∃ ns : List Int, out = ns.map D.int ∧ ∀ n ∈ ns, Q n
  | [], _ => ⟨[], rfl, by simp⟩
  | v :: r, h => by
    obtain ⟨n, rfl, q⟩ := h v (List.mem_cons_self ..)
    obtain ⟨ns, rfl, qs⟩ := ints_of fun w m => h w (List.mem_cons_of_mem _ m)
    exact ⟨n :: ns, rfl, fun x m => by rcases List.mem_cons.mp m with rfl | m; exact q; exact qs x m⟩
theorem le_of_sum : ∀ {l : List Int}, (∀ x ∈ l, 0 ≤ x) → ∀ x ∈ l, x ≤ l.sum
  | [], _, _, h => by cases h
  | a :: r, n, x, m => by
    have s0 : ∀ {l : List Int}, (∀ x ∈ l, 0 ≤ x) → 0 ≤ l.sum := by
      intro l
      induction l with
      | nil => simp
      | cons b t ih =>
        intro h
        have := ih fun x m => h x (List.mem_cons_of_mem _ m)
        have := h b (List.mem_cons_self ..)
        simp
        omega
    have n' : ∀ x ∈ r, 0 ≤ x := fun x m => n x (List.mem_cons_of_mem _ m)
    have := s0 n'
    have := n a (List.mem_cons_self ..)
    rcases List.mem_cons.mp m with rfl | m
    · simp
      omega
    · have := le_of_sum n' x m
      simp
      omega
end FD

namespace FD
open PySem PySem.Spec PyProof.Rows L2
def topS (i : Nat) : Stmt := PySem.Challenge.pw_groupcaps_k41_evenness_judged.main.body.getD i (.Pass ⟨0, 0, 0, 0⟩)
abbrev s_is_as_even : Stmt := topS 1
abbrev n_is_as_even : List Str := ["one", "other", "ahead", "units", "others"]
abbrev p_is_as_even : List Str := ["one", "other"]
theorem sc_is_as_even : FnScope n_is_as_even p_is_as_even (defScope s_is_as_even) := ⟨rfl, rfl, rfl, by decide +kernel, rfl, by decide +kernel, by decide +kernel⟩
abbrev s_q_deck : Stmt := topS 3
abbrev n_q_deck : List Str := ["_law_script", "_law_cells", "_law_cell"]
abbrev p_q_deck : List Str := ["_law_script"]
theorem sc_q_deck : FnScope n_q_deck p_q_deck (defScope s_q_deck) := ⟨rfl, rfl, rfl, by decide +kernel, rfl, by decide +kernel, by decide +kernel⟩
abbrev s_q_next : Stmt := topS 4
abbrev n_q_next : List Str := ["_law_deck_here", "_law_many", "_law_rest", "_law_cell", "_law_pick"]
abbrev p_q_next : List Str := ["_law_deck_here", "_law_many"]
theorem sc_q_next : FnScope n_q_next p_q_next (defScope s_q_next) := ⟨rfl, rfl, rfl, by decide +kernel, rfl, by decide +kernel, by decide +kernel⟩
abbrev s_q_one : Stmt := topS 5
abbrev n_q_one : List Str := ["_law_deck_here", "_law_some"]
abbrev p_q_one : List Str := ["_law_deck_here", "_law_some"]
theorem sc_q_one : FnScope n_q_one p_q_one (defScope s_q_one) := ⟨rfl, rfl, rfl, by decide +kernel, rfl, by decide +kernel, by decide +kernel⟩
abbrev s_q_same : Stmt := topS 6
abbrev n_q_same : List Str := ["_law_found", "_law_due_here", "_law_k"]
abbrev p_q_same : List Str := ["_law_found", "_law_due_here"]
theorem sc_q_same : FnScope n_q_same p_q_same (defScope s_q_same) := ⟨rfl, rfl, rfl, by decide +kernel, rfl, by decide +kernel, by decide +kernel⟩
abbrev s_q_shuffled : Stmt := topS 7
abbrev n_q_shuffled : List Str := ["_law_deck_here", "_law_items", "_law_left", "_law_found"]
abbrev p_q_shuffled : List Str := ["_law_deck_here", "_law_items"]
theorem sc_q_shuffled : FnScope n_q_shuffled p_q_shuffled (defScope s_q_shuffled) := ⟨rfl, rfl, rfl, by decide +kernel, rfl, by decide +kernel, by decide +kernel⟩
abbrev s_q_changed : Stmt := topS 8
abbrev n_q_changed : List Str := ["_law_plan", "_law_less", "_law_more", "_law_found"]
abbrev p_q_changed : List Str := ["_law_plan", "_law_less", "_law_more"]
theorem sc_q_changed : FnScope n_q_changed p_q_changed (defScope s_q_changed) := ⟨rfl, rfl, rfl, by decide +kernel, rfl, by decide +kernel, by decide +kernel⟩
abbrev s_q_greatest : Stmt := topS 9
abbrev n_q_greatest : List Str := ["_law_plan", "_law_many", "_law_rows", "_law_units", "_law_count", "_law_load"]
abbrev p_q_greatest : List Str := ["_law_plan", "_law_many"]
theorem sc_q_greatest : FnScope n_q_greatest p_q_greatest (defScope s_q_greatest) := ⟨rfl, rfl, rfl, by decide +kernel, rfl, by decide +kernel, by decide +kernel⟩
abbrev s_q_due : Stmt := topS 10
abbrev n_q_due : List Str := ["_law_one_here", "_law_other", "_law_k"]
abbrev p_q_due : List Str := ["_law_one_here", "_law_other"]
theorem sc_q_due : FnScope n_q_due p_q_due (defScope s_q_due) := ⟨rfl, rfl, rfl, by decide +kernel, rfl, by decide +kernel, by decide +kernel⟩
abbrev s_q_moved : Stmt := topS 11
abbrev n_q_moved : List Str := ["_law_deck_here", "_law_plan", "_law_turn", "_law_less", "_law_more"]
abbrev p_q_moved : List Str := ["_law_deck_here", "_law_plan"]
theorem sc_q_moved : FnScope n_q_moved p_q_moved (defScope s_q_moved) := ⟨rfl, rfl, rfl, by decide +kernel, rfl, by decide +kernel, by decide +kernel⟩
abbrev s_law : Stmt := topS 12
abbrev n_law : List Str := ["_law_script", "_law_deck_here", "_law_turn", "_law_great", "_law_one_here", "_law_near", "_law_turned", "_law_total", "_law_flat", "_law_some", "_law_kept", "_law_first", "_law_second", "_law_k"]
abbrev p_law : List Str := ["_law_script"]
theorem sc_law : FnScope n_law p_law (defScope s_law) := ⟨rfl, rfl, rfl, by decide +kernel, rfl, by decide +kernel, by decide +kernel⟩
/-- what the top leaves -/
structure Txt (K : PySem.W.Frag) (mg : Str → Option Value) where
  a_is_as_even : Addr
  d_is_as_even : FuncData
  F_is_as_even : Fun K "is_as_even" "is_as_even" s_is_as_even a_is_as_even d_is_as_even
  b_is_as_even : Binds K d_is_as_even p_is_as_even []
  g_is_as_even : mg "is_as_even" = some (.ref a_is_as_even)
  a_q_deck : Addr
  d_q_deck : FuncData
  F_q_deck : Fun K "_law_deck" "_law_deck" s_q_deck a_q_deck d_q_deck
  b_q_deck : Binds K d_q_deck p_q_deck []
  g_q_deck : mg "_law_deck" = some (.ref a_q_deck)
  a_q_next : Addr
  d_q_next : FuncData
  F_q_next : Fun K "_law_next" "_law_next" s_q_next a_q_next d_q_next
  b_q_next : Binds K d_q_next p_q_next []
  g_q_next : mg "_law_next" = some (.ref a_q_next)
  a_q_one : Addr
  d_q_one : FuncData
  F_q_one : Fun K "_law_one" "_law_one" s_q_one a_q_one d_q_one
  b_q_one : Binds K d_q_one p_q_one []
  g_q_one : mg "_law_one" = some (.ref a_q_one)
  a_q_same : Addr
  d_q_same : FuncData
  F_q_same : Fun K "_law_same" "_law_same" s_q_same a_q_same d_q_same
  b_q_same : Binds K d_q_same p_q_same []
  g_q_same : mg "_law_same" = some (.ref a_q_same)
  a_q_shuffled : Addr
  d_q_shuffled : FuncData
  F_q_shuffled : Fun K "_law_shuffled" "_law_shuffled" s_q_shuffled a_q_shuffled d_q_shuffled
  b_q_shuffled : Binds K d_q_shuffled p_q_shuffled []
  g_q_shuffled : mg "_law_shuffled" = some (.ref a_q_shuffled)
  a_q_changed : Addr
  d_q_changed : FuncData
  F_q_changed : Fun K "_law_changed" "_law_changed" s_q_changed a_q_changed d_q_changed
  b_q_changed : Binds K d_q_changed p_q_changed []
  g_q_changed : mg "_law_changed" = some (.ref a_q_changed)
  a_q_greatest : Addr
  d_q_greatest : FuncData
  F_q_greatest : Fun K "_law_greatest" "_law_greatest" s_q_greatest a_q_greatest d_q_greatest
  b_q_greatest : Binds K d_q_greatest p_q_greatest []
  g_q_greatest : mg "_law_greatest" = some (.ref a_q_greatest)
  a_q_due : Addr
  d_q_due : FuncData
  F_q_due : Fun K "_law_due" "_law_due" s_q_due a_q_due d_q_due
  b_q_due : Binds K d_q_due p_q_due []
  g_q_due : mg "_law_due" = some (.ref a_q_due)
  a_q_moved : Addr
  d_q_moved : FuncData
  F_q_moved : Fun K "_law_moved" "_law_moved" s_q_moved a_q_moved d_q_moved
  b_q_moved : Binds K d_q_moved p_q_moved []
  g_q_moved : mg "_law_moved" = some (.ref a_q_moved)
  a_law : Addr
  d_law : FuncData
  F_law : Fun K "law" "law" s_law a_law d_law
  b_law : Binds K d_law p_law []
  g_law : mg "law" = some (.ref a_law)
  m_zip : mg "zip" = none
  m_isinstance : mg "isinstance" = none
  m_dict : mg "dict" = none
  m_str : mg "str" = none
  m_list : mg "list" = none
  m_tuple : mg "tuple" = none
  m_max : mg "max" = none
  m_range : mg "range" = none
  m_sum : mg "sum" = none
  m_sorted : mg "sorted" = none
  m_abs : mg "abs" = none
  m_int : mg "int" = none
  m_repr : mg "repr" = none
  m_len : mg "len" = none
  m_bool : mg "bool" = none
end FD

namespace FD
open PySem PySem.Spec PyProof.Rows L2
section
variable {P : Program} {w : World} {K : PySem.W.Frag} {mg : Str → Option Value} {base : Heap} {D : Dk} {ca : Str → Addr}
theorem G_q_next (T : Txt K mg) : FnOk P w K mg base (L2.CX P w) 1 T.a_q_next T.d_q_next p_q_next (spF (Zdk D ca) 2 FF_q_next) := by
  refine T.F_q_next.okX sc_q_next (fun vs H Q E h => h.1) (fun cdv A outer s H vs Q E hr h => ?_)
  · obtain ⟨hvl, O, ds0, ds, o, t', hO1, hO2, dAt, dn, e, q0⟩ := h
    obtain ⟨m, n, rfl, hm, hm2, hc, rfl, rfl⟩ : ∃ m n, ds = [.hnd n, .int m] ∧ 0 < m ∧ m < 2 ^ 64 ∧ ds0.c < 2 ^ 40 ∧ o = .ok (.int (ds0.draw m)) false ∧ t' = ds0.step m := by
      unfold FF_q_next at e
      split at e
      · split at e
        · rename_i hh
          cases e
          exact ⟨_, _, rfl, hh.1, hh.2.1, hh.2.2, rfl, rfl⟩
        · cases e
      · cases e
    have hvs : vs = [.ref D.a, .int m] := by
      cases dn with
      | cons d1 r => cases r with
        | cons d2 r =>
          cases r
          rw [den_hnd d1, den_int d2]
    subst hvs
    obtain ⟨c0, big0, cells⟩ := ds0
    have dAt : D.At H c0 big0 cells := dAt
    have hc : c0 < 2 ^ 40 := hc
    have q : ∀ H' r c' big' , r = DS.draw m ⟨c0, big0, cells⟩ → DS.step m ⟨c0, big0, cells⟩ = ⟨c', big', cells⟩ → Keep D H H' → D.At H' c' big' cells → Q (.int r) H' := fun H' r c' big' h1 h2 kp d => by
      rw [h1]
      refine q0 _ H' ?_ (fun b o e n => kp b o e (fun z => n (.inl z)) fun z => n (.inr (.inl z))) (.int _)
      rw [h2]
      exact d
    refine ⟨_, PSs.nox (pss_cons (ps_while PassesOwn.never (pt_cmpR (op_neD hr.units) (pe_ix ix_list (pv 0) pe_int (fun _ _ => rfl)) (pe_lst pa_nil) (nomark _))
(pss_cons (ps_set (i := 2) sc_q_next.nd rfl (.inl rfl) (pe_ix ix_list (pe_ix ix_list (pv 0) pe_int (fun _ _ => rfl)) pe_int (fun _ _ => rfl)))
(pss_cons (ps_if (pt_cmpR op_gt (pv 2) pe_int (nomark _))
(pss_cons (ps_asg (pe_op op_fdivW (pv 2) (pv 1)) (pg_sub (pe_ix ix_list (pv 0) pe_int (fun _ _ => rfl)) pe_int set_list))
(pss_one (ps_ret (pe_op op_mod (pv 2) (pv 1)))))
pss_nil)
(pss_one (ps_expr (pe_bm PySem.F.plainAttrs_list PySem.F.slot_list_pop PySem.F.type_list_pop mt_popAt (pe_ix ix_list (pv 0) pe_int (fun _ _ => rfl)) (pa_cons pe_int pa_nil)))))))
(pss_cons (ps_asg (pe_op op_add (pe_ix ix_list (pv 0) pe_int (fun _ _ => rfl)) pe_int) (pg_sub (pv 0) pe_int set_list))
(pss_cons (ps_set (i := 3) sc_q_next.nd rfl (.inl rfl) (pe_op op_mod (pe_ix ix_list (pe_ix ix_list (pv 0) pe_int (fun _ _ => rfl)) (pe_op op_mod (pe_ix ix_list (pv 0) pe_int (fun _ _ => rfl)) (pe_callB (call_len_seq) (by rfl) T.m_len PySem.boot_len (pa_cons (pe_ix ix_list (pv 0) pe_int (fun _ _ => rfl)) pa_nil))) (fun _ _ => rfl)) pe_int))
(pss_cons (ps_set (i := 4) sc_q_next.nd rfl (.inl rfl) (pe_op op_add (pe_op op_add (pe_op op_mul (pv 3) (pe_op op_add pe_int (pe_op op_mul pe_int (pe_ix ix_list (pv 0) pe_int (fun _ _ => rfl))))) (pe_op op_mul (pe_op op_mul pe_int (pe_ix ix_list (pv 0) pe_int (fun _ _ => rfl))) (pe_ix ix_list (pv 0) pe_int (fun _ _ => rfl)))) pe_int))
(pss_cons (ps_set (i := 4) sc_q_next.nd rfl (.inl rfl) (pe_op op_mod (pv 4) pe_int))
(pss_one (ps_ret (pe_op op_mod (pe_op op_fdiv (pe_op op_mod (pe_op op_mul (pv 4) (pv 4)) pe_int) pe_int) (pv 1))))))))), ?_⟩
    refine while_by (fun σ H' => ∃ y2 big, σ = [some (.ref D.a), some (.int m), y2, none, none] ∧ D.At H' c0 big cells ∧ Keep D H H' ∧ drawB big m = drawB big0 m)
      (fun σ H' => match H' D.l1 with | some (.lst xs) => xs.length | _ => 0) ⟨_, big0, rfl, dAt, Keep.rfl', rfl⟩ (fun σ H1 hP => ?_) (fun σ H Q Q' f h => ?_)
    · obtain ⟨y2, big, rfl, d, kp, hbig⟩ := hP
      refine ⟨_, rfl, D.a, _, 0, .ref D.l1, rfl, rfl, .inl (.inl d.top), at0, Nat.zero_le _, fun p np => ?_⟩
      have d1 : D.At (upd H1 p (.lst [])) c0 big cells := d.new np
      have kp1 : Keep D H (upd H1 p (.lst [])) := kp.trans (Keep.new np)
      refine ⟨.list (big.map PyData.int), .list [], .lst (.inl (.inl d1.one)) (dp_ints big), .lst (.inl (.inl upd_same)) .nil, shaped_ints big, shaped_ints [], _, rfl, ?_⟩
      rw [eqv_nil]
      cases big with
      | nil =>
        refine iteF ?_
        -- the mixed draw
        refine ⟨_, rfl, D.a, _, 2, .int c0, rfl, rfl, .inl (.inl d1.top), at2, _, _, rfl, rfl, _, rfl, D.a, _, 2, 2, rfl, rfl, d1.top, ix2 (by simp), ?_⟩
        generalize hH2 : upd (upd H1 p (.lst [])) D.a _ = H2
        have d2 : D.At H2 (c0 + 1) [] cells := by
          subst hH2
          exact ⟨by rw [upd_same]; rfl, by rw [upd_ne d.ne1.symm]; exact d1.one, by rw [upd_ne d.ne2.symm]; exact d1.two, d.pos, d.ne1, d.ne2, d.ne3⟩
        have kp2 : Keep D H H2 := by
          subst hH2
          intro b x e n1 n2
          rw [upd_ne n1]
          exact kp1 b x e n1 n2
        have top : SqL K H2 D.a [.ref D.l1, .ref D.l2, .int (c0 + 1 : Nat)] := .inl (.inl d2.top)
        have two : SqL K H2 D.l2 (cells.map V.int) := .inl (.inl d2.two)
        have hl : 0 < (cells.length : Int) := by have := d.pos; omega
        have hj0 : 0 ≤ ((c0 + 1 : Nat) : Int) % (cells.length : Int) := Int.emod_nonneg _ (by omega)
        have hj1 : ((c0 + 1 : Nat) : Int) % (cells.length : Int) < cells.length := Int.emod_lt_of_pos _ hl
        obtain ⟨j, hj⟩ : ∃ j : Nat, ((c0 + 1 : Nat) : Int) % (cells.length : Int) = j := ⟨_, (Int.toNat_of_nonneg hj0).symm⟩
        have hjl : j < cells.length := by omega
        have gj : (cells.map V.int)[j]? = some (.int cells[j]) := by
          rw [List.getElem?_map, List.getElem?_eq_getElem hjl]
          rfl
        refine ⟨_, rfl, D.a, _, 1, .ref D.l2, rfl, rfl, top, at1, _, rfl, D.a, _, 2, .int (c0 + 1 : Nat), rfl, rfl, top, at2, _, rfl, D.a, _, 1, .ref D.l2, rfl, rfl, top, at1, D.l2, _, rfl, .inl two, _, _, rfl, rfl, by rw [List.length_map]; exact hl, ?_⟩
        refine ⟨D.l2, _, _, .int cells[j], rfl, rfl, two, by rw [List.length_map, hj]; exact atI_nat gj, _, _, rfl, rfl, (by show (0 : Int) < 2147483647; decide), ?_⟩
        have hx0 : 0 ≤ cells[j] % 2147483647 := Int.emod_nonneg _ (by decide)
        have hx1 : cells[j] % 2147483647 < 2147483647 := Int.emod_lt_of_pos _ (by decide)
        generalize hx : cells[j] % 2147483647 = x at hx0 hx1
        refine ⟨_, rfl, _, rfl, D.a, _, 2, .int (c0 + 1 : Nat), rfl, rfl, top, at2, _, _, rfl, rfl, .inl ⟨by decide, by decide⟩, _, _, rfl, rfl, _, _, rfl, rfl, .inl ⟨by omega, by omega⟩, ?_⟩
        refine ⟨_, rfl, D.a, _, 2, .int (c0 + 1 : Nat), rfl, rfl, top, at2, _, _, rfl, rfl, .inl ⟨by decide, by decide⟩, _, rfl, D.a, _, 2, .int (c0 + 1 : Nat), rfl, rfl, top, at2, _, _, rfl, rfl, .inl ⟨by omega, by omega⟩, _, _, rfl, rfl, _, _, rfl, rfl, ?_⟩
        refine ⟨_, rfl, _, _, rfl, rfl, (by show (0 : Int) < 2147483629; decide), ?_⟩
        generalize hy : (x * (16807 + 39373 * ((c0 + 1 : Nat) : Int)) + 40692 * ((c0 + 1 : Nat) : Int) * ((c0 + 1 : Nat) : Int) + 97) % (2147483629 : Int) = y
        have hy0 : 0 ≤ y := by rw [← hy]; exact Int.emod_nonneg _ (by decide)
        have hy1 : y < 2147483629 := by rw [← hy]; exact Int.emod_lt_of_pos _ (by decide)
        refine ⟨_, rfl, _, rfl, _, _, rfl, rfl, .inl ⟨by omega, by omega⟩, _, _, rfl, rfl, (by show (0 : Int) < 2147483587; decide), _, _, rfl, rfl, ⟨by decide, by decide⟩, _, rfl, _, _, rfl, rfl, hm, ?_⟩
        have hb : drawB big0 m = none := hbig.symm
        refine q H2 _ (c0 + 1) [] ?_ ?_ kp2 d2
        · unfold DS.draw
          simp only [hb]
          unfold mixed
          rw [hj, Int.toNat_natCast, List.getElem?_eq_getElem hjl, Option.getD_some]
        · unfold DS.step
          simp only [hb]
      | cons b rest =>
        refine iteT ?_
        have top : SqL K (upd H1 p (.lst [])) D.a [.ref D.l1, .ref D.l2, .int c0] := .inl (.inl d1.top)
        have one : SqL K (upd H1 p (.lst [])) D.l1 ((b :: rest).map V.int) := .inl (.inl d1.one)
        refine ⟨_, rfl, D.a, _, 0, .ref D.l1, rfl, rfl, top, at0, D.l1, _, 0, .int b, rfl, rfl, one, at0, ?_⟩
        refine ⟨_, rfl, _, _, rfl, rfl, _, rfl, ite2 (fun e => ?_) (fun e => ?_)⟩
        · refine ⟨_, rfl, _, rfl, _, _, rfl, rfl, wide_div (b := 64) hm (by omega) (by decide) (by decide), ?_⟩
          refine ⟨_, rfl, D.a, _, 0, .ref D.l1, rfl, rfl, top, at0, D.l1, _, 0, 0, rfl, rfl, d1.one, ix0 (by simp), ?_⟩
          refine ⟨_, rfl, _, rfl, _, _, rfl, rfl, hm, ?_⟩
          have hb : drawB big0 m = some (b % m, (b / m) :: rest) := by
            rw [← hbig]
            unfold drawB
            rw [if_pos (of_decide_eq_true e)]
          refine q _ _ c0 ((b / m) :: rest) ?_ ?_ ?_ ?_
          · unfold DS.draw
            simp only [hb]
          · unfold DS.step
            simp only [hb]
          · intro z x e n1 n2
            rw [upd_ne n2]
            exact kp1 z x e n1 n2
          · exact ⟨by rw [upd_ne d.ne1]; exact d1.top, by rw [upd_same]; rfl, by rw [upd_ne d.ne3]; exact d1.two, d.pos, d.ne1, d.ne2, d.ne3⟩
        · refine ⟨_, rfl, D.a, _, 0, .ref D.l1, rfl, rfl, top, at0, .inl ⟨rfl, _, one⟩, D.l1, _, 0, 0, .int b, rfl, rfl, d1.one, by decide, by decide, seq0 (by simp), rfl, ?_⟩
          refine ⟨⟨_, rest, rfl, ⟨by rw [upd_ne d.ne1]; exact d1.top, by rw [upd_same]; rfl, by rw [upd_ne d.ne3]; exact d1.two, d.pos, d.ne1, d.ne2, d.ne3⟩, ?_, ?_⟩, ?_⟩
          · intro z x e n1 n2
            rw [upd_ne n2]
            exact kp1 z x e n1 n2
          · rw [← hbig]
            conv => rhs; unfold drawB
            rw [if_neg (fun z => e (decide_eq_true z))]
          · have e1 := d.one
            simp only [upd_same, e1]
            simp
    · obtain ⟨v, hv, p, xs, i, z, e1, e2, hs, ha, hl, h⟩ := h
      refine ⟨v, hv, p, xs, i, z, e1, e2, hs, ha, hl, fun p2 n2 => ?_⟩
      obtain ⟨d, e, a1, a2, a3, a4, k, e5, q⟩ := h p2 n2
      exact ⟨d, e, a1, a2, a3, a4, k, e5, f _ _ q⟩
end
end FD

namespace FD
open PySem PySem.Spec PyProof.Rows L2
-- is_as_even: slots [(0, 'one'), (1, 'other'), (2, 'ahead'), (3, 'units'), (4, 'others')]
noncomputable def fb_is_as_even {T : Type} : SF T := (seqF (ifF (binF neD (callF sumD (consA (varF 0) nilA)) (callF sumD (consA (varF 1) nilA))) (retF (conF (.bl false))) nxF)
  (seqF (setF 2 (conF (.int 0)))
  (seqF (forF (callI zipD (consA (callF (sortBD true) (consA (varF 0) nilA)) (consA (callF (sortBD true) (consA (varF 1) nilA)) nilA))) (tupG 2 (consG (nameG 3) (consG (nameG 4) nilG))) (seqF (augF 2 addI (binF subD (varF 3) (varF 4)))
  (ifF (binF gtD (varF 2) (conF (.int 0))) (retF (conF (.bl false))) nxF)))
  (retF (conF (.bl true))))))
noncomputable def FF_is_as_even {T : Type} : FF T := runF 5 2 fb_is_as_even
theorem len_is_as_even {T : Type} {ds : List D} {t : T} {o : FOut × T} (h : FF_is_as_even ds t = some o) : ds.length = 2 := runF_len h

-- _law_one: slots [(0, '_law_deck_here'), (1, '_law_some')]
noncomputable def fb_q_one : SF DS := (retF (binF ixD (varF 1) (ucallF FF_q_next (consA (varF 0) (consA (callF lenD (consA (varF 1) nilA)) nilA)))))
noncomputable def FF_q_one : FF DS := runF 2 2 fb_q_one
theorem len_q_one {ds : List D} {t : DS} {o : FOut × DS} (h : FF_q_one ds t = some o) : ds.length = 2 := runF_len h

-- _law_same: slots [(0, '_law_found'), (1, '_law_due_here'), (2, '_law_k')]
noncomputable def fb_q_same (rec : FF DS) : SF DS := (seqF (ifF (callF isiD (consA (varF 1) (consA (tupF (consA (conF (.ty "tuple")) (consA (conF (.ty "list")) nilA))) nilA))) (seqF (ifF (binF neD (callF isiD (consA (varF 0) (consA (conF (.ty "tuple")) nilA))) (callF isiD (consA (varF 1) (consA (conF (.ty "tuple")) nilA)))) (retF (conF (.bl false))) nxF)
  (seqF (ifF (binF neD (callF isiD (consA (varF 0) (consA (conF (.ty "list")) nilA))) (callF isiD (consA (varF 1) (consA (conF (.ty "list")) nilA)))) (retF (conF (.bl false))) nxF)
  (seqF (ifF (binF neD (callF lenD (consA (varF 0) nilA)) (callF lenD (consA (varF 1) nilA))) (retF (conF (.bl false))) nxF)
  (retF (binF eqD (lcF [0, 1] [2] (callI rng1D (consA (callF lenD (consA (varF 1) nilA)) nilA)) (nameG 2) (notF (ucallF rec (consA (binF ixD (varF 0) (varF 2)) (consA (binF ixD (varF 1) (varF 2)) nilA)))) (varF 2)) (lstF nilA)))))) nxF)
  (seqF (ifF (callF isiD (consA (varF 1) (consA (conF (.ty "dict")) nilA))) (retF (andF (callF isiD (consA (varF 0) (consA (conF (.ty "dict")) nilA))) (binF eqD (varF 0) (varF 1)))) nxF)
  (seqF (ifF (binF isD (varF 1) (conF .non)) (retF (binF isD (varF 0) (conF .non))) nxF)
  (seqF (ifF (callF isiD (consA (varF 1) (consA (conF (.ty "str")) nilA))) (retF (andF (callF isiD (consA (varF 0) (consA (conF (.ty "str")) nilA))) (binF eqD (varF 0) (varF 1)))) nxF)
  (retF (andF (callF isiD (consA (varF 0) (consA (conF (.ty "int")) nilA))) (andF (binF eqD (callF isiD (consA (varF 0) (consA (conF (.ty "bool")) nilA))) (callF isiD (consA (varF 1) (consA (conF (.ty "bool")) nilA)))) (binF eqD (varF 0) (varF 1)))))))))
noncomputable def FFr_q_same : Nat → FF DS
  | 0 => fun _ _ => none
  | k + 1 => runF 3 2 (fb_q_same (FFr_q_same k))
theorem lenr_q_same : ∀ {k : Nat} {ds : List D} {t : DS} {o : FOut × DS}, FFr_q_same k ds t = some o → ds.length = 2
  | 0, _, _, _, h => by cases h
  | _ + 1, _, _, _, h => runF_len h
noncomputable def FF_q_same : FF DS := FFr_q_same 12
theorem len_q_same {ds : List D} {t : DS} {o : FOut × DS} (h : FF_q_same ds t = some o) : ds.length = 2 := lenr_q_same h

-- _law_shuffled: slots [(0, '_law_deck_here'), (1, '_law_items'), (2, '_law_left'), (3, '_law_found')]
noncomputable def fb_q_shuffled : SF DS := (seqF (parNF 2 3 (callF listD (consA (varF 1) nilA)))
  (seqF (whileF (binF neD (varF 2) (lstF nilA)) (dropF (mutF 3 appD (consA (mutF 2 popD (consA (ucallF FF_q_next (consA (varF 0) (consA (callF lenD (consA (varF 2) nilA)) nilA))) nilA)) nilA))))
  (retF (varF 3))))
noncomputable def FF_q_shuffled : FF DS := runF 4 2 fb_q_shuffled
theorem len_q_shuffled {ds : List D} {t : DS} {o : FOut × DS} (h : FF_q_shuffled ds t = some o) : ds.length = 2 := runF_len h

-- _law_changed: slots [(0, '_law_plan'), (1, '_law_less'), (2, '_law_more'), (3, '_law_found')]
noncomputable def fb_q_changed : SF DS := (seqF (setF 3 (callF listD (consA (varF 0) nilA)))
  (seqF (ifF (binF isntD (varF 1) (conF .non)) (setIxF 3 (varF 1) (binF subD (binF ixD (varF 3) (varF 1)) (conF (.int 1)))) nxF)
  (seqF (ifF (binF isntD (varF 2) (conF .non)) (setIxF 3 (varF 2) (binF addD (binF ixD (varF 3) (varF 2)) (conF (.int 1)))) nxF)
  (retF (callF tupleD (consA (varF 3) nilA))))))
noncomputable def FF_q_changed : FF DS := runF 4 3 fb_q_changed
theorem len_q_changed {ds : List D} {t : DS} {o : FOut × DS} (h : FF_q_changed ds t = some o) : ds.length = 3 := runF_len h

-- _law_greatest: slots [(0, '_law_plan'), (1, '_law_many'), (2, '_law_rows'), (3, '_law_units'), (4, '_law_count'), (5, '_law_load')]
noncomputable def fb_q_greatest : SF DS := (seqF (setF 2 (lstF (consA (tupF (consA (conF (.int 0)) (consA (conF (.int 0)) nilA))) nilA)))
  (seqF (forF (seqI (varF 0)) (nameG 3) (setF 2 (binF addD (varF 2) (lcF [3] [4, 5] (seqI (varF 2)) (tupG 2 (consG (nameG 4) (consG (nameG 5) nilG))) yesF (tupF (consA (binF addD (varF 4) (conF (.int 1))) (consA (binF addD (varF 5) (varF 3)) nilA)))))))
  (retF (callF maxD (consA (lcF [1] [4, 5] (seqI (varF 2)) (tupG 2 (consG (nameG 4) (consG (nameG 5) nilG))) (binF eqD (varF 4) (varF 1)) (varF 5)) nilA)))))
noncomputable def FF_q_greatest : FF DS := runF 6 2 fb_q_greatest
theorem len_q_greatest {ds : List D} {t : DS} {o : FOut × DS} (h : FF_q_greatest ds t = some o) : ds.length = 2 := runF_len h

-- _law_due: slots [(0, '_law_one_here'), (1, '_law_other'), (2, '_law_k')]
noncomputable def fb_q_due : SF DS := (seqF (ifF (binF neD (callF sumD (consA (varF 0) nilA)) (callF sumD (consA (varF 1) nilA))) (retF (conF (.bl false))) nxF)
  (retF (binF eqD (lcF [0, 1] [2] (callI rng2D (consA (conF (.int 1)) (consA (binF addD (callF lenD (consA (varF 0) nilA)) (conF (.int 1))) nilA))) (nameG 2) (binF gtD (ucallF FF_q_greatest (consA (varF 0) (consA (varF 2) nilA))) (ucallF FF_q_greatest (consA (varF 1) (consA (varF 2) nilA)))) (varF 2)) (lstF nilA))))
noncomputable def FF_q_due : FF DS := runF 3 2 fb_q_due
theorem len_q_due {ds : List D} {t : DS} {o : FOut × DS} (h : FF_q_due ds t = some o) : ds.length = 2 := runF_len h

-- _law_moved: slots [(0, '_law_deck_here'), (1, '_law_plan'), (2, '_law_turn'), (3, '_law_less'), (4, '_law_more')]
noncomputable def fb_q_moved : SF DS := (seqF (forF (callI rng1D (consA (binF addD (conF (.int 1)) (ucallF FF_q_next (consA (varF 0) (consA (conF (.int 4)) nilA)))) nilA)) (nameG 2) (seqF (parF 3 4 (ucallF FF_q_next (consA (varF 0) (consA (callF lenD (consA (varF 1) nilA)) nilA))) (ucallF FF_q_next (consA (varF 0) (consA (callF lenD (consA (varF 1) nilA)) nilA))))
  (ifF (binF gtD (binF ixD (varF 1) (varF 3)) (conF (.int 0))) (setF 1 (ucallF FF_q_changed (consA (varF 1) (consA (varF 3) (consA (varF 4) nilA))))) nxF)))
  (retF (varF 1)))
noncomputable def FF_q_moved : FF DS := runF 5 2 fb_q_moved
theorem len_q_moved {ds : List D} {t : DS} {o : FOut × DS} (h : FF_q_moved ds t = some o) : ds.length = 2 := runF_len h

-- law: slots [(0, '_law_script'), (1, '_law_deck_here'), (2, '_law_turn'), (3, '_law_great'), (4, '_law_one_here'), (5, '_law_near'), (6, '_law_turned'), (7, '_law_total'), (8, '_law_flat'), (9, '_law_some'), (10, '_law_kept'), (11, '_law_first'), (12, '_law_second'), (13, '_law_k')]
noncomputable def fb_law : SF DS := (seqF (forF (callI rng1D (consA (conF (.int 10)) nilA)) (nameG 2) (seqF (setF 3 (ucallF FF_q_one (consA (varF 1) (consA (lstF (consA (conF (.int 2)) (consA (conF (.int 4)) (consA (conF (.int 9)) (consA (binF powD (conF (.int 10)) (conF (.int 11))) nilA))))) nilA))))
  (seqF (setF 4 (callF tupleD (consA (lcF [1, 3] [13] (callI rng1D (consA (binF addD (conF (.int 1)) (ucallF FF_q_next (consA (varF 1) (consA (conF (.int 6)) nilA)))) nilA)) (nameG 13) yesF (ucallF FF_q_next (consA (varF 1) (consA (varF 3) nilA)))) nilA)))
  (seqF (setF 5 (ucallF FF_q_moved (consA (varF 1) (consA (varF 4) nilA))))
  (seqF (asgF (tupG 2 (consG (nameG 6) (consG (nameG 7) nilG))) (tupF (consA (callF tupleD (consA (ucallF FF_q_shuffled (consA (varF 1) (consA (varF 4) nilA))) nilA)) (consA (callF sumD (consA (varF 4) nilA)) nilA))))
  (seqF (setF 8 (callF tupleD (consA (lcF [4, 7] [13] (callI rng1D (consA (callF lenD (consA (varF 4) nilA)) nilA)) (nameG 13) yesF (binF addD (binF fdivD (varF 7) (callF lenD (consA (varF 4) nilA))) (callF intD (consA (binF ltD (varF 13) (binF modD (varF 7) (callF lenD (consA (varF 4) nilA)))) nilA)))) nilA)))
  (seqF (setF 9 (lstF (consA (varF 4) (consA (varF 5) (consA (varF 6) (consA (varF 8) (consA (binF addD (tupF (consA (varF 7) nilA)) (binF mulD (tupF (consA (conF (.int 0)) nilA)) (binF subD (callF lenD (consA (varF 4) nilA)) (conF (.int 1))))) (consA (binF addD (tupF (consA (binF addD (binF ixD (varF 4) (conF (.int 0))) (conF (.int 1))) nilA)) (slF true false (varF 4) (conF (.int 1)) (conF .non))) nilA))))))))
  (seqF (dropF (mutF 9 appD (consA (ucallF FF_q_moved (consA (varF 1) (consA (varF 5) nilA))) nilA)))
  (seqF (setF 10 (callF reprD (consA (varF 9) nilA)))
  (seqF (forF (seqI (varF 9)) (nameG 11) (forF (seqI (varF 9)) (nameG 12) (ifF (notF (ucallF FF_q_same (consA (ucallF FF_is_as_even (consA (varF 11) (consA (varF 12) nilA))) (consA (ucallF FF_q_due (consA (varF 11) (consA (varF 12) nilA))) nilA)))) (retF (conF (.bl false))) nxF)))
  (ifF (orF (notF (ucallF FF_is_as_even (consA (varF 4) (consA (varF 6) nilA)))) (orF (notF (ucallF FF_is_as_even (consA (varF 8) (consA (varF 5) nilA)))) (binF neD (callF reprD (consA (varF 9) nilA)) (varF 10)))) (retF (conF (.bl false))) nxF)))))))))))
  (retF (conF (.bl true))))

end FD

set_option maxHeartbeats 4000000
namespace FD
open PySem PySem.Spec PyProof.Rows L2
section
variable {P : Program} {w : World} {K : PySem.W.Frag} {mg : Str → Option Value} {base : Heap} {Dx : Dk} {ca : Str → Addr} {Z : Wd}
theorem G_is_as_even (T : Txt K mg) : FnOk P w K mg base (L2.CX P w) 1 T.a_is_as_even T.d_is_as_even p_is_as_even (spF Z 2 FF_is_as_even) :=
  fn_body (Z := Z) (b := fb_is_as_even) T.F_is_as_even sc_is_as_even (by decide) (fun _ _ _ h => h) fun cdv A outer s H E C hr tk => 
  (sv_cons (sv_if (et_cmp (opD_ne hr.units) (ev_callB (cD_sum rfl) (by rfl) T.m_sum (by decide +kernel) (ev_acons (ev_var (pv 0)) ev_anil)) (ev_callB (cD_sum rfl) (by rfl) T.m_sum (by decide +kernel) (ev_acons (ev_var (pv 1)) ev_anil)) (nomark _)) (sv_one (sv_ret ev_bl)) sv_nil)
  (sv_cons (sv_set (i := 2) sc_is_as_even.nd rfl (.inl rfl) ev_int)
  (sv_cons (sv_for (S := [3, 4]) (by exact passes_of rfl) rfl (iv_zip (by rfl) T.m_zip (ev_acons (ev_sortRev (by rfl) T.m_sorted (ev_acons (ev_var (pv 0)) ev_anil)) (ev_acons (ev_sortRev (by rfl) T.m_sorted (ev_acons (ev_var (pv 1)) ev_anil)) ev_anil))) (gv_tup rfl (gv_cons (gv_name (i := 3) sc_is_as_even.nd rfl (.inl rfl)) (gv_cons (gv_name (i := 4) sc_is_as_even.nd rfl (.inl rfl)) gv_nil))) (sv_cons (sv_aug (i := 2) sc_is_as_even.nd rfl (.inl rfl) (ev_bin opD_sub (ev_var (pv 3)) (ev_var (pv 4))) ipD_add)
  (sv_one (sv_if (et_cmp opD_gt (ev_var (pv 2)) ev_int (nomark _)) (sv_one (sv_ret ev_bl)) sv_nil))))
  (sv_one (sv_ret ev_bl)))))

theorem G_q_one (T : Txt K mg) : FnOk P w K mg base (L2.CX P w) 2 T.a_q_one T.d_q_one p_q_one (spF (Zdk Dx ca) 2 FF_q_one) :=
  fn_body (Z := (Zdk Dx ca)) (b := fb_q_one) T.F_q_one sc_q_one (by decide) (fun _ _ _ h => h) fun cdv A outer s H E C hr tk => 
  (sv_one (sv_ret (ev_ix ixR (ev_var (pv 1)) (ev_call (G_q_next T) (fun _ _ _ => len_q_next) tk (hr.mono (by omega)) (by rfl) T.g_q_next T.F_q_next.kp T.b_q_next (ev_acons (ev_var (pv 0)) (ev_acons (ev_callB cD_len (by rfl) T.m_len PySem.boot_len (ev_acons (ev_var (pv 1)) ev_anil)) ev_anil))) (fun _ _ => rfl))))

theorem Gr_q_same (T : Txt K mg) : ∀ k : Nat, FnOk P w K mg base (L2.CX P w) (k) T.a_q_same T.d_q_same p_q_same (spF (Zdk Dx ca) 2 (FFr_q_same k))
  | 0 => ⟨fun _ _ _ _ h => h.1, fun _ _ _ _ _ _ _ _ _ _ _ _ _ h => (by obtain ⟨_, _, _, _, _, _, _, _, _, _, e, _⟩ := h; cases e)⟩
  | k + 1 => fn_body (Z := (Zdk Dx ca)) (b := fb_q_same (FFr_q_same k)) T.F_q_same sc_q_same (by decide) (fun _ _ _ h => h) fun cdv A outer s H E C hr tk => have IH := Gr_q_same T k
  (sv_cons (sv_if (et_val (ev_callB cD_isi (by rfl) T.m_isinstance (by decide +kernel) (ev_acons (ev_var (pv 1)) (ev_acons (ev_tup (ev_acons (ev_con (pe_bltn (v := .ty "tuple") (by rfl) T.m_tuple (by decide +kernel) rfl) (fun _ _ => .ty _)) (ev_acons (ev_con (pe_bltn (v := .ty "list") (by rfl) T.m_list (by decide +kernel) rfl) (fun _ _ => .ty _)) ev_anil))) ev_anil)))) (sv_cons (sv_if (et_cmp (opD_ne hr.units) (ev_callB cD_isi (by rfl) T.m_isinstance (by decide +kernel) (ev_acons (ev_var (pv 0)) (ev_acons (ev_con (pe_bltn (v := .ty "tuple") (by rfl) T.m_tuple (by decide +kernel) rfl) (fun _ _ => .ty _)) ev_anil))) (ev_callB cD_isi (by rfl) T.m_isinstance (by decide +kernel) (ev_acons (ev_var (pv 1)) (ev_acons (ev_con (pe_bltn (v := .ty "tuple") (by rfl) T.m_tuple (by decide +kernel) rfl) (fun _ _ => .ty _)) ev_anil))) (nomark _)) (sv_one (sv_ret ev_bl)) sv_nil)
  (sv_cons (sv_if (et_cmp (opD_ne hr.units) (ev_callB cD_isi (by rfl) T.m_isinstance (by decide +kernel) (ev_acons (ev_var (pv 0)) (ev_acons (ev_con (pe_bltn (v := .ty "list") (by rfl) T.m_list (by decide +kernel) rfl) (fun _ _ => .ty _)) ev_anil))) (ev_callB cD_isi (by rfl) T.m_isinstance (by decide +kernel) (ev_acons (ev_var (pv 1)) (ev_acons (ev_con (pe_bltn (v := .ty "list") (by rfl) T.m_list (by decide +kernel) rfl) (fun _ _ => .ty _)) ev_anil))) (nomark _)) (sv_one (sv_ret ev_bl)) sv_nil)
  (sv_cons (sv_if (et_cmp (opD_ne hr.units) (ev_callB cD_len (by rfl) T.m_len PySem.boot_len (ev_acons (ev_var (pv 0)) ev_anil)) (ev_callB cD_len (by rfl) T.m_len PySem.boot_len (ev_acons (ev_var (pv 1)) ev_anil)) (nomark _)) (sv_one (sv_ret ev_bl)) sv_nil)
  (sv_one (sv_ret (ev_cmp (opD_eq hr.units) (ev_lc (own := [("_law_k", 2)]) (S := [2]) (sh := [0, 1]) rfl sc_q_same.nd (iv_range1 (by rfl) T.m_range (ev_acons (ev_callB cD_len (by rfl) T.m_len PySem.boot_len (ev_acons (ev_var (pv 1)) ev_anil)) ev_anil)) (blkOk_by (own := [("_law_k", 2)]) (N := n_q_same) (sc := defScope s_q_same) (by decide +kernel)) (fun C hw s H A cl fp => (gv_name (i := 2) sc_q_same.nd rfl (.inl rfl))) (fun s H A cl fp => ex_one fun C hw => (et_not (et_val (ev_call IH (fun _ _ _ => lenr_q_same) (takes_dead hw) (hr.mono (by omega)) (by rfl) T.g_q_same T.F_q_same.kp T.b_q_same (ev_acons (ev_ix ixR (ev_var (pv 0)) (ev_var (pv 2)) (fun _ _ => rfl)) (ev_acons (ev_ix ixR (ev_var (pv 1)) (ev_var (pv 2)) (fun _ _ => rfl)) ev_anil)))))) (fun C hw s H A cl fp => (ev_var (pv 2)))) (ev_lst ev_anil) (nomark _))))))) sv_nil)
  (sv_cons (sv_if (et_val (ev_callB cD_isi (by rfl) T.m_isinstance (by decide +kernel) (ev_acons (ev_var (pv 1)) (ev_acons (ev_con (pe_bltn (v := .ty "dict") (by rfl) T.m_dict (by decide +kernel) rfl) (fun _ _ => .ty _)) ev_anil)))) (sv_one (sv_ret (ev_and (ev_callB cD_isi (by rfl) T.m_isinstance (by decide +kernel) (ev_acons (ev_var (pv 0)) (ev_acons (ev_con (pe_bltn (v := .ty "dict") (by rfl) T.m_dict (by decide +kernel) rfl) (fun _ _ => .ty _)) ev_anil))) (ev_one (ev_cmp (opD_eq hr.units) (ev_var (pv 0)) (ev_var (pv 1)) (nomark _)))))) sv_nil)
  (sv_cons (sv_if (et_cmp opD_is (ev_var (pv 1)) ev_non (nomark _)) (sv_one (sv_ret (ev_cmp opD_is (ev_var (pv 0)) ev_non (nomark _)))) sv_nil)
  (sv_cons (sv_if (et_val (ev_callB cD_isi (by rfl) T.m_isinstance (by decide +kernel) (ev_acons (ev_var (pv 1)) (ev_acons (ev_con (pe_bltn (v := .ty "str") (by rfl) T.m_str (by decide +kernel) rfl) (fun _ _ => .ty _)) ev_anil)))) (sv_one (sv_ret (ev_and (ev_callB cD_isi (by rfl) T.m_isinstance (by decide +kernel) (ev_acons (ev_var (pv 0)) (ev_acons (ev_con (pe_bltn (v := .ty "str") (by rfl) T.m_str (by decide +kernel) rfl) (fun _ _ => .ty _)) ev_anil))) (ev_one (ev_cmp (opD_eq hr.units) (ev_var (pv 0)) (ev_var (pv 1)) (nomark _)))))) sv_nil)
  (sv_one (sv_ret (ev_and (ev_callB cD_isi (by rfl) T.m_isinstance (by decide +kernel) (ev_acons (ev_var (pv 0)) (ev_acons (ev_con (pe_bltn (v := .ty "int") (by rfl) T.m_int (by decide +kernel) rfl) (fun _ _ => .ty _)) ev_anil))) (ev_and (ev_cmp (opD_eq hr.units) (ev_callB cD_isi (by rfl) T.m_isinstance (by decide +kernel) (ev_acons (ev_var (pv 0)) (ev_acons (ev_con (pe_bltn (v := .ty "bool") (by rfl) T.m_bool (by decide +kernel) rfl) (fun _ _ => .ty _)) ev_anil))) (ev_callB cD_isi (by rfl) T.m_isinstance (by decide +kernel) (ev_acons (ev_var (pv 1)) (ev_acons (ev_con (pe_bltn (v := .ty "bool") (by rfl) T.m_bool (by decide +kernel) rfl) (fun _ _ => .ty _)) ev_anil))) (nomark _)) (ev_one (ev_cmp (opD_eq hr.units) (ev_var (pv 0)) (ev_var (pv 1)) (nomark _)))))))))))
theorem G_q_same (T : Txt K mg) : FnOk P w K mg base (L2.CX P w) 12 T.a_q_same T.d_q_same p_q_same (spF (Zdk Dx ca) 2 FF_q_same) := Gr_q_same T 12

theorem G_q_shuffled (T : Txt K mg) : FnOk P w K mg base (L2.CX P w) 2 T.a_q_shuffled T.d_q_shuffled p_q_shuffled (spF (Zdk Dx ca) 2 FF_q_shuffled) :=
  fn_body (Z := (Zdk Dx ca)) (b := fb_q_shuffled) T.F_q_shuffled sc_q_shuffled (by decide) (fun _ _ _ h => h) fun cdv A outer s H E C hr tk => 
  (sv_cons (sv_parN (i := 2) (j := 3) rfl sc_q_shuffled.nd rfl rfl (by decide) rfl rfl (ev_callTy cD_list (by rfl) T.m_list (by decide +kernel) (ev_acons (ev_var (pv 1)) ev_anil)) (by rfl))
  (sv_cons (sv_while (by exact passes_of rfl) (et_cmp (opD_ne hr.units) (ev_var (pv 2)) (ev_lst ev_anil) (nomark _)) (sv_one (sv_expr (ev_append (pv 3) (ev_acons (ev_pop (pv 2) (ev_acons (ev_call (G_q_next T) (fun _ _ _ => len_q_next) tk (hr.mono (by omega)) (by rfl) T.g_q_next T.F_q_next.kp T.b_q_next (ev_acons (ev_var (pv 0)) (ev_acons (ev_callB cD_len (by rfl) T.m_len PySem.boot_len (ev_acons (ev_var (pv 2)) ev_anil)) ev_anil))) ev_anil)) ev_anil)))))
  (sv_one (sv_ret (ev_var (pv 3))))))

theorem G_q_changed (T : Txt K mg) : FnOk P w K mg base (L2.CX P w) 1 T.a_q_changed T.d_q_changed p_q_changed (spF (Zdk Dx ca) 3 FF_q_changed) :=
  fn_body (Z := (Zdk Dx ca)) (b := fb_q_changed) T.F_q_changed sc_q_changed (by decide) (fun _ _ _ h => h) fun cdv A outer s H E C hr tk => 
  (sv_cons (sv_set (i := 3) sc_q_changed.nd rfl (.inl rfl) (ev_callTy cD_list (by rfl) T.m_list (by decide +kernel) (ev_acons (ev_var (pv 0)) ev_anil)))
  (sv_cons (sv_if (et_cmp opD_isnt (ev_var (pv 1)) ev_non (nomark _)) (sv_one (sv_setIx (ev_bin opD_sub (ev_ix ixR (ev_var (pv 3)) (ev_var (pv 1)) (fun _ _ => rfl)) ev_int) (pv 3) (ev_var (pv 1)))) sv_nil)
  (sv_cons (sv_if (et_cmp opD_isnt (ev_var (pv 2)) ev_non (nomark _)) (sv_one (sv_setIx (ev_bin opD_add (ev_ix ixR (ev_var (pv 3)) (ev_var (pv 2)) (fun _ _ => rfl)) ev_int) (pv 3) (ev_var (pv 2)))) sv_nil)
  (sv_one (sv_ret (ev_callTy cD_tuple (by rfl) T.m_tuple (by decide +kernel) (ev_acons (ev_var (pv 3)) ev_anil)))))))

theorem G_q_greatest (T : Txt K mg) : FnOk P w K mg base (L2.CX P w) 1 T.a_q_greatest T.d_q_greatest p_q_greatest (spF (Zdk Dx ca) 2 FF_q_greatest) :=
  fn_body (Z := (Zdk Dx ca)) (b := fb_q_greatest) T.F_q_greatest sc_q_greatest (by decide) (fun _ _ _ h => h) fun cdv A outer s H E C hr tk => 
  (sv_cons (sv_set (i := 2) sc_q_greatest.nd rfl (.inl rfl) (ev_lst (ev_acons (ev_tup (ev_acons ev_int (ev_acons ev_int ev_anil))) ev_anil)))
  (sv_cons (sv_for (S := [3]) (by exact passes_of rfl) rfl (iv_seq (ev_var (pv 0))) (gv_name (i := 3) sc_q_greatest.nd rfl (.inr rfl)) (sv_one (sv_set (i := 2) sc_q_greatest.nd rfl (.inl rfl) (ev_bin opD_add (ev_var (pv 2)) (ev_lc (own := [("_law_count", 4), ("_law_load", 5)]) (S := [4, 5]) (sh := [3]) rfl sc_q_greatest.nd (iv_seq (ev_var (pv 2))) (blkOk_by (own := [("_law_count", 4), ("_law_load", 5)]) (N := n_q_greatest) (sc := defScope s_q_greatest) (by decide +kernel)) (fun C hw s H A cl fp => (gv_tup rfl (gv_cons (gv_name (i := 4) sc_q_greatest.nd rfl (.inl rfl)) (gv_cons (gv_name (i := 5) sc_q_greatest.nd rfl (.inl rfl)) gv_nil)))) (fun _ _ _ _ _ => ex_yes) (fun C hw s H A cl fp => (ev_tup (ev_acons (ev_bin opD_add (ev_var (pv 4)) ev_int) (ev_acons (ev_bin opD_add (ev_var (pv 5)) (ev_var (pv 3))) ev_anil)))))))))
  (sv_one (sv_ret (ev_callB (cD_max rfl) (by rfl) T.m_max (by decide +kernel) (ev_acons (ev_lc (own := [("_law_count", 4), ("_law_load", 5)]) (S := [4, 5]) (sh := [1]) rfl sc_q_greatest.nd (iv_seq (ev_var (pv 2))) (blkOk_by (own := [("_law_count", 4), ("_law_load", 5)]) (N := n_q_greatest) (sc := defScope s_q_greatest) (by decide +kernel)) (fun C hw s H A cl fp => (gv_tup rfl (gv_cons (gv_name (i := 4) sc_q_greatest.nd rfl (.inl rfl)) (gv_cons (gv_name (i := 5) sc_q_greatest.nd rfl (.inl rfl)) gv_nil)))) (fun s H A cl fp => ex_one fun C hw => (et_cmp (opD_eq hr.units) (ev_var (pv 4)) (ev_var (pv 1)) (nomark _))) (fun C hw s H A cl fp => (ev_var (pv 5)))) ev_anil))))))

theorem G_q_due (T : Txt K mg) : FnOk P w K mg base (L2.CX P w) 2 T.a_q_due T.d_q_due p_q_due (spF (Zdk Dx ca) 2 FF_q_due) :=
  fn_body (Z := (Zdk Dx ca)) (b := fb_q_due) T.F_q_due sc_q_due (by decide) (fun _ _ _ h => h) fun cdv A outer s H E C hr tk => 
  (sv_cons (sv_if (et_cmp (opD_ne hr.units) (ev_callB (cD_sum rfl) (by rfl) T.m_sum (by decide +kernel) (ev_acons (ev_var (pv 0)) ev_anil)) (ev_callB (cD_sum rfl) (by rfl) T.m_sum (by decide +kernel) (ev_acons (ev_var (pv 1)) ev_anil)) (nomark _)) (sv_one (sv_ret ev_bl)) sv_nil)
  (sv_one (sv_ret (ev_cmp (opD_eq hr.units) (ev_lc (own := [("_law_k", 2)]) (S := [2]) (sh := [0, 1]) rfl sc_q_due.nd (iv_range2 (by rfl) T.m_range (ev_acons ev_int (ev_acons (ev_bin opD_add (ev_callB cD_len (by rfl) T.m_len PySem.boot_len (ev_acons (ev_var (pv 0)) ev_anil)) ev_int) ev_anil))) (blkOk_by (own := [("_law_k", 2)]) (N := n_q_due) (sc := defScope s_q_due) (by decide +kernel)) (fun C hw s H A cl fp => (gv_name (i := 2) sc_q_due.nd rfl (.inl rfl))) (fun s H A cl fp => ex_one fun C hw => (et_cmp opD_gt (ev_call (G_q_greatest T) (fun _ _ _ => len_q_greatest) (takes_dead hw) (hr.mono (by omega)) (by rfl) T.g_q_greatest T.F_q_greatest.kp T.b_q_greatest (ev_acons (ev_var (pv 0)) (ev_acons (ev_var (pv 2)) ev_anil))) (ev_call (G_q_greatest T) (fun _ _ _ => len_q_greatest) (takes_dead hw) (hr.mono (by omega)) (by rfl) T.g_q_greatest T.F_q_greatest.kp T.b_q_greatest (ev_acons (ev_var (pv 1)) (ev_acons (ev_var (pv 2)) ev_anil))) (nomark _))) (fun C hw s H A cl fp => (ev_var (pv 2)))) (ev_lst ev_anil) (nomark _)))))

theorem G_q_moved (T : Txt K mg) : FnOk P w K mg base (L2.CX P w) 2 T.a_q_moved T.d_q_moved p_q_moved (spF (Zdk Dx ca) 2 FF_q_moved) :=
  fn_body (Z := (Zdk Dx ca)) (b := fb_q_moved) T.F_q_moved sc_q_moved (by decide) (fun _ _ _ h => h) fun cdv A outer s H E C hr tk => 
  (sv_cons (sv_for (S := [2]) (by exact passes_of rfl) rfl (iv_range1 (by rfl) T.m_range (ev_acons (ev_bin opD_add ev_int (ev_call (G_q_next T) (fun _ _ _ => len_q_next) tk (hr.mono (by omega)) (by rfl) T.g_q_next T.F_q_next.kp T.b_q_next (ev_acons (ev_var (pv 0)) (ev_acons ev_int ev_anil)))) ev_anil)) (gv_name (i := 2) sc_q_moved.nd rfl (.inl rfl)) (sv_cons (sv_par (i := 3) (j := 4) rfl sc_q_moved.nd rfl rfl (by decide) rfl rfl (ev_call (G_q_next T) (fun _ _ _ => len_q_next) tk (hr.mono (by omega)) (by rfl) T.g_q_next T.F_q_next.kp T.b_q_next (ev_acons (ev_var (pv 0)) (ev_acons (ev_callB cD_len (by rfl) T.m_len PySem.boot_len (ev_acons (ev_var (pv 1)) ev_anil)) ev_anil))) (ev_call (G_q_next T) (fun _ _ _ => len_q_next) tk (hr.mono (by omega)) (by rfl) T.g_q_next T.F_q_next.kp T.b_q_next (ev_acons (ev_var (pv 0)) (ev_acons (ev_callB cD_len (by rfl) T.m_len PySem.boot_len (ev_acons (ev_var (pv 1)) ev_anil)) ev_anil))) (by rfl))
  (sv_one (sv_if (et_cmp opD_gt (ev_ix ixR (ev_var (pv 1)) (ev_var (pv 3)) (fun _ _ => rfl)) ev_int (nomark _)) (sv_one (sv_set (i := 1) sc_q_moved.nd rfl (.inl rfl) (ev_call (G_q_changed T) (fun _ _ _ => len_q_changed) tk (hr.mono (by omega)) (by rfl) T.g_q_changed T.F_q_changed.kp T.b_q_changed (ev_acons (ev_var (pv 1)) (ev_acons (ev_var (pv 3)) (ev_acons (ev_var (pv 4)) ev_anil)))))) sv_nil))))
  (sv_one (sv_ret (ev_var (pv 1)))))

end
end FD

set_option maxHeartbeats 4000000
namespace FD
open PySem PySem.Spec PyProof.Rows L2
section
variable {P : Program} {w : World} {K : PySem.W.Frag} {mg : Str → Option Value} {base : Heap}
theorem ok_q_deck (T : Txt K mg) : FnOk P w K mg base CX0 1 T.a_q_deck T.d_q_deck p_q_deck (sp_q_deck K) := by
  refine T.F_q_deck.ok sc_q_deck (fun vs H Q E h => ?_) (fun cdv A outer s H vs Q E hr h => ?_)
  · obtain ⟨a, ns, rfl, _⟩ := h
    rfl
  · obtain ⟨a, ns, rfl, hS, hl, q⟩ := h
    refine ⟨_, (pss_cons (ps_setLc (i := 1) (own := [("_law_cell", 2)]) (g := (gName 2)) (tt := tYes) rfl sc_q_deck.nd rfl rfl (sw_true rfl rfl rfl (by decide +kernel)) (pi_list (pv 0)) (blkOk_by (own := [("_law_cell", 2)]) (N := n_q_deck) (sc := defScope s_q_deck) (by decide +kernel)) (fun _ _ _ _ _ => (pg_name (i := 2) sc_q_deck.nd rfl (.inl rfl))) (fun _ _ _ _ _ => pts_nil) (fun _ _ _ _ _ => (pe_callB call_abs (by rfl) T.m_abs (by decide +kernel) (pa_cons (pv 2) pa_nil))))
(pss_one (ps_ret (pe_lst (pa_cons (pe_lc (own := [("_law_cell", 2)]) (g := (gName 2)) (tt := _) rfl sc_q_deck.nd (pi_list (pv 1)) (blkOk_by (own := [("_law_cell", 2)]) (N := n_q_deck) (sc := defScope s_q_deck) (by decide +kernel)) (fun _ _ _ _ _ => (pg_name (i := 2) sc_q_deck.nd rfl (.inl rfl))) (fun _ _ _ _ _ => pts_one (pt_cmpR op_ge (pv 2) (pe_op op_pow pe_int pe_int) (nomark _))) (fun _ _ _ _ _ => (pv 2))) (pa_cons (pe_op op_cat (pv 1) (pe_lst (pa_cons (pe_op op_add (pe_callB (call_len_seq) (by rfl) T.m_len PySem.boot_len (pa_cons (pv 1) pa_nil)) pe_int) pa_nil))) (pa_cons pe_int pa_nil))))))), ?_⟩
    refine ⟨.ref a, rfl, a, rfl, ⟨_, hS⟩, fun C nC => lc_list (K := K) (a := a) (xs := ns.map V.int) (fun i H' => Same H H' ∧ H' C = some (.lst (((ns.take i).map absI).map V.int)))
      ⟨same_new nC, upd_same⟩ (fun i H' _ h => h.1.seq hS) (fun i x H' hx hp => ?_) (fun H1 hp => ?_)⟩
    · obtain ⟨sm, eC⟩ := hp
      rw [List.getElem?_map] at hx
      cases e : ns[i]? with
      | none => rw [e] at hx; cases hx
      | some n =>
        rw [e] at hx
        cases hx
        refine ⟨rfl, ⟨_, rfl, n, rfl, _, eC, ?_, same_set sm nC, ?_⟩⟩
        · rw [List.length_map, List.length_map, List.length_take]
          exact small1000 (by omega)
        · rw [upd_same, List.take_add_one, e, List.map_append, List.map_append]
          rfl
    · obtain ⟨sm, eC⟩ := hp
      rw [List.length_map] at eC
      rw [List.take_length] at eC
      have hC : SqL K H1 C ((ns.map absI).map V.int) := .inl (.inl eC)
      refine ⟨_, rfl, C, rfl, ⟨_, hC⟩, fun B nB => lc_list (K := K) (a := C) (xs := (ns.map absI).map V.int) (fun i H' => Same H1 H' ∧ H' B = some (.lst ((bigs ((ns.map absI).take i)).map V.int)))
        ⟨same_new nB, upd_same⟩ (fun i H' _ h => h.1.seq hC) (fun i x H' hx hp => ?_) (fun H2 hp => ?_)⟩
      · obtain ⟨sm1, eB⟩ := hp
        rw [List.getElem?_map] at hx
        cases e : (ns.map absI)[i]? with
        | none => rw [e] at hx; cases hx
        | some n =>
          rw [e] at hx
          cases hx
          refine ⟨rfl, _, rfl, _, _, rfl, rfl, ⟨by decide, by decide, by decide⟩, _, _, rfl, rfl, _, rfl, ite2 (fun c => ?_) (fun c => ?_)⟩
          · have c' : (1000000000000000000 : Int) ≤ n := of_decide_eq_true c
            refine ⟨_, rfl, _, eB, ?_, same_set sm1 nB, ?_⟩
            · rw [List.length_map]
              have := List.length_filter_le (fun n => decide ((1000000000000000000 : Int) ≤ n)) ((ns.map absI).take i)
              rw [List.length_take, List.length_map] at this
              exact small1000 (by unfold bigs; omega)
            · rw [upd_same, bigs_take e, if_pos c', List.map_append]
              rfl
          · have c' : ¬ (1000000000000000000 : Int) ≤ n := fun z => c (decide_eq_true z)
            refine ⟨sm1, ?_⟩
            rw [bigs_take e, if_neg c', List.append_nil]
            exact eB
      · obtain ⟨sm1, eB⟩ := hp
        have nCB : C ≠ B := ne_of_none eC nB
        refine ⟨_, rfl, _, rfl, C, _, rfl, .inl (sm1.seq hC), _, _, rfl, rfl, le_line (by simp), fun p np => ?_⟩
        refine ⟨C, p, _, _, rfl, rfl, by rw [upd_ne (ne_of_none (sm1 _ _ eC) np)]; exact sm1 _ _ eC, upd_same, ?_, fun r nr => ⟨le_line (by simp), fun D nD => ?_⟩⟩
        · rw [List.length_map, List.length_map]
          exact Nat.le_of_lt (small1000 (by show ns.length + 1 ≤ 1000; omega))
        · have sA : Same H (upd (upd (upd H2 p (.lst [V.int (((ns.map absI).map V.int).length + 3)])) r (.lst ((ns.map absI).map V.int ++ [V.int (((ns.map absI).map V.int).length + 3)]))) D (.lst [.ref B, .ref r, .int 0])) :=
            ((sm.trans sm1).trans (same_new np)).trans ((same_new nr).trans (same_new nD))
          have eBp : (upd H2 p (.lst [V.int (((ns.map absI).map V.int).length + 3)])) B = some (.lst ((bigs (((ns.map absI)).take ((ns.map absI).map V.int).length)).map V.int)) := upd_keep np eB
          have hDB : D ≠ B := (ne_of_none (upd_keep nr eBp) nD).symm
          have hrB : r ≠ B := (ne_of_none eBp nr).symm
          have hDr : D ≠ r := fun z => by
            rw [z, upd_same] at nD
            cases nD
          have nr0 : H r = none := Same.free ((sm.trans sm1).trans (same_new np)) nr
          have nD0 : H D = none := Same.free (((sm.trans sm1).trans (same_new np)).trans (same_new nr)) nD
          have nB0 : H B = none := Same.free sm nB
          refine q _ ⟨D, B, r⟩ (bigs ((ns.map absI).take ((ns.map absI).map V.int).length)) (ns.map absI ++ [((((ns.map absI).map V.int).length : Nat) : Int) + 3]) sA nD0 nB0 nr0 ⟨?_, ?_, ?_, ?_, hDB, hDr, hrB⟩
          · rw [upd_same]
            rfl
          · rw [upd_ne hDB.symm]
            exact upd_keep nr eBp
          · rw [upd_ne hDr.symm, upd_same, List.map_append]
            rfl
          · rw [List.length_append]
            show 0 < _ + 1
            omega


theorem ok_law (T : Txt K mg) (ca : Str → Addr) (pure_ : ∀ t : DS, t.c = 0 → ∃ s', fb_law (lawS 14, t) = some (.rt (.d (.bl true)), s')) : FnG P w K mg base (L2.CX P w) 13 T.a_law T.d_law p_law (sp_law K) := by
  refine fun_okG T.F_law sc_law (fun vs H Q E h => ?_) fun cdv B outer s H vs Q E hB hr h => ?_
  · obtain ⟨a, ns, rfl, _⟩ := h
    rfl
  obtain ⟨a, ns, rfl, hS, hl, q⟩ := h
  have hG : (cxOf (L2.CX P w) P w K mg base n_law "law" (defScope s_law) T.a_law cdv B outer s H E).A.guards = some [] := hB
  refine ⟨_, pss_cons (ps_set (i := 1) sc_law.nd rfl (.inr rfl) (pe_call (ok_q_deck T) (hr.mono (by omega)) (by rfl) T.g_q_deck T.F_q_deck.kp T.b_q_deck .nil pass0 (pa_cons (pv 0) pa_nil))) (ex_S (f := fb_law) (ca0 := ca) fun Dx C hw => ?rest), ?_⟩
  case rest =>
    have tk := fun {X : Cx} => takes_dead (X := X) hw
    exact (sv_cons (sv_for (S := [2]) (by exact passes_of rfl) rfl (iv_range1 (by rfl) T.m_range (ev_acons ev_int ev_anil)) (gv_name (i := 2) sc_law.nd rfl (.inl rfl)) (sv_cons (sv_set (i := 3) sc_law.nd rfl (.inr rfl) (ev_call (G_q_one T) (fun _ _ _ => len_q_one) tk (hr.mono (by omega)) (by rfl) T.g_q_one T.F_q_one.kp T.b_q_one (ev_acons (ev_var (pv 1)) (ev_acons (ev_lst (ev_acons ev_int (ev_acons ev_int (ev_acons ev_int (ev_acons (ev_bin opD_pow ev_int ev_int) ev_anil))))) ev_anil))))
  (sv_cons (sv_set (i := 4) sc_law.nd rfl (.inr rfl) (ev_callTy cD_tuple (by rfl) T.m_tuple (by decide +kernel) (ev_acons (ev_lc (own := [("_law_k", 13)]) (S := [13]) (sh := [1, 3]) rfl sc_law.nd (iv_range1 (by rfl) T.m_range (ev_acons (ev_bin opD_add ev_int (ev_call (G_q_next T) (fun _ _ _ => len_q_next) tk (hr.mono (by omega)) (by rfl) T.g_q_next T.F_q_next.kp T.b_q_next (ev_acons (ev_var (pv 1)) (ev_acons ev_int ev_anil)))) ev_anil)) (blkOk_by (own := [("_law_k", 13)]) (N := n_law) (sc := defScope s_law) (by decide +kernel)) (fun C hw s H A cl fp => (gv_name (i := 13) sc_law.nd rfl (.inl rfl))) (fun _ _ _ _ _ => ex_yes) (fun C hw s H A cl fp => (ev_call (G_q_next T) (fun _ _ _ => len_q_next) (takes_dead hw) (hr.mono (by omega)) (by rfl) T.g_q_next T.F_q_next.kp T.b_q_next (ev_acons (ev_var (pv 1)) (ev_acons (ev_var (pv 3)) ev_anil))))) ev_anil)))
  (sv_cons (sv_set (i := 5) sc_law.nd rfl (.inl rfl) (ev_call (G_q_moved T) (fun _ _ _ => len_q_moved) tk (hr.mono (by omega)) (by rfl) T.g_q_moved T.F_q_moved.kp T.b_q_moved (ev_acons (ev_var (pv 1)) (ev_acons (ev_var (pv 4)) ev_anil))))
  (sv_cons (sv_asg (S := [6, 7]) (ev_tup (ev_acons (ev_callTy cD_tuple (by rfl) T.m_tuple (by decide +kernel) (ev_acons (ev_call (G_q_shuffled T) (fun _ _ _ => len_q_shuffled) tk (hr.mono (by omega)) (by rfl) T.g_q_shuffled T.F_q_shuffled.kp T.b_q_shuffled (ev_acons (ev_var (pv 1)) (ev_acons (ev_var (pv 4)) ev_anil))) ev_anil)) (ev_acons (ev_callB (cD_sum rfl) (by rfl) T.m_sum (by decide +kernel) (ev_acons (ev_var (pv 4)) ev_anil)) ev_anil))) (gv_tup rfl (gv_cons (gv_name (i := 6) sc_law.nd rfl (.inl rfl)) (gv_cons (gv_name (i := 7) sc_law.nd rfl (.inr rfl)) gv_nil))))
  (sv_cons (sv_set (i := 8) sc_law.nd rfl (.inl rfl) (ev_callTy cD_tuple (by rfl) T.m_tuple (by decide +kernel) (ev_acons (ev_lc (own := [("_law_k", 13)]) (S := [13]) (sh := [4, 7]) rfl sc_law.nd (iv_range1 (by rfl) T.m_range (ev_acons (ev_callB cD_len (by rfl) T.m_len PySem.boot_len (ev_acons (ev_var (pv 4)) ev_anil)) ev_anil)) (blkOk_by (own := [("_law_k", 13)]) (N := n_law) (sc := defScope s_law) (by decide +kernel)) (fun C hw s H A cl fp => (gv_name (i := 13) sc_law.nd rfl (.inl rfl))) (fun _ _ _ _ _ => ex_yes) (fun C hw s H A cl fp => (ev_bin opD_add (ev_bin opD_fdiv (ev_var (pv 7)) (ev_callB cD_len (by rfl) T.m_len PySem.boot_len (ev_acons (ev_var (pv 4)) ev_anil))) (ev_callTy cD_int (by rfl) T.m_int (by decide +kernel) (ev_acons (ev_cmp opD_lt (ev_var (pv 13)) (ev_bin opD_mod (ev_var (pv 7)) (ev_callB cD_len (by rfl) T.m_len PySem.boot_len (ev_acons (ev_var (pv 4)) ev_anil))) (nomark _)) ev_anil))))) ev_anil)))
  (sv_cons (sv_set (i := 9) sc_law.nd rfl (.inl rfl) (ev_lst (ev_acons (ev_var (pv 4)) (ev_acons (ev_var (pv 5)) (ev_acons (ev_var (pv 6)) (ev_acons (ev_var (pv 8)) (ev_acons (ev_bin opD_add (ev_tup (ev_acons (ev_var (pv 7)) ev_anil)) (ev_bin opD_mul (ev_tup (ev_acons ev_int ev_anil)) (ev_bin opD_sub (ev_callB cD_len (by rfl) T.m_len PySem.boot_len (ev_acons (ev_var (pv 4)) ev_anil)) ev_int))) (ev_acons (ev_bin opD_add (ev_tup (ev_acons (ev_bin opD_add (ev_ix ixR (ev_var (pv 4)) ev_int (fun _ _ => rfl)) ev_int) ev_anil)) (ev_slice (ev_var (pv 4)) (pd_some ev_int) pd_no)) ev_anil))))))))
  (sv_cons (sv_expr (ev_append (pv 9) (ev_acons (ev_call (G_q_moved T) (fun _ _ _ => len_q_moved) tk (hr.mono (by omega)) (by rfl) T.g_q_moved T.F_q_moved.kp T.b_q_moved (ev_acons (ev_var (pv 1)) (ev_acons (ev_var (pv 5)) ev_anil))) ev_anil)))
  (sv_cons (sv_set (i := 10) sc_law.nd rfl (.inl rfl) (ev_callB (cD_repr hG hr.units) (by rfl) T.m_repr (by decide +kernel) (ev_acons (ev_var (pv 9)) ev_anil)))
  (sv_cons (sv_for (S := [11]) (by exact passes_of rfl) rfl (iv_seq (ev_var (pv 9))) (gv_name (i := 11) sc_law.nd rfl (.inl rfl)) (sv_one (sv_for (S := [12]) (by exact passes_of rfl) rfl (iv_seq (ev_var (pv 9))) (gv_name (i := 12) sc_law.nd rfl (.inl rfl)) (sv_one (sv_if (et_not (et_val (ev_call (G_q_same T) (fun _ _ _ => len_q_same) tk (hr.mono (by omega)) (by rfl) T.g_q_same T.F_q_same.kp T.b_q_same (ev_acons (ev_call (G_is_as_even T) (fun _ _ _ => len_is_as_even) tk (hr.mono (by omega)) (by rfl) T.g_is_as_even T.F_is_as_even.kp T.b_is_as_even (ev_acons (ev_var (pv 11)) (ev_acons (ev_var (pv 12)) ev_anil))) (ev_acons (ev_call (G_q_due T) (fun _ _ _ => len_q_due) tk (hr.mono (by omega)) (by rfl) T.g_q_due T.F_q_due.kp T.b_q_due (ev_acons (ev_var (pv 11)) (ev_acons (ev_var (pv 12)) ev_anil))) ev_anil))))) (sv_one (sv_ret ev_bl)) sv_nil)))))
  (sv_one (sv_if (PW.pt (ew_or (et_not (et_val (ev_call (G_is_as_even T) (fun _ _ _ => len_is_as_even) tk (hr.mono (by omega)) (by rfl) T.g_is_as_even T.F_is_as_even.kp T.b_is_as_even (ev_acons (ev_var (pv 4)) (ev_acons (ev_var (pv 6)) ev_anil))))) (ew_or (et_not (et_val (ev_call (G_is_as_even T) (fun _ _ _ => len_is_as_even) tk (hr.mono (by omega)) (by rfl) T.g_is_as_even T.F_is_as_even.kp T.b_is_as_even (ev_acons (ev_var (pv 8)) (ev_acons (ev_var (pv 5)) ev_anil))))) (ew_or1 (et_cmp (opD_ne hr.units) (ev_callB (cD_repr hG hr.units) (by rfl) T.m_repr (by decide +kernel) (ev_acons (ev_var (pv 9)) ev_anil)) (ev_var (pv 10)) (nomark _)))))) (sv_one (sv_ret ev_bl)) sv_nil))))))))))))
  (sv_one (sv_ret ev_bl)))
  refine ⟨_, rfl, a, ns, rfl, hS, hl, fun H' D big cells sm n1 n2 n3 at_ => ⟨D, ⟨(Zdk D ca).hid, H', dead⟩, rfl, law_rest (n := 14) rfl (by decide) rfl rfl at_ q pure_⟩⟩

end
end FD

namespace FD
open PySem PySem.Spec PyProof.Rows L2
theorem one_eq {ds : List D} {t : DS} {n : Nat} {d : D} (h1 : 0 < ds.length) (h2 : (ds.length : Int) < 2 ^ 64) (h3 : t.c < 2 ^ 40) (e : atI ds (t.draw ds.length) = some d) : FF_q_one [.hnd n, .lst ds] t = some (.ok d false, t.step ds.length) := by
  unfold FF_q_one fb_q_one
  simp only [fdA, List.map_cons, List.map_nil, List.length_cons, List.length_nil, List.cons_append, List.nil_append, List.replicate_succ, List.replicate_zero, Nat.zero_add, Nat.reduceAdd, Nat.reduceSub, Nat.sub_self, if_true, if_false, Bool.false_eq_true, Bool.not_true, Bool.not_false, reduceCtorEq, ite_true, ite_false, List.getElem?_cons_zero, List.getElem?_cons_succ, List.set_cons_zero, List.set_cons_succ, LEN, Nat.reduceLeDiff, Option.map_some, fvA, List.length_map, List.length_set, decide_true, decide_false, next_eq (n := n) (t := t) (m := ds.length) (by omega) h2 h3, v_ix_l e]
theorem same_bl (a b : Bool) (k : Nat) (t : DS) : FFr_q_same (k + 1) [.bl a, .bl b] t = some (.ok (.bl (decide (a = b))) false, t) := by
  unfold FFr_q_same fb_q_same
  simp only [fdA, List.map_cons, List.map_nil, List.length_cons, List.length_nil, List.cons_append, List.nil_append, List.replicate_succ, List.replicate_zero, Nat.zero_add, Nat.reduceAdd, Nat.reduceSub, Nat.sub_self, if_true, if_false, Bool.false_eq_true, Bool.not_true, Bool.not_false, reduceCtorEq, ite_true, ite_false, List.getElem?_cons_zero, List.getElem?_cons_succ, List.set_cons_zero, List.set_cons_succ, LEN, Nat.reduceLeDiff, Option.map_some, fvA, List.length_map, List.length_set, decide_true, decide_false]
theorem changed_eq {ns : List Int} {i j : Int} {t : DS} (h0 : 0 ≤ i) (h1 : i < ns.length) (h2 : 0 ≤ j) (h3 : j < ns.length) :
    FF_q_changed [tpI ns, .int i, .int j] t = some (.ok (tpI ((ns.set i.toNat (ns[i.toNat]?.getD 0 - 1)).set j.toNat ((ns.set i.toNat (ns[i.toNat]?.getD 0 - 1))[j.toNat]?.getD 0 + 1))) false, t) := by
  unfold FF_q_changed fb_q_changed
  simp only [fdA, List.map_cons, List.map_nil, List.length_cons, List.length_nil, List.cons_append, List.nil_append, List.replicate_succ, List.replicate_zero, Nat.zero_add, Nat.reduceAdd, Nat.reduceSub, Nat.sub_self, if_true, if_false, Bool.false_eq_true, Bool.not_true, Bool.not_false, reduceCtorEq, ite_true, ite_false, List.getElem?_cons_zero, List.getElem?_cons_succ, List.set_cons_zero, List.set_cons_succ, LEN, Nat.reduceLeDiff, Option.map_some, fvA, List.length_map, List.length_set, decide_true, decide_false, v_ix_l (atI_map h0 h1), ixN_of h0 h1, v_ix_l (atI_map (a := ns.set i.toNat (ns[i.toNat]?.getD 0 - 1)) h2 (by simpa using h3)), ixN_of h2 h3]
theorem sum_set : ∀ (l : List Int) (i : Nat) (x : Int), i < l.length → (l.set i x).sum = l.sum - l[i]?.getD 0 + x
  | [], _, _, h => by simp at h
  | a :: r, 0, x, _ => by
    simp
    omega
  | a :: r, i + 1, x, h => by
    have := sum_set r i x (by simpa using h)
    simp [this]
    omega
theorem get_mem {l : List Int} {i : Nat} (h : i < l.length) : l[i]?.getD 0 ∈ l := by
  simp [h]
/-- one unit from one to another -/
theorem shift_ok {ys : List Int} {i j : Nat} (h1 : i < ys.length) (h2 : j < ys.length) (pos : ∀ y ∈ ys, 0 ≤ y) (p : 0 < ys[i]?.getD 0) :
    ∀ ws, ws = (ys.set i (ys[i]?.getD 0 - 1)).set j ((ys.set i (ys[i]?.getD 0 - 1))[j]?.getD 0 + 1) → ws.length = ys.length ∧ ws.sum = ys.sum ∧ ∀ y ∈ ws, 0 ≤ y := by
  intro ws e
  have p1 : ∀ y ∈ ys.set i (ys[i]?.getD 0 - 1), 0 ≤ y := by
    intro y m
    rcases List.mem_or_eq_of_mem_set m with m | m
    · exact pos y m
    · omega
  subst e
  refine ⟨by simp, ?_, ?_⟩
  · rw [sum_set _ _ _ (by simpa using h2), sum_set _ _ _ h1]
    omega
  · intro y m
    rcases List.mem_or_eq_of_mem_set m with m | m
    · exact p1 y m
    · have := p1 _ (get_mem (l := ys.set i (ys[i]?.getD 0 - 1)) (i := j) (by simpa using h2))
      omega
theorem moved_ok {ns : List Int} {t : DS} {k : Nat} (h1 : 0 < ns.length) (h2 : ns.length ≤ 1000) (hc : t.c < 2 ^ 39) (pos : ∀ y ∈ ns, 0 ≤ y) :
    ∃ ys t', FF_q_moved [.hnd k, tpI ns] t = some (.ok (tpI ys) false, t') ∧ ys.length = ns.length ∧ ys.sum = ns.sum ∧ (∀ y ∈ ys, 0 ≤ y) ∧ t'.c ≤ t.c + 9 := by
  have d4 := t.draw_in (m := 4) (by decide)
  have s4 : (t.step 4).c ≤ t.c + 1 := DS.step_c
  have hj : small (1 + t.draw 4) = true := small_of (by omega)
  obtain ⟨⟨τ', t'⟩, e, ys, a, b, c, rfl, l, sm, ps, hc'⟩ := forL_inv (T := DS) (g := nameG 2) (b := seqF (parF 3 4 (ucallF FF_q_next (consA (varF 0) (consA (callF lenD (consA (varF 1) nilA)) nilA))) (ucallF FF_q_next (consA (varF 0) (consA (callF lenD (consA (varF 1) nilA)) nilA))))
  (ifF (binF gtD (binF ixD (varF 1) (varF 3)) (conF (.int 0))) (setF 1 (ucallF FF_q_changed (consA (varF 1) (consA (varF 3) (consA (varF 4) nilA))))) nxF))
    (fun i s => ∃ ys a b c, s.1 = [.v (.hnd k), .v (tpI ys), a, b, c] ∧ ys.length = ns.length ∧ ys.sum = ns.sum ∧ (∀ y ∈ ys, 0 ≤ y) ∧ s.2.c ≤ t.c + 1 + 2 * i)
    (rngL 0 (1 + t.draw 4)) 0 ([.v (.hnd k), .v (tpI ns), .no, .no, .no], t.step 4) (by
      rintro i d ⟨τ, u⟩ hd ⟨ys, a, b, c, rfl, l, sm, ps, hu⟩
      have hi : i < (rngL 0 (1 + t.draw 4)).length := by
        rw [List.getElem?_eq_some_iff] at hd
        exact hd.1
      rw [rngL_len] at hi
      simp only at hu
      have x1 := u.draw_in (m := ys.length) (by omega)
      have y1 : (u.step ys.length).c ≤ u.c + 1 := DS.step_c
      have x2 := (u.step ys.length).draw_in (m := ys.length) (by omega)
      have y2 : ((u.step ys.length).step ys.length).c ≤ (u.step ys.length).c + 1 := DS.step_c
      have n1 := next_eq (n := k) (t := u) (m := ys.length) (by omega) (by omega) (by omega)
      have n2 := next_eq (n := k) (t := u.step ys.length) (m := ys.length) (by omega) (by omega) (by omega)
      by_cases p : 0 < ys[(u.draw ys.length).toNat]?.getD 0
      · obtain ⟨q1, q2, q3⟩ := shift_ok (ys := ys) (i := (u.draw ys.length).toNat) (j := ((u.step ys.length).draw ys.length).toNat) (by omega) (by omega) ps p _ rfl
        refine ⟨_, ([_, _, .v d, .v (.int (u.draw ys.length)), .v (.int ((u.step ys.length).draw ys.length))], (u.step ys.length).step ys.length), rfl, ?_, _, _, _, _, rfl, q1.trans l, q2.trans sm, q3, by simp only; omega⟩
        simp only [fdA, List.map_cons, List.map_nil, List.length_cons, List.length_nil, List.cons_append, List.nil_append, List.replicate_succ, List.replicate_zero, Nat.zero_add, Nat.reduceAdd, Nat.reduceSub, Nat.sub_self, if_true, if_false, Bool.false_eq_true, Bool.not_true, Bool.not_false, reduceCtorEq, ite_true, ite_false, List.getElem?_cons_zero, List.getElem?_cons_succ, List.set_cons_zero, List.set_cons_succ, LEN, Nat.reduceLeDiff, Option.map_some, fvA, List.length_map, List.length_set, decide_true, decide_false, n1, n2, v_ix_t (atI_map x1.1 x1.2), p, changed_eq x1.1 x1.2 x2.1 x2.2]
      · refine ⟨_, ([_, _, .v d, .v (.int (u.draw ys.length)), .v (.int ((u.step ys.length).draw ys.length))], (u.step ys.length).step ys.length), rfl, ?_, _, _, _, _, rfl, l, sm, ps, by simp only; omega⟩
        simp only [fdA, List.map_cons, List.map_nil, List.length_cons, List.length_nil, List.cons_append, List.nil_append, List.replicate_succ, List.replicate_zero, Nat.zero_add, Nat.reduceAdd, Nat.reduceSub, Nat.sub_self, if_true, if_false, Bool.false_eq_true, Bool.not_true, Bool.not_false, reduceCtorEq, ite_true, ite_false, List.getElem?_cons_zero, List.getElem?_cons_succ, List.set_cons_zero, List.set_cons_succ, LEN, Nat.reduceLeDiff, Option.map_some, fvA, List.length_map, List.length_set, decide_true, decide_false, n1, n2, v_ix_t (atI_map x1.1 x1.2), p]) ⟨ns, _, _, _, rfl, rfl, rfl, pos, by simpa using s4⟩
  refine ⟨ys, t', ?_, l, sm, ps, ?_⟩
  · unfold FF_q_moved fb_q_moved
    simp only [fdA, List.map_cons, List.map_nil, List.length_cons, List.length_nil, List.cons_append, List.nil_append, List.replicate_succ, List.replicate_zero, Nat.zero_add, Nat.reduceAdd, Nat.reduceSub, Nat.sub_self, if_true, if_false, Bool.false_eq_true, Bool.not_true, Bool.not_false, reduceCtorEq, ite_true, ite_false, List.getElem?_cons_zero, List.getElem?_cons_succ, List.set_cons_zero, List.set_cons_succ, LEN, Nat.reduceLeDiff, Option.map_some, fvA, List.length_map, List.length_set, decide_true, decide_false, next_eq (n := k) (t := t) (m := 4) (by decide) (by decide) (by omega), v_rng1 hj]
    simp only [tpI] at e ⊢
    rw [e]
    simp only [fdA, List.map_cons, List.map_nil, List.length_cons, List.length_nil, List.cons_append, List.nil_append, List.replicate_succ, List.replicate_zero, Nat.zero_add, Nat.reduceAdd, Nat.reduceSub, Nat.sub_self, if_true, if_false, Bool.false_eq_true, Bool.not_true, Bool.not_false, reduceCtorEq, ite_true, ite_false, List.getElem?_cons_zero, List.getElem?_cons_succ, List.set_cons_zero, List.set_cons_succ, LEN, Nat.reduceLeDiff, Option.map_some, fvA, List.length_map, List.length_set, decide_true, decide_false]
  · rw [rngL_len] at hc'
    simp only at hc'
    omega
end FD

namespace FD
open PySem PySem.Spec PyProof.Rows L2
theorem erase_perm : ∀ (l : List Int) (i : Nat), i < l.length → (l[i]?.getD 0 :: l.eraseIdx i).Perm l
  | [], _, h => by simp at h
  | a :: r, 0, _ => by simp
  | a :: r, i + 1, h => by
    have := erase_perm r i (by simpa using h)
    simp only [List.getElem?_cons_succ, List.eraseIdx_cons_succ]
    exact (List.Perm.swap a _ _).trans (this.cons a)
theorem shuf_loop {x : D} {k : Nat} : ∀ (m : Nat) (left found : List Int) (t : DS), left.length = m → m + found.length ≤ 1000 → t.c + m < 2 ^ 40 →
    ∃ ys t', whileN (binF neD (varF 2) (lstF nilA)) (dropF (mutF 3 appD (consA (mutF 2 popD (consA (ucallF FF_q_next (consA (varF 0) (consA (callF lenD (consA (varF 2) nilA)) nilA))) nilA)) nilA))) (m + 1)
      ([.v (.hnd k), .v x, .o (lsI left), .o (lsI found)], t) = some (.nx, ([.v (.hnd k), .v x, .o (lsI []), .o (lsI ys)], t')) ∧ ys.Perm (found ++ left) ∧ t'.c ≤ t.c + m
  | 0, left, found, t, hm, hl, hc => by
    obtain rfl := List.eq_nil_of_length_eq_zero hm
    refine ⟨found, t, ?_, by simp, Nat.le_refl _⟩
    rw [q_whileN]
    simp only [fdA, List.map_cons, List.map_nil, List.length_cons, List.length_nil, List.cons_append, List.nil_append, List.replicate_succ, List.replicate_zero, Nat.zero_add, Nat.reduceAdd, Nat.reduceSub, Nat.sub_self, if_true, if_false, Bool.false_eq_true, Bool.not_true, Bool.not_false, reduceCtorEq, ite_true, ite_false, List.getElem?_cons_zero, List.getElem?_cons_succ, List.set_cons_zero, List.set_cons_succ, LEN, Nat.reduceLeDiff, Option.map_some, fvA, List.length_map, List.length_set, decide_true, decide_false, v_ne_nil (a := (List.map D.int [])) rfl, List.isEmpty_nil]
  | m + 1, left, found, t, hm, hl, hc => by
    have x1 := t.draw_in (m := left.length) (by omega)
    have y1 : (t.step left.length).c ≤ t.c + 1 := DS.step_c
    have hi : (t.draw left.length).toNat < left.length := by omega
    obtain ⟨ys, t', e, p, c⟩ := shuf_loop m (left.eraseIdx (t.draw left.length).toNat) (found ++ [left[(t.draw left.length).toNat]?.getD 0]) (t.step left.length)
      (by rw [List.length_eraseIdx_of_lt hi]; omega) (by simp; omega) (by omega)
    refine ⟨ys, t', ?_, ?_, by omega⟩
    · have ne : (List.map D.int left).isEmpty = false := by
        cases left with
        | nil => simp at hm
        | cons a r => rfl
      rw [q_whileN]
      simp only [fdA, List.map_cons, List.map_nil, List.length_cons, List.length_nil, List.cons_append, List.nil_append, List.replicate_succ, List.replicate_zero, Nat.zero_add, Nat.reduceAdd, Nat.reduceSub, Nat.sub_self, if_true, if_false, Bool.false_eq_true, Bool.not_true, Bool.not_false, reduceCtorEq, ite_true, ite_false, List.getElem?_cons_zero, List.getElem?_cons_succ, List.set_cons_zero, List.set_cons_succ, LEN, Nat.reduceLeDiff, Option.map_some, fvA, List.length_map, List.length_set, decide_true, decide_false, v_ne_nil (okAll_int 63 left), ne, next_eq (n := k) (t := t) (m := left.length) (by omega) (by omega) (by omega), v_pop x1.1 x1.2 (by omega), v_app (xs := List.map D.int found) (by simp [LEN]; omega)]
      exact e
    · refine p.trans ?_
      rw [List.append_assoc]
      exact (erase_perm left _ hi).append_left found
theorem shuffled_ok {ns : List Int} {t : DS} {k : Nat} (h2 : ns.length ≤ 1000) (hc : t.c < 2 ^ 39) :
    ∃ ys t', FF_q_shuffled [.hnd k, tpI ns] t = some (.ok (lsI ys) true, t') ∧ ys.Perm ns ∧ t'.c ≤ t.c + ns.length := by
  obtain ⟨ys, t', e, p, c⟩ := shuf_loop (x := tpI ns) (k := k) ns.length ns [] t rfl (by simpa using h2) (by omega)
  refine ⟨ys, t', ?_, by simpa using p, c⟩
  unfold FF_q_shuffled fb_q_shuffled
  simp only [fdA, List.map_cons, List.map_nil, List.length_cons, List.length_nil, List.cons_append, List.nil_append, List.replicate_succ, List.replicate_zero, Nat.zero_add, Nat.reduceAdd, Nat.reduceSub, Nat.sub_self, if_true, if_false, Bool.false_eq_true, Bool.not_true, Bool.not_false, reduceCtorEq, ite_true, ite_false, List.getElem?_cons_zero, List.getElem?_cons_succ, List.set_cons_zero, List.set_cons_succ, LEN, Nat.reduceLeDiff, Option.map_some, fvA, List.length_map, List.length_set, decide_true, decide_false]
  have e' := whileF_of e
  simp only [tpI, lsI, List.map_nil] at e' ⊢
  rw [e']
  simp only [fdA, List.map_cons, List.map_nil, List.length_cons, List.length_nil, List.cons_append, List.nil_append, List.replicate_succ, List.replicate_zero, Nat.zero_add, Nat.reduceAdd, Nat.reduceSub, Nat.sub_self, if_true, if_false, Bool.false_eq_true, Bool.not_true, Bool.not_false, reduceCtorEq, ite_true, ite_false, List.getElem?_cons_zero, List.getElem?_cons_succ, List.set_cons_zero, List.set_cons_succ, LEN, Nat.reduceLeDiff, Option.map_some, fvA, List.length_map, List.length_set, decide_true, decide_false]
end FD

/-! M41: sums of parts of lists. -/
namespace FD
theorem sub_perm {A : Type} : ∀ {l m : List A}, l.Perm m → ∀ {s : List A}, s.Sublist l → ∃ s' : List A, s'.Perm s ∧ s'.Sublist m := by
  intro l m p
  induction p with
  | nil => exact fun {s} h => ⟨s, .refl _, h⟩
  | cons x _ ih =>
    intro s h
    cases h with
    | cons _ h =>
      obtain ⟨s', p', h'⟩ := ih h
      exact ⟨s', p', h'.cons _⟩
    | cons_cons _ h =>
      obtain ⟨s', p', h'⟩ := ih h
      exact ⟨x :: s', p'.cons x, h'.cons_cons x⟩
  | swap x y l =>
    intro s h
    cases h with
    | cons _ h => cases h with
      | cons _ h => exact ⟨_, .refl _, (h.cons _).cons _⟩
      | cons_cons _ h => exact ⟨_, .refl _, (h.cons _).cons_cons _⟩
    | cons_cons _ h => cases h with
      | cons _ h => exact ⟨_, .refl _, (h.cons_cons _).cons _⟩
      | cons_cons _ h => exact ⟨_, .swap _ _ _, (h.cons_cons _).cons_cons _⟩
  | trans _ _ h1 h2 =>
    intro s h
    obtain ⟨s1, p1, k1⟩ := h1 h
    obtain ⟨s2, p2, k2⟩ := h2 k1
    exact ⟨s2, p2.trans p1, k2⟩
theorem perm_sum {l m : List Int} (p : l.Perm m) : l.sum = m.sum := by
  induction p with
  | nil => rfl
  | cons x _ ih => simp [ih]
  | swap x y l => simp; omega
  | trans _ _ h1 h2 => exact h1.trans h2
theorem down_perm (l : List Int) : (sortDown l).Perm l := List.mergeSort_perm ..
theorem down_pair (l : List Int) : (sortDown l).Pairwise fun a b => b ≤ a := by
  have := List.pairwise_mergeSort (le := fun a b : Int => decide (b ≤ a)) (fun a b c h1 h2 => by simp at *; omega) (fun a b => by simp; omega) l
  exact this.imp fun h => by simpa using h
theorem down_len (l : List Int) : (sortDown l).length = l.length := (down_perm l).length_eq
/-- the sum of the k greatest -/
def bigS (l : List Int) (k : Nat) : Int := ((sortDown l).take k).sum
theorem top_sorted : ∀ {L s : List Int}, L.Pairwise (fun a b => b ≤ a) → s.Sublist L → s.sum ≤ (L.take s.length).sum
  | [], s, _, h => by cases h; simp
  | x :: L, s, p, h => by
    have p2 := (List.pairwise_cons.mp p).2
    have p1 := (List.pairwise_cons.mp p).1
    cases h with
    | cons _ h =>
      cases s with
      | nil => simp
      | cons y s =>
        have hy : y ∈ L := h.subset (List.mem_cons_self ..)
        have := p1 y hy
        have := top_sorted p2 ((List.sublist_cons_self y s).trans h)
        simp
        omega
    | cons_cons _ h =>
      have := top_sorted p2 h
      simp
      omega
theorem top_ge {l s : List Int} (h : s.Sublist l) : s.sum ≤ bigS l s.length := by
  obtain ⟨s', p, h'⟩ := sub_perm (down_perm l).symm h
  have := top_sorted (down_pair l) h'
  rw [p.length_eq, perm_sum p] at this
  exact this
theorem top_is {l : List Int} {k : Nat} (h : k ≤ l.length) : ∃ s : List Int, s.Sublist l ∧ s.length = k ∧ s.sum = bigS l k := by
  obtain ⟨s, p, h'⟩ := sub_perm (down_perm l) (List.take_sublist k (sortDown l))
  refine ⟨s, h', ?_, perm_sum p⟩
  rw [p.length_eq, List.length_take, down_len]
  omega
theorem top_perm {l m : List Int} (p : l.Perm m) {k : Nat} (h : k ≤ l.length) : bigS l k ≤ bigS m k := by
  obtain ⟨s, h1, h2, h3⟩ := top_is h
  obtain ⟨s', p', h'⟩ := sub_perm p h1
  have := top_ge h'
  rw [p'.length_eq, perm_sum p', h2, h3] at this
  exact this
/-- even: as the program adds up -/
def goB : Int → List Int → List Int → Bool
  | a, x :: xs, y :: ys => if 0 < a + (x - y) then false else goB (a + (x - y)) xs ys
  | _, _, _ => true
theorem goB_iff : ∀ {xs ys : List Int} {a : Int}, a ≤ 0 → xs.length = ys.length → (goB a xs ys = true ↔ ∀ k, k ≤ xs.length → a + (xs.take k).sum ≤ (ys.take k).sum)
  | [], [], a, ha, _ => by
    simp [goB]
    exact ha
  | [], y :: ys, a, _, h => by simp at h
  | x :: xs, [], a, _, h => by simp at h
  | x :: xs, y :: ys, a, ha, h => by
    have hl : xs.length = ys.length := by simpa using h
    unfold goB
    split
    · rename_i hp
      constructor
      · intro z; cases z
      · intro z
        have := z 1 (by simp)
        simp at this
        omega
    · rename_i hp
      rw [goB_iff (by omega) hl]
      constructor
      · intro z k hk
        cases k with
        | zero => simpa using ha
        | succ k =>
          have := z k (by simpa using hk)
          simp
          omega
      · intro z k hk
        have := z (k + 1) (by simpa using hk)
        simp at this
        omega
def evenB (xs ys : List Int) : Bool := decide (xs.sum = ys.sum) && goB 0 (sortDown xs) (sortDown ys)
theorem even_iff {xs ys : List Int} (h : xs.length = ys.length) : evenB xs ys = true ↔ xs.sum = ys.sum ∧ ∀ k, k ≤ xs.length → bigS xs k ≤ bigS ys k := by
  unfold evenB
  rw [Bool.and_eq_true, decide_eq_true_eq, goB_iff (Int.le_refl 0) (by rw [down_len, down_len, h])]
  rw [down_len]
  unfold bigS
  simp
/-! ### the rows of all choices -/
def rowsL : List Int → List (Int × Int) → List (Int × Int)
  | [], rows => rows
  | u :: us, rows => rowsL us (rows ++ rows.map fun p => (p.1 + 1, p.2 + u))
theorem rows_len : ∀ {us : List Int} {rows : List (Int × Int)}, (rowsL us rows).length = rows.length * 2 ^ us.length
  | [], rows => by simp [rowsL]
  | u :: us, rows => by
    rw [rowsL, rows_len, List.length_append, List.length_map, List.length_cons, Nat.pow_succ, Nat.mul_comm (2 ^ us.length) 2, ← Nat.mul_assoc, Nat.mul_two]
theorem rows_mem : ∀ {us : List Int} {rows : List (Int × Int)} {p : Int × Int}, p ∈ rowsL us rows ↔ ∃ (r : Int × Int) (s : List Int), r ∈ rows ∧ s.Sublist us ∧ p = (r.1 + s.length, r.2 + s.sum)
  | [], rows, p => by
    unfold rowsL
    constructor
    · exact fun h => ⟨p, [], h, .slnil, by simp⟩
    · rintro ⟨r, s, h, hs, rfl⟩
      cases hs
      simpa using h
  | u :: us, rows, p => by
    unfold rowsL
    rw [rows_mem]
    constructor
    · rintro ⟨r, s, h, hs, rfl⟩
      rcases List.mem_append.mp h with h | h
      · exact ⟨r, s, h, hs.cons _, rfl⟩
      · obtain ⟨r0, h0, rfl⟩ := List.mem_map.mp h
        refine ⟨r0, u :: s, h0, hs.cons_cons _, ?_⟩
        simp
        constructor <;> omega
    · rintro ⟨r, s, h, hs, rfl⟩
      cases hs with
      | cons _ hs => exact ⟨r, s, List.mem_append.mpr (.inl h), hs, rfl⟩
      | cons_cons _ hs =>
        rename_i s
        refine ⟨(r.1 + 1, r.2 + u), s, List.mem_append.mpr (.inr (List.mem_map.mpr ⟨r, h, rfl⟩)), hs, ?_⟩
        simp
        constructor <;> omega
def loads (us : List Int) (k : Int) : List Int := ((rowsL us [(0, 0)]).filter fun p => decide (p.1 = k)).map (·.2)
theorem loads_mem {us : List Int} {k : Nat} {x : Int} : x ∈ loads us k ↔ ∃ s : List Int, s.Sublist us ∧ s.length = k ∧ s.sum = x := by
  unfold loads
  rw [List.mem_map]
  constructor
  · rintro ⟨p, h, rfl⟩
    obtain ⟨h1, h2⟩ := List.mem_filter.mp h
    obtain ⟨r, s, hr, hs, rfl⟩ := rows_mem.mp h1
    simp at hr
    subst hr
    simp at h2
    exact ⟨s, hs, by omega, by simp⟩
  · rintro ⟨s, hs, rfl, rfl⟩
    refine ⟨((s.length : Int), s.sum), List.mem_filter.mpr ⟨rows_mem.mpr ⟨(0, 0), s, by simp, hs, by simp⟩, by simp⟩, rfl⟩
theorem loads_ne {us : List Int} {k : Nat} (h : k ≤ us.length) : loads us k ≠ [] := by
  obtain ⟨s, h1, h2, h3⟩ := top_is h
  intro z
  have : bigS us k ∈ loads us k := loads_mem.mpr ⟨s, h1, h2, h3⟩
  rw [z] at this
  cases this
theorem loads_max {us : List Int} {k : Nat} (h : k ≤ us.length) : maxL (loads us k) = bigS us k := by
  obtain ⟨s, h1, h2, h3⟩ := top_is h
  have a1 : bigS us k ≤ maxL (loads us k) := maxL_le (loads_mem.mpr ⟨s, h1, h2, h3⟩)
  have a2 : maxL (loads us k) ∈ loads us k := maxL_mem (loads_ne h)
  obtain ⟨s', k1, k2, k3⟩ := loads_mem.mp a2
  have a3 := top_ge k1
  rw [k2, k3] at a3
  omega
/-! ### the flat plan -/
theorem sub_nonneg : ∀ {s l : List Int}, s.Sublist l → (∀ x ∈ l, 0 ≤ x) → s.sum ≤ l.sum
  | _, _, .slnil, _ => by simp
  | _, _, .cons a h, n => by
    have := sub_nonneg h fun x m => n x (List.mem_cons_of_mem _ m)
    have := n a (List.mem_cons_self ..)
    simp
    omega
  | _, _, .cons_cons a h, n => by
    have := sub_nonneg h fun x m => n x (List.mem_cons_of_mem _ m)
    simp
    omega
theorem sum_shift (q : Int) : ∀ l : List Int, (l.map (· - q)).sum = l.sum - l.length * q
  | [] => by simp
  | a :: r => by
    have := sum_shift q r
    simp only [List.map_cons, List.sum_cons, List.length_cons, this]
    have e : (((r.length + 1 : Nat) : Int)) * q = r.length * q + q := by
      rw [Int.natCast_add, Int.add_mul]
      simp
    omega
theorem le_sum (c : Int) : ∀ l : List Int, (∀ x ∈ l, x ≤ c) → l.sum ≤ l.length * c
  | [], _ => by simp
  | a :: r, h => by
    have h1 := le_sum c r fun x m => h x (List.mem_cons_of_mem _ m)
    have h2 := h a (List.mem_cons_self ..)
    have e : (((r.length + 1 : Nat) : Int)) * c = r.length * c + c := by
      rw [Int.natCast_add, Int.add_mul]
      simp
    simp only [List.sum_cons, List.length_cons, e]
    omega
theorem ge_sum (c : Int) : ∀ l : List Int, (∀ x ∈ l, c ≤ x) → l.length * c ≤ l.sum
  | [], _ => by simp
  | a :: r, h => by
    have h1 := ge_sum c r fun x m => h x (List.mem_cons_of_mem _ m)
    have h2 := h a (List.mem_cons_self ..)
    have e : (((r.length + 1 : Nat) : Int)) * c = r.length * c + c := by
      rw [Int.natCast_add, Int.add_mul]
      simp
    simp only [List.sum_cons, List.length_cons, e]
    omega
/-- what is at most one apart and no more in all -/
theorem flat_top {flat near : List Int} {q r : Int} (hl : flat.length = near.length) (hf : ∀ x ∈ flat, x = q ∨ x = q + 1) (sf : flat.sum = flat.length * q + r) (sn : near.sum = flat.sum) {k : Nat} (hk : k ≤ flat.length) :
    bigS flat k ≤ bigS near k := by
  obtain ⟨s, h1, h2, h3⟩ := top_is hk
  have a1 : s.sum ≤ k * q + k := by
    have := le_sum (q + 1) s fun x m => by rcases hf x (h1.subset m) with e | e <;> omega
    rw [h2, Int.mul_add, Int.mul_one] at this
    exact this
  have a2 : s.sum ≤ k * q + r := by
    have := sub_nonneg (h1.map (· - q)) fun x m => by
      obtain ⟨y, hy, rfl⟩ := List.mem_map.mp m
      rcases hf y hy with e | e <;> simp only [e] <;> omega
    rw [sum_shift, sum_shift, h2, sf] at this
    omega
  rw [← h3]
  have pw := down_pair near
  have e : (sortDown near).take k ++ (sortDown near).drop k = sortDown near := List.take_append_drop ..
  have es : ((sortDown near).take k).sum + ((sortDown near).drop k).sum = near.sum := by
    rw [← List.sum_append, e]
    exact perm_sum (down_perm near)
  have lt : ((sortDown near).take k).length = k := by
    rw [List.length_take, down_len]
    omega
  have ld : ((sortDown near).drop k).length = flat.length - k := by
    rw [List.length_drop, down_len]
    omega
  unfold bigS
  by_cases hb : ∀ x ∈ (sortDown near).take k, q + 1 ≤ x
  · have := ge_sum (q + 1) _ hb
    rw [lt, Int.mul_add, Int.mul_one] at this
    omega
  · have : ∃ x ∈ (sortDown near).take k, x ≤ q := by
      apply Classical.byContradiction
      intro z
      exact hb fun x m => by
        apply Classical.byContradiction
        intro z2
        exact z ⟨x, m, by omega⟩
    obtain ⟨x, mx, hx⟩ := this
    rw [← e, List.pairwise_append] at pw
    have hd : ∀ y ∈ (sortDown near).drop k, y ≤ q := fun y m => by
      have := pw.2.2 x mx y m
      omega
    have b1 := le_sum q _ hd
    rw [ld] at b1
    have e2 : ((flat.length - k : Nat) : Int) * q = flat.length * q - k * q := by
      rw [Int.natCast_sub hk, Int.sub_mul]
    rw [e2] at b1
    omega
end FD

namespace FD
open PySem PySem.Spec PyProof.Rows L2
theorem even_loop {o1 o2 : D} {t : DS} : ∀ (xs ys : List Int) (a : Int) (p q : Sl),
    ∃ τ', forL (tupG 2 (consG (nameG 3) (consG (nameG 4) nilG))) (seqF (augF 2 addI (binF subD (varF 3) (varF 4)))
  (ifF (binF gtD (varF 2) (conF (.int 0))) (retF (conF (.bl false))) nxF)) (pairD (xs.map D.int) (ys.map D.int)) ([.v o1, .v o2, .v (.int a), p, q], t)
    = some (if goB a xs ys then .nx else .rt (.d (.bl false)), (τ', t))
  | [], ys, a, p, q => ⟨_, rfl⟩
  | x :: xs, [], a, p, q => ⟨_, rfl⟩
  | x :: xs, y :: ys, a, p, q => by
    by_cases h : 0 < a + (x - y)
    · refine ⟨[.v o1, .v o2, .v (.int (a + (x - y))), .v (.int x), .v (.int y)], ?_⟩
      rw [show goB a (x :: xs) (y :: ys) = false by unfold goB; rw [if_pos h]]
      simp only [List.map_cons, pairD]
      simp only [fdA, List.map_cons, List.map_nil, List.length_cons, List.length_nil, List.cons_append, List.nil_append, List.replicate_succ, List.replicate_zero, Nat.zero_add, Nat.reduceAdd, Nat.reduceSub, Nat.sub_self, if_true, if_false, Bool.false_eq_true, Bool.not_true, Bool.not_false, reduceCtorEq, ite_true, ite_false, List.getElem?_cons_zero, List.getElem?_cons_succ, List.set_cons_zero, List.set_cons_succ, LEN, Nat.reduceLeDiff, Option.map_some, fvA, List.length_map, List.length_set, decide_true, decide_false, fhA, List.mem_cons, List.not_mem_nil, or_false, or_true, Nat.reduceEqDiff, Nat.succ_ne_self, h]
    · obtain ⟨τ', e⟩ := even_loop (o1 := o1) (o2 := o2) (t := t) xs ys (a + (x - y)) (.v (.int x)) (.v (.int y))
      refine ⟨τ', ?_⟩
      rw [show goB a (x :: xs) (y :: ys) = goB (a + (x - y)) xs ys by conv => lhs; unfold goB; rw [if_neg h]]
      rw [← e]
      simp only [List.map_cons, pairD]
      simp only [fdA, List.map_cons, List.map_nil, List.length_cons, List.length_nil, List.cons_append, List.nil_append, List.replicate_succ, List.replicate_zero, Nat.zero_add, Nat.reduceAdd, Nat.reduceSub, Nat.sub_self, if_true, if_false, Bool.false_eq_true, Bool.not_true, Bool.not_false, reduceCtorEq, ite_true, ite_false, List.getElem?_cons_zero, List.getElem?_cons_succ, List.set_cons_zero, List.set_cons_succ, LEN, Nat.reduceLeDiff, Option.map_some, fvA, List.length_map, List.length_set, decide_true, decide_false, fhA, List.mem_cons, List.not_mem_nil, or_false, or_true, Nat.reduceEqDiff, Nat.succ_ne_self, h]
theorem even_eq {xs ys : List Int} {t : DS} : FF_is_as_even [tpI xs, tpI ys] t = some (.ok (.bl (evenB xs ys)) false, t) := by
  unfold FF_is_as_even fb_is_as_even evenB
  by_cases h : xs.sum = ys.sum
  · obtain ⟨τ', e⟩ := even_loop (o1 := tpI xs) (o2 := tpI ys) (t := t) (sortDown xs) (sortDown ys) 0 .no .no
    have s1 : sortOf true xs = sortDown xs := rfl
    have s2 : sortOf true ys = sortDown ys := rfl
    simp only [fdA, List.map_cons, List.map_nil, List.length_cons, List.length_nil, List.cons_append, List.nil_append, List.replicate_succ, List.replicate_zero, Nat.zero_add, Nat.reduceAdd, Nat.reduceSub, Nat.sub_self, if_true, if_false, Bool.false_eq_true, Bool.not_true, Bool.not_false, reduceCtorEq, ite_true, ite_false, List.getElem?_cons_zero, List.getElem?_cons_succ, List.set_cons_zero, List.set_cons_succ, LEN, Nat.reduceLeDiff, Option.map_some, fvA, List.length_map, List.length_set, decide_true, decide_false, fhA, List.mem_cons, List.not_mem_nil, or_false, or_true, Nat.reduceEqDiff, Nat.succ_ne_self, h, s1, s2]
    simp only [tpI] at e ⊢
    rw [e]
    cases goB 0 (sortDown xs) (sortDown ys) <;> rfl
  · simp only [fdA, List.map_cons, List.map_nil, List.length_cons, List.length_nil, List.cons_append, List.nil_append, List.replicate_succ, List.replicate_zero, Nat.zero_add, Nat.reduceAdd, Nat.reduceSub, Nat.sub_self, if_true, if_false, Bool.false_eq_true, Bool.not_true, Bool.not_false, reduceCtorEq, ite_true, ite_false, List.getElem?_cons_zero, List.getElem?_cons_succ, List.set_cons_zero, List.set_cons_succ, LEN, Nat.reduceLeDiff, Option.map_some, fvA, List.length_map, List.length_set, decide_true, decide_false, fhA, List.mem_cons, List.not_mem_nil, or_false, or_true, Nat.reduceEqDiff, Nat.succ_ne_self, h]
    rfl
theorem v_max {ns : List Int} (h : ns ≠ []) : maxD [.lst (ns.map D.int)] = some (.int (maxL ns), false) := by
  cases ns with
  | nil => exact absurd rfl h
  | cons a r =>
    unfold maxD maxLD
    simp only [intsD_map]
abbrev rowD (p : Int × Int) : D := .tup [.int p.1, .int p.2]
theorem great_loop {o1 o2 : D} {t : DS} : ∀ (us : List Int) (rows : List (Int × Int)) (p : Sl), rows.length * 2 ^ us.length ≤ 100000 →
    ∃ p', forL (nameG 3) (setF 2 (binF addD (varF 2) (lcF [3] [4, 5] (seqI (varF 2)) (tupG 2 (consG (nameG 4) (consG (nameG 5) nilG))) yesF (tupF (consA (binF addD (varF 4) (conF (.int 1))) (consA (binF addD (varF 5) (varF 3)) nilA)))))) (us.map D.int)
      ([.v o1, .v o2, .o (.lst (rows.map rowD)), p, .no, .no], t) = some (.nx, ([.v o1, .v o2, .o (.lst ((rowsL us rows).map rowD)), p', .no, .no], t))
  | [], rows, p, _ => ⟨p, rfl⟩
  | u :: us, rows, p, hl => by
    obtain ⟨p', e⟩ := great_loop (o1 := o1) (o2 := o2) (t := t) us (rows ++ rows.map fun p => (p.1 + 1, p.2 + u)) (.v (.int u)) (by
      rw [List.length_append, List.length_map]
      rw [List.length_cons, Nat.pow_succ, Nat.mul_comm (2 ^ us.length) 2, ← Nat.mul_assoc, Nat.mul_two] at hl
      exact hl)
    refine ⟨p', ?_⟩
    rw [rowsL, ← e]
    have h2 : 1 ≤ 2 ^ us.length := Nat.one_le_two_pow
    have hr : rows.length + rows.length ≤ 100000 := by
      rw [List.length_cons, Nat.pow_succ, Nat.mul_comm (2 ^ us.length) 2, ← Nat.mul_assoc, Nat.mul_two] at hl
      exact Nat.le_trans (Nat.le_mul_of_pos_right _ h2) hl
    have hlc := lcL_fm (T := DS) (g := tupG 2 (consG (nameG 4) (consG (nameG 5) nilG))) (c := yesF) (e := tupF (consA (binF addD (varF 4) (conF (.int 1))) (consA (binF addD (varF 5) (varF 3)) nilA)))
      (τ0 := [.v o1, .v o2, .v (.lst (rows.map rowD)), .v (.int u), .no, .no]) (t := t) rowD (fun p => rowD (p.1 + 1, p.2 + u)) (fun _ => true) rows (fun a _ => ⟨[.v o1, .v o2, .v (.lst (rows.map rowD)), .v (.int u), .v (.int a.1), .v (.int a.2)], .d (.bl true), [.v o1, .v o2, .v (.lst (rows.map rowD)), .v (.int u), .v (.int a.1), .v (.int a.2)], by simp only [fdA, List.map_cons, List.map_nil, List.length_cons, List.length_nil, List.cons_append, List.nil_append, List.replicate_succ, List.replicate_zero, Nat.zero_add, Nat.reduceAdd, Nat.reduceSub, Nat.sub_self, if_true, if_false, Bool.false_eq_true, Bool.not_true, Bool.not_false, reduceCtorEq, ite_true, ite_false, List.getElem?_cons_zero, List.getElem?_cons_succ, List.set_cons_zero, List.set_cons_succ, LEN, Nat.reduceLeDiff, Option.map_some, fvA, List.length_map, List.length_set, decide_true, decide_false, fhA, List.mem_cons, List.not_mem_nil, or_false, or_true, Nat.reduceEqDiff, Nat.succ_ne_self], rfl, rfl, fun _ =>
        ⟨.d (rowD (a.1 + 1, a.2 + u)), [.v o1, .v o2, .v (.lst (rows.map rowD)), .v (.int u), .v (.int a.1), .v (.int a.2)], [.v o1, .v o2, .v (.lst (rows.map rowD)), .v (.int u), .v (.int a.1), .v (.int a.2)], by simp only [fdA, List.map_cons, List.map_nil, List.length_cons, List.length_nil, List.cons_append, List.nil_append, List.replicate_succ, List.replicate_zero, Nat.zero_add, Nat.reduceAdd, Nat.reduceSub, Nat.sub_self, if_true, if_false, Bool.false_eq_true, Bool.not_true, Bool.not_false, reduceCtorEq, ite_true, ite_false, List.getElem?_cons_zero, List.getElem?_cons_succ, List.set_cons_zero, List.set_cons_succ, LEN, Nat.reduceLeDiff, Option.map_some, fvA, List.length_map, List.length_set, decide_true, decide_false, fhA, List.mem_cons, List.not_mem_nil, or_false, or_true, Nat.reduceEqDiff, Nat.succ_ne_self], rfl⟩⟩)
    rw [List.filter_eq_self.mpr (by simp)] at hlc
    have hadd : addD (.lst (rows.map rowD)) (.lst (rows.map fun p => rowD (p.1 + 1, p.2 + u))) = some (.lst ((rows ++ rows.map fun p : Int × Int => (p.1 + 1, p.2 + u)).map rowD), true) := by
      unfold addD
      simp only [List.length_map]
      rw [if_pos hr, List.map_append, List.map_map]
      rfl
    have hr' : rows.length ≤ 100000 := by omega
    simp only [fdA, List.map_cons, List.map_nil, List.length_cons, List.length_nil, List.cons_append, List.nil_append, List.replicate_succ, List.replicate_zero, Nat.zero_add, Nat.reduceAdd, Nat.reduceSub, Nat.sub_self, if_true, if_false, Bool.false_eq_true, Bool.not_true, Bool.not_false, reduceCtorEq, ite_true, ite_false, List.getElem?_cons_zero, List.getElem?_cons_succ, List.set_cons_zero, List.set_cons_succ, LEN, Nat.reduceLeDiff, Option.map_some, fvA, List.length_map, List.length_set, decide_true, decide_false, fhA, List.mem_cons, List.not_mem_nil, or_false, or_true, Nat.reduceEqDiff, Nat.succ_ne_self, hlc, hadd, hr']
end FD

namespace FD
open PySem PySem.Spec PyProof.Rows L2
theorem great_eq {us : List Int} {k : Nat} {t : DS} (hl : us.length ≤ 16) (hk : k ≤ us.length) : FF_q_greatest [tpI us, .int k] t = some (.ok (.int (bigS us k)) false, t) := by
  have hp : 2 ^ us.length ≤ 2 ^ 16 := Nat.pow_le_pow_right (by decide) hl
  obtain ⟨p', e⟩ := great_loop (o1 := tpI us) (o2 := .int k) (t := t) us [(0, 0)] .no (by simp; omega)
  have hlen : (rowsL us [(0, 0)]).length ≤ 100000 := by
    rw [rows_len]
    simp
    omega
  have hlc := lcL_fm (T := DS) (g := tupG 2 (consG (nameG 4) (consG (nameG 5) nilG))) (c := binF eqD (varF 4) (varF 1)) (e := varF 5)
      (τ0 := [.v (tpI us), .v (.int k), .v (.lst ((rowsL us [(0, 0)]).map rowD)), unown p', .no, .no]) (t := t) rowD (fun p => .int p.2) (fun p => decide (p.1 = (k : Int))) (rowsL us [(0, 0)]) (fun a _ => ⟨[.v (tpI us), .v (.int k), .v (.lst ((rowsL us [(0, 0)]).map rowD)), unown p', .v (.int a.1), .v (.int a.2)], .d (.bl (decide (a.1 = (k : Int)))), [.v (tpI us), .v (.int k), .v (.lst ((rowsL us [(0, 0)]).map rowD)), unown p', .v (.int a.1), .v (.int a.2)], by simp only [fdA, List.map_cons, List.map_nil, List.length_cons, List.length_nil, List.cons_append, List.nil_append, List.replicate_succ, List.replicate_zero, Nat.zero_add, Nat.reduceAdd, Nat.reduceSub, Nat.sub_self, if_true, if_false, Bool.false_eq_true, Bool.not_true, Bool.not_false, reduceCtorEq, ite_true, ite_false, List.getElem?_cons_zero, List.getElem?_cons_succ, List.set_cons_zero, List.set_cons_succ, LEN, Nat.reduceLeDiff, Option.map_some, fvA, List.length_map, List.length_set, decide_true, decide_false, fhA, List.mem_cons, List.not_mem_nil, or_false, or_true, Nat.reduceEqDiff, Nat.succ_ne_self], by simp only [fdA, List.map_cons, List.map_nil, List.length_cons, List.length_nil, List.cons_append, List.nil_append, List.replicate_succ, List.replicate_zero, Nat.zero_add, Nat.reduceAdd, Nat.reduceSub, Nat.sub_self, if_true, if_false, Bool.false_eq_true, Bool.not_true, Bool.not_false, reduceCtorEq, ite_true, ite_false, List.getElem?_cons_zero, List.getElem?_cons_succ, List.set_cons_zero, List.set_cons_succ, LEN, Nat.reduceLeDiff, Option.map_some, fvA, List.length_map, List.length_set, decide_true, decide_false, fhA, List.mem_cons, List.not_mem_nil, or_false, or_true, Nat.reduceEqDiff, Nat.succ_ne_self], rfl, fun _ =>
        ⟨.s 5, [.v (tpI us), .v (.int k), .v (.lst ((rowsL us [(0, 0)]).map rowD)), unown p', .v (.int a.1), .v (.int a.2)], [.v (tpI us), .v (.int k), .v (.lst ((rowsL us [(0, 0)]).map rowD)), unown p', .v (.int a.1), .v (.int a.2)], by simp only [fdA, List.map_cons, List.map_nil, List.length_cons, List.length_nil, List.cons_append, List.nil_append, List.replicate_succ, List.replicate_zero, Nat.zero_add, Nat.reduceAdd, Nat.reduceSub, Nat.sub_self, if_true, if_false, Bool.false_eq_true, Bool.not_true, Bool.not_false, reduceCtorEq, ite_true, ite_false, List.getElem?_cons_zero, List.getElem?_cons_succ, List.set_cons_zero, List.set_cons_succ, LEN, Nat.reduceLeDiff, Option.map_some, fvA, List.length_map, List.length_set, decide_true, decide_false, fhA, List.mem_cons, List.not_mem_nil, or_false, or_true, Nat.reduceEqDiff, Nat.succ_ne_self], by simp only [fdA, List.map_cons, List.map_nil, List.length_cons, List.length_nil, List.cons_append, List.nil_append, List.replicate_succ, List.replicate_zero, Nat.zero_add, Nat.reduceAdd, Nat.reduceSub, Nat.sub_self, if_true, if_false, Bool.false_eq_true, Bool.not_true, Bool.not_false, reduceCtorEq, ite_true, ite_false, List.getElem?_cons_zero, List.getElem?_cons_succ, List.set_cons_zero, List.set_cons_succ, LEN, Nat.reduceLeDiff, Option.map_some, fvA, List.length_map, List.length_set, decide_true, decide_false, fhA, List.mem_cons, List.not_mem_nil, or_false, or_true, Nat.reduceEqDiff, Nat.succ_ne_self]⟩⟩)
  have hmap : ((rowsL us [(0, 0)]).filter fun p => decide (p.1 = (k : Int))).map (fun p => D.int p.2) = (loads us k).map D.int := by
    unfold loads
    rw [List.map_map]
    rfl
  rw [hmap] at hlc
  have hm := v_max (loads_ne hk)
  rw [loads_max hk] at hm
  unfold FF_q_greatest fb_q_greatest
  have e0 : (D.lst [D.tup [D.int 0, D.int 0]]) = .lst ([(0, 0)].map rowD) := rfl
  simp only [fdA, List.map_cons, List.map_nil, List.length_cons, List.length_nil, List.cons_append, List.nil_append, List.replicate_succ, List.replicate_zero, Nat.zero_add, Nat.reduceAdd, Nat.reduceSub, Nat.sub_self, if_true, if_false, Bool.false_eq_true, Bool.not_true, Bool.not_false, reduceCtorEq, ite_true, ite_false, List.getElem?_cons_zero, List.getElem?_cons_succ, List.set_cons_zero, List.set_cons_succ, LEN, Nat.reduceLeDiff, Option.map_some, fvA, List.length_map, List.length_set, decide_true, decide_false, fhA, List.mem_cons, List.not_mem_nil, or_false, or_true, Nat.reduceEqDiff, Nat.succ_ne_self, e0]
  simp only [tpI] at e hlc ⊢
  rw [e]
  simp only [fdA, List.map_cons, List.map_nil, List.length_cons, List.length_nil, List.cons_append, List.nil_append, List.replicate_succ, List.replicate_zero, Nat.zero_add, Nat.reduceAdd, Nat.reduceSub, Nat.sub_self, if_true, if_false, Bool.false_eq_true, Bool.not_true, Bool.not_false, reduceCtorEq, ite_true, ite_false, List.getElem?_cons_zero, List.getElem?_cons_succ, List.set_cons_zero, List.set_cons_succ, LEN, Nat.reduceLeDiff, Option.map_some, fvA, List.length_map, List.length_set, decide_true, decide_false, fhA, List.mem_cons, List.not_mem_nil, or_false, or_true, Nat.reduceEqDiff, Nat.succ_ne_self, hlen, hlc, hm]
def dueB (xs ys : List Int) : Bool := decide (xs.sum = ys.sum) && (((List.range xs.length).map fun (j : Nat) => 1 + (j : Int)).filter fun k => decide (bigS ys k.toNat < bigS xs k.toNat)).isEmpty
theorem due_even {xs ys : List Int} (h : xs.length = ys.length) : dueB xs ys = evenB xs ys := by
  rw [Bool.eq_iff_iff, even_iff h]
  unfold dueB
  rw [Bool.and_eq_true, decide_eq_true_eq, List.isEmpty_iff, List.filter_eq_nil_iff]
  constructor
  · rintro ⟨a, b⟩
    refine ⟨a, fun k hk => ?_⟩
    cases k with
    | zero => simp [bigS]
    | succ k =>
      have := b (1 + (k : Int)) (List.mem_map.mpr ⟨k, List.mem_range.mpr (by omega), rfl⟩)
      rw [show (1 + (k : Int)).toNat = k + 1 by omega] at this
      simp at this
      exact this
  · rintro ⟨a, b⟩
    refine ⟨a, fun x hx => ?_⟩
    obtain ⟨j, hj, rfl⟩ := List.mem_map.mp hx
    have hj' := List.mem_range.mp hj
    rw [show (1 + (j : Int)).toNat = j + 1 by omega]
    have := b (j + 1) (by omega)
    simp
    exact this
end FD

namespace FD
open PySem PySem.Spec PyProof.Rows L2
theorem due_eq {xs ys : List Int} {t : DS} (hl : xs.length ≤ 16) (h : xs.length = ys.length) : FF_q_due [tpI xs, tpI ys] t = some (.ok (.bl (evenB xs ys)) false, t) := by
  rw [← due_even h]
  have hr : rngL 1 (xs.length + 1) = ((List.range xs.length).map fun (j : Nat) => 1 + (j : Int)).map D.int := by
    rw [rngL_map, show ((xs.length : Int) + 1 - 1).toNat = xs.length by omega]
  have hs1 : small 1 = true := small_of (by omega)
  have hs2 : small (xs.length + 1) = true := small_of (by omega)
  have hlen : xs.length ≤ 100000 := by omega
  have hlc := lcL_fm (T := DS) (g := nameG 2) (c := binF gtD (ucallF FF_q_greatest (consA (varF 0) (consA (varF 2) nilA))) (ucallF FF_q_greatest (consA (varF 1) (consA (varF 2) nilA)))) (e := varF 2)
      (τ0 := [.v (tpI xs), .v (tpI ys), .no]) (t := t) D.int D.int (fun k => decide (bigS ys k.toNat < bigS xs k.toNat)) ((List.range xs.length).map fun (j : Nat) => 1 + (j : Int)) (fun a ha => by
        obtain ⟨j, hj, rfl⟩ := List.mem_map.mp ha
        have hj' := List.mem_range.mp hj
        have e1 := great_eq (us := xs) (k := j + 1) (t := t) hl (by omega)
        have e2 := great_eq (us := ys) (k := j + 1) (t := t) (by omega) (by omega)
        have e3 : ((j + 1 : Nat) : Int) = 1 + (j : Int) := by omega
        rw [e3] at e1 e2
        have e4 : (1 + (j : Int)).toNat = j + 1 := by omega
        refine ⟨[.v (tpI xs), .v (tpI ys), .v (.int (1 + (j : Int)))], .d (.bl (decide (bigS ys (j + 1) < bigS xs (j + 1)))), [.v (tpI xs), .v (tpI ys), .v (.int (1 + (j : Int)))], by simp only [fdA, List.map_cons, List.map_nil, List.length_cons, List.length_nil, List.cons_append, List.nil_append, List.replicate_succ, List.replicate_zero, Nat.zero_add, Nat.reduceAdd, Nat.reduceSub, Nat.sub_self, if_true, if_false, Bool.false_eq_true, Bool.not_true, Bool.not_false, reduceCtorEq, ite_true, ite_false, List.getElem?_cons_zero, List.getElem?_cons_succ, List.set_cons_zero, List.set_cons_succ, LEN, Nat.reduceLeDiff, Option.map_some, fvA, List.length_map, List.length_set, decide_true, decide_false, fhA, List.mem_cons, List.not_mem_nil, or_false, or_true, Nat.reduceEqDiff, Nat.succ_ne_self], ?_, by rw [e4]; rfl, fun _ => ⟨.s 2, [.v (tpI xs), .v (tpI ys), .v (.int (1 + (j : Int)))], [.v (tpI xs), .v (tpI ys), .v (.int (1 + (j : Int)))], by simp only [fdA, List.map_cons, List.map_nil, List.length_cons, List.length_nil, List.cons_append, List.nil_append, List.replicate_succ, List.replicate_zero, Nat.zero_add, Nat.reduceAdd, Nat.reduceSub, Nat.sub_self, if_true, if_false, Bool.false_eq_true, Bool.not_true, Bool.not_false, reduceCtorEq, ite_true, ite_false, List.getElem?_cons_zero, List.getElem?_cons_succ, List.set_cons_zero, List.set_cons_succ, LEN, Nat.reduceLeDiff, Option.map_some, fvA, List.length_map, List.length_set, decide_true, decide_false, fhA, List.mem_cons, List.not_mem_nil, or_false, or_true, Nat.reduceEqDiff, Nat.succ_ne_self], by simp only [fdA, List.map_cons, List.map_nil, List.length_cons, List.length_nil, List.cons_append, List.nil_append, List.replicate_succ, List.replicate_zero, Nat.zero_add, Nat.reduceAdd, Nat.reduceSub, Nat.sub_self, if_true, if_false, Bool.false_eq_true, Bool.not_true, Bool.not_false, reduceCtorEq, ite_true, ite_false, List.getElem?_cons_zero, List.getElem?_cons_succ, List.set_cons_zero, List.set_cons_succ, LEN, Nat.reduceLeDiff, Option.map_some, fvA, List.length_map, List.length_set, decide_true, decide_false, fhA, List.mem_cons, List.not_mem_nil, or_false, or_true, Nat.reduceEqDiff, Nat.succ_ne_self]⟩⟩
        simp only [fdA, List.map_cons, List.map_nil, List.length_cons, List.length_nil, List.cons_append, List.nil_append, List.replicate_succ, List.replicate_zero, Nat.zero_add, Nat.reduceAdd, Nat.reduceSub, Nat.sub_self, if_true, if_false, Bool.false_eq_true, Bool.not_true, Bool.not_false, reduceCtorEq, ite_true, ite_false, List.getElem?_cons_zero, List.getElem?_cons_succ, List.set_cons_zero, List.set_cons_succ, LEN, Nat.reduceLeDiff, Option.map_some, fvA, List.length_map, List.length_set, decide_true, decide_false, fhA, List.mem_cons, List.not_mem_nil, or_false, or_true, Nat.reduceEqDiff, Nat.succ_ne_self, e1, e2])
  have hok := okAll_int 63
  unfold FF_q_due fb_q_due dueB
  by_cases hsum : xs.sum = ys.sum
  · simp only [fdA, List.map_cons, List.map_nil, List.length_cons, List.length_nil, List.cons_append, List.nil_append, List.replicate_succ, List.replicate_zero, Nat.zero_add, Nat.reduceAdd, Nat.reduceSub, Nat.sub_self, if_true, if_false, Bool.false_eq_true, Bool.not_true, Bool.not_false, reduceCtorEq, ite_true, ite_false, List.getElem?_cons_zero, List.getElem?_cons_succ, List.set_cons_zero, List.set_cons_succ, LEN, Nat.reduceLeDiff, Option.map_some, fvA, List.length_map, List.length_set, decide_true, decide_false, fhA, List.mem_cons, List.not_mem_nil, or_false, or_true, Nat.reduceEqDiff, Nat.succ_ne_self, hsum, v_rng2 hs1 hs2, hr, hlen, List.length_range, hlc, v_eq_nil (hok _), List.isEmpty_map, Bool.true_and]
  · simp only [fdA, List.map_cons, List.map_nil, List.length_cons, List.length_nil, List.cons_append, List.nil_append, List.replicate_succ, List.replicate_zero, Nat.zero_add, Nat.reduceAdd, Nat.reduceSub, Nat.sub_self, if_true, if_false, Bool.false_eq_true, Bool.not_true, Bool.not_false, reduceCtorEq, ite_true, ite_false, List.getElem?_cons_zero, List.getElem?_cons_succ, List.set_cons_zero, List.set_cons_succ, LEN, Nat.reduceLeDiff, Option.map_some, fvA, List.length_map, List.length_set, decide_true, decide_false, fhA, List.mem_cons, List.not_mem_nil, or_false, or_true, Nat.reduceEqDiff, Nat.succ_ne_self, hsum]
    rfl
end FD

namespace FD
open PySem PySem.Spec PyProof.Rows L2
theorem lc_one {x0 x2 x4 x5 x6 x7 x8 x9 x10 x11 x12 x13 : Sl} {g : Int} (g1 : 0 < g) (g2 : g < 2 ^ 64) (m : Nat) (t : DS) (hc : t.c + m < 2 ^ 40) :
    ∃ (ns : List Int) (t' : DS), lcL (nameG 13) yesF (ucallF FF_q_next (consA (varF 1) (consA (varF 3) nilA))) [x0, .v (.hnd 0), x2, .v (.int g), x4, x5, x6, x7, x8, x9, x10, x11, x12, x13] (rngL 0 m) t = some (ns.map D.int, t')
      ∧ ns.length = m ∧ (∀ y ∈ ns, 0 ≤ y ∧ y < g) ∧ t'.c ≤ t.c + m := by
  obtain ⟨out, t', e, l, p, c⟩ := lcL_inv (T := DS) (g := nameG 13) (e := ucallF FF_q_next (consA (varF 1) (consA (varF 3) nilA))) (τ0 := [x0, .v (.hnd 0), x2, .v (.int g), x4, x5, x6, x7, x8, x9, x10, x11, x12, x13])
    (fun k u => u.c ≤ t.c + k) (fun _ v => ∃ n, v = .int n ∧ 0 ≤ n ∧ n < g) (rngL 0 m) 0 t (fun i d u hd hu => by
      have hi : i < (rngL 0 (m : Int)).length := (List.getElem?_eq_some_iff.mp hd).1
      rw [rngL_len] at hi
      have x := u.draw_in g1
      have y : (u.step g).c ≤ u.c + 1 := DS.step_c
      have n1 := next_eq (n := 0) (t := u) g1 g2 (by omega)
      refine ⟨[x0, .v (.hnd 0), x2, .v (.int g), x4, x5, x6, x7, x8, x9, x10, x11, x12, .v d], .d (.int (u.draw g)), [x0, .v (.hnd 0), x2, .v (.int g), x4, x5, x6, x7, x8, x9, x10, x11, x12, .v d], u.step g, .int (u.draw g), _, by simp only [fdA, List.map_cons, List.map_nil, List.length_cons, List.length_nil, List.cons_append, List.nil_append, List.replicate_succ, List.replicate_zero, Nat.zero_add, Nat.reduceAdd, Nat.reduceSub, Nat.sub_self, if_true, if_false, Bool.false_eq_true, Bool.not_true, Bool.not_false, reduceCtorEq, ite_true, ite_false, List.getElem?_cons_zero, List.getElem?_cons_succ, List.set_cons_zero, List.set_cons_succ, LEN, Nat.reduceLeDiff, Option.map_some, fvA, List.length_map, List.length_set, decide_true, decide_false, fhA, List.mem_cons, List.not_mem_nil, or_false, or_true, Nat.reduceEqDiff, Nat.succ_ne_self], by simp only [fdA, List.map_cons, List.map_nil, List.length_cons, List.length_nil, List.cons_append, List.nil_append, List.replicate_succ, List.replicate_zero, Nat.zero_add, Nat.reduceAdd, Nat.reduceSub, Nat.sub_self, if_true, if_false, Bool.false_eq_true, Bool.not_true, Bool.not_false, reduceCtorEq, ite_true, ite_false, List.getElem?_cons_zero, List.getElem?_cons_succ, List.set_cons_zero, List.set_cons_succ, LEN, Nat.reduceLeDiff, Option.map_some, fvA, List.length_map, List.length_set, decide_true, decide_false, fhA, List.mem_cons, List.not_mem_nil, or_false, or_true, Nat.reduceEqDiff, Nat.succ_ne_self, n1], rfl, ⟨_, rfl, x.1, x.2⟩, by omega⟩) (by omega)
  obtain ⟨ns, rfl, q⟩ := ints_of (Q := fun n => 0 ≤ n ∧ n < g) (out := out) (fun v hv => by
    obtain ⟨i, hi, e⟩ := List.mem_iff_getElem.mp hv
    exact p i v (by rw [← e]; exact List.getElem?_eq_getElem hi))
  rw [rngL_len] at l c
  exact ⟨ns, t', e, by simp at l; omega, q, by omega⟩
def flatL (n : Nat) (total : Int) : List Int := (List.range n).map fun (j : Nat) => total / n + (if (j : Int) < total % n then 1 else 0)
theorem lc_flat {x0 x1 x2 x3 x5 x6 x8 x9 x10 x11 x12 x13 : Sl} {ns : List Int} {total : Int} {t : DS} (h1 : 0 < ns.length) (h2 : ns.length ≤ 100) :
    lcL (nameG 13) yesF (binF addD (binF fdivD (varF 7) (callF lenD (consA (varF 4) nilA))) (callF intD (consA (binF ltD (varF 13) (binF modD (varF 7) (callF lenD (consA (varF 4) nilA)))) nilA)))
      [x0, x1, x2, x3, .v (tpI ns), x5, x6, .v (.int total), x8, x9, x10, x11, x12, x13] (rngL 0 ns.length) t = some ((flatL ns.length total).map D.int, t) := by
  have hr : rngL 0 (ns.length : Int) = ((List.range ns.length).map fun (j : Nat) => (j : Int)).map D.int := by
    rw [rngL_map, show ((ns.length : Int) - 0).toNat = ns.length by omega]
    congr 1
    simp
  have hf := v_fdiv (a := total) (b := ns.length) (by omega) (fair_of (by omega))
  have hm := v_mod (a := total) (b := ns.length) (by omega)
  have := lcL_fm (T := DS) (g := nameG 13) (c := yesF) (e := binF addD (binF fdivD (varF 7) (callF lenD (consA (varF 4) nilA))) (callF intD (consA (binF ltD (varF 13) (binF modD (varF 7) (callF lenD (consA (varF 4) nilA)))) nilA)))
    (τ0 := [x0, x1, x2, x3, .v (tpI ns), x5, x6, .v (.int total), x8, x9, x10, x11, x12, x13]) (t := t) D.int (fun k => D.int (total / ns.length + (if k < total % ns.length then 1 else 0))) (fun _ => true) ((List.range ns.length).map fun (j : Nat) => (j : Int)) (fun a _ =>
      ⟨[x0, x1, x2, x3, .v (tpI ns), x5, x6, .v (.int total), x8, x9, x10, x11, x12, .v (.int a)], .d (.bl true), [x0, x1, x2, x3, .v (tpI ns), x5, x6, .v (.int total), x8, x9, x10, x11, x12, .v (.int a)], by simp only [fdA, List.map_cons, List.map_nil, List.length_cons, List.length_nil, List.cons_append, List.nil_append, List.replicate_succ, List.replicate_zero, Nat.zero_add, Nat.reduceAdd, Nat.reduceSub, Nat.sub_self, if_true, if_false, Bool.false_eq_true, Bool.not_true, Bool.not_false, reduceCtorEq, ite_true, ite_false, List.getElem?_cons_zero, List.getElem?_cons_succ, List.set_cons_zero, List.set_cons_succ, LEN, Nat.reduceLeDiff, Option.map_some, fvA, List.length_map, List.length_set, decide_true, decide_false, fhA, List.mem_cons, List.not_mem_nil, or_false, or_true, Nat.reduceEqDiff, Nat.succ_ne_self], rfl, rfl, fun _ =>
        ⟨.d (.int (total / ns.length + (if a < total % ns.length then 1 else 0))), [x0, x1, x2, x3, .v (tpI ns), x5, x6, .v (.int total), x8, x9, x10, x11, x12, .v (.int a)], _, by
          by_cases h : a < total % ns.length
          · simp only [fdA, List.map_cons, List.map_nil, List.length_cons, List.length_nil, List.cons_append, List.nil_append, List.replicate_succ, List.replicate_zero, Nat.zero_add, Nat.reduceAdd, Nat.reduceSub, Nat.sub_self, if_true, if_false, Bool.false_eq_true, Bool.not_true, Bool.not_false, reduceCtorEq, ite_true, ite_false, List.getElem?_cons_zero, List.getElem?_cons_succ, List.set_cons_zero, List.set_cons_succ, LEN, Nat.reduceLeDiff, Option.map_some, fvA, List.length_map, List.length_set, decide_true, decide_false, fhA, List.mem_cons, List.not_mem_nil, or_false, or_true, Nat.reduceEqDiff, Nat.succ_ne_self, hf, hm, h]
          · simp only [fdA, List.map_cons, List.map_nil, List.length_cons, List.length_nil, List.cons_append, List.nil_append, List.replicate_succ, List.replicate_zero, Nat.zero_add, Nat.reduceAdd, Nat.reduceSub, Nat.sub_self, if_true, if_false, Bool.false_eq_true, Bool.not_true, Bool.not_false, reduceCtorEq, ite_true, ite_false, List.getElem?_cons_zero, List.getElem?_cons_succ, List.set_cons_zero, List.set_cons_succ, LEN, Nat.reduceLeDiff, Option.map_some, fvA, List.length_map, List.length_set, decide_true, decide_false, fhA, List.mem_cons, List.not_mem_nil, or_false, or_true, Nat.reduceEqDiff, Nat.succ_ne_self, hf, hm, h], rfl⟩⟩)
  rw [List.filter_eq_self.mpr (by simp), ← hr] at this
  rw [this]
  unfold flatL
  simp only [List.map_map]
  rfl
/-- all pairs agree -/
theorem pair_in {x0 x1 x2 x3 x4 x5 x6 x7 x8 x9 x10 x12 x13 : Sl} {ns : List Int} {t : DS} : ∀ (mss : List (List Int)) (x12 : Sl), ns.length ≤ 16 → (∀ ms ∈ mss, ns.length = ms.length) →
    ∃ y, forL (nameG 12) (ifF (notF (ucallF FF_q_same (consA (ucallF FF_is_as_even (consA (varF 11) (consA (varF 12) nilA))) (consA (ucallF FF_q_due (consA (varF 11) (consA (varF 12) nilA))) nilA)))) (retF (conF (.bl false))) nxF) (mss.map tpI)
      ([x0, x1, x2, x3, x4, x5, x6, x7, x8, x9, x10, .v (tpI ns), x12, x13], t) = some (.nx, ([x0, x1, x2, x3, x4, x5, x6, x7, x8, x9, x10, .v (tpI ns), y, x13], t))
  | [], x12, _, _ => ⟨x12, rfl⟩
  | ms :: mss, x12, hl, h => by
    obtain ⟨y, e⟩ := pair_in (x0 := x0) (x1 := x1) (x2 := x2) (x3 := x3) (x4 := x4) (x5 := x5) (x6 := x6) (x7 := x7) (x8 := x8) (x9 := x9) (x10 := x10) (x12 := x12) (x13 := x13) (ns := ns) (t := t) mss (.v (tpI ms)) hl fun m hm => h m (List.mem_cons_of_mem _ hm)
    refine ⟨y, ?_⟩
    rw [← e]
    have e1 := even_eq (xs := ns) (ys := ms) (t := t)
    have e2 := due_eq (xs := ns) (ys := ms) (t := t) hl (h ms (List.mem_cons_self ..))
    have e3 : FF_q_same [.bl (evenB ns ms), .bl (evenB ns ms)] t = some (.ok (.bl true) false, t) := by
      have := same_bl (evenB ns ms) (evenB ns ms) 11 t
      rw [decide_eq_true rfl] at this
      exact this
    simp only [fdA, List.map_cons, List.map_nil, List.length_cons, List.length_nil, List.cons_append, List.nil_append, List.replicate_succ, List.replicate_zero, Nat.zero_add, Nat.reduceAdd, Nat.reduceSub, Nat.sub_self, if_true, if_false, Bool.false_eq_true, Bool.not_true, Bool.not_false, reduceCtorEq, ite_true, ite_false, List.getElem?_cons_zero, List.getElem?_cons_succ, List.set_cons_zero, List.set_cons_succ, LEN, Nat.reduceLeDiff, Option.map_some, fvA, List.length_map, List.length_set, decide_true, decide_false, fhA, List.mem_cons, List.not_mem_nil, or_false, or_true, Nat.reduceEqDiff, Nat.succ_ne_self, e1, e2, e3]
theorem pair_out {x0 x1 x2 x3 x4 x5 x6 x7 x8 x10 x13 : Sl} {n : Nat} {nss : List (List Int)} {t : DS} (hn : n ≤ 16) (h : ∀ ns ∈ nss, ns.length = n) : ∀ (mss : List (List Int)) (x11 x12 : Sl), (∀ ms ∈ mss, ms.length = n) →
    ∃ y z, forL (nameG 11) (forF (seqI (varF 9)) (nameG 12) (ifF (notF (ucallF FF_q_same (consA (ucallF FF_is_as_even (consA (varF 11) (consA (varF 12) nilA))) (consA (ucallF FF_q_due (consA (varF 11) (consA (varF 12) nilA))) nilA)))) (retF (conF (.bl false))) nxF)) (mss.map tpI)
      ([x0, x1, x2, x3, x4, x5, x6, x7, x8, .v (.lst (nss.map tpI)), x10, x11, x12, x13], t) = some (.nx, ([x0, x1, x2, x3, x4, x5, x6, x7, x8, .v (.lst (nss.map tpI)), x10, y, z, x13], t))
  | [], x11, x12, _ => ⟨x11, x12, rfl⟩
  | ms :: mss, x11, x12, hm => by
    have hms := hm ms (List.mem_cons_self ..)
    obtain ⟨z1, e1⟩ := pair_in (x0 := x0) (x1 := x1) (x2 := x2) (x3 := x3) (x4 := x4) (x5 := x5) (x6 := x6) (x7 := x7) (x8 := x8) (x9 := .v (.lst (nss.map tpI))) (x10 := x10) (x12 := x12) (x13 := x13) (ns := ms) (t := t) nss x12 (by omega) fun m h' => by rw [hms, h m h']
    obtain ⟨y, z, e⟩ := pair_out (x0 := x0) (x1 := x1) (x2 := x2) (x3 := x3) (x4 := x4) (x5 := x5) (x6 := x6) (x7 := x7) (x8 := x8) (x10 := x10) (x13 := x13) (nss := nss) (t := t) hn h mss (.v (tpI ms)) z1 fun m hm' => hm m (List.mem_cons_of_mem _ hm')
    refine ⟨y, z, ?_⟩
    rw [← e]
    simp only [tpI] at e1
    simp only [fdA, List.map_cons, List.map_nil, List.length_cons, List.length_nil, List.cons_append, List.nil_append, List.replicate_succ, List.replicate_zero, Nat.zero_add, Nat.reduceAdd, Nat.reduceSub, Nat.sub_self, if_true, if_false, Bool.false_eq_true, Bool.not_true, Bool.not_false, reduceCtorEq, ite_true, ite_false, List.getElem?_cons_zero, List.getElem?_cons_succ, List.set_cons_zero, List.set_cons_succ, LEN, Nat.reduceLeDiff, Option.map_some, fvA, List.length_map, List.length_set, decide_true, decide_false, fhA, List.mem_cons, List.not_mem_nil, or_false, or_true, Nat.reduceEqDiff, Nat.succ_ne_self, e1]
end FD

namespace FD
open PySem PySem.Spec PyProof.Rows L2
theorem flat_len (n : Nat) (total : Int) : (flatL n total).length = n := by simp [flatL]
theorem flat_of {n : Nat} (hn : 0 < n) (total : Int) : ∀ m : Nat, m ≤ n → ((List.range m).map fun (j : Nat) => total / n + (if (j : Int) < total % n then 1 else 0)).sum = m * (total / n) + (if (m : Int) ≤ total % n then (m : Int) else total % n)
  | 0, _ => by
    have := Int.emod_nonneg total (b := n) (by omega)
    simp [this]
  | m + 1, h => by
    have := Int.emod_nonneg total (b := n) (by omega)
    rw [List.range_succ, List.map_append, List.sum_append, flat_of hn total m (by omega)]
    have e : ((m + 1 : Nat) : Int) * (total / n) = m * (total / n) + total / n := by
      rw [Int.natCast_add, Int.add_mul]
      simp
    rw [e]
    simp only [List.map_cons, List.map_nil, List.sum_cons, List.sum_nil]
    split <;> split <;> split <;> omega
theorem flat_sum {n : Nat} (hn : 0 < n) (total : Int) : (flatL n total).sum = n * (total / n) + total % n := by
  unfold flatL
  rw [flat_of hn total n (Nat.le_refl n)]
  have := Int.emod_lt_of_pos total (b := n) (by omega)
  rw [if_neg (by omega)]
theorem flat_in {n : Nat} {total x : Int} (h : x ∈ flatL n total) : x = total / n ∨ x = total / n + 1 := by
  obtain ⟨j, _, rfl⟩ := List.mem_map.mp h
  split
  · exact .inr rfl
  · exact .inl (by omega)
structure Nice (n : Nat) (l : List Int) : Prop where
  len : l.length = n
  pos : ∀ x ∈ l, 0 ≤ x
  sum : l.sum ≤ 1000000000000
theorem Nice.abs {n : Nat} {l : List Int} (h : Nice n l) : ∀ x ∈ l, x.natAbs < 10 ^ 60 := fun x m => by
  have a := h.pos x m
  have b := le_of_sum h.pos x m
  have c := h.sum
  have d : x.natAbs ≤ 1000000000000 := by omega
  exact Nat.lt_of_le_of_lt d (by decide)
theorem some_eq {n : Nat} {a b c d e f g : List Int} : ([a, b, c, d, e, f, g] : List (List Int)).map tpI = [tpI a, tpI b, tpI c, tpI d, tpI e, tpI f, tpI g] := rfl
theorem v_pow : powD (.int 10) (.int 11) = some (.int 100000000000, false) := by
  unfold powD
  exact if_pos (by decide)
theorem pure_law : ∀ t : DS, t.c = 0 → ∃ s', fb_law (lawS 14, t) = some (.rt (.d (.bl true)), s') := by
  intro t ht
  have e0 : lawS 14 = [.no, .v (.hnd 0), .no, .no, .no, .no, .no, .no, .no, .no, .no, .no, .no, .no] := rfl
  unfold fb_law
  simp only [fdA, List.map_cons, List.map_nil, List.length_cons, List.length_nil, List.cons_append, List.nil_append, List.replicate_succ, List.replicate_zero, Nat.zero_add, Nat.reduceAdd, Nat.reduceSub, Nat.sub_self, if_true, if_false, Bool.false_eq_true, Bool.not_true, Bool.not_false, reduceCtorEq, ite_true, ite_false, List.getElem?_cons_zero, List.getElem?_cons_succ, List.set_cons_zero, List.set_cons_succ, LEN, Nat.reduceLeDiff, Option.map_some, fvA, List.length_map, List.length_set, decide_true, decide_false, fhA, List.mem_cons, List.not_mem_nil, or_false, or_true, Nat.reduceEqDiff, Nat.succ_ne_self, e0, v_rng1 (j := 10) (small_of (by omega))]
  refine for_then (fun k s => ∃ x2 x3 x4 x5 x6 x7 x8 x9 x10 x11 x12 x13 : Sl, s.1 = [.no, .v (.hnd 0), x2, x3, x4, x5, x6, x7, x8, x9, x10, x11, x12, x13] ∧ s.2.c ≤ 40 * k) ?_ ⟨_, _, _, _, _, _, _, _, _, _, _, _, rfl, by simp [ht]⟩ ?_
  · rintro i d ⟨τ, t0⟩ hd ⟨x2, x3, x4, x5, x6, x7, x8, x9, x10, x11, x12, x13, rfl, hc⟩
    have hi : i < (rngL 0 10).length := (List.getElem?_eq_some_iff.mp hd).1
    rw [rngL_len] at hi
    simp only at hc
    have hi' : i < 10 := by omega
    -- great
    have a0 := t0.draw_in (m := 4) (by decide)
    have c0 : (t0.step 4).c ≤ t0.c + 1 := DS.step_c
    obtain ⟨g, hg, g1, g2⟩ : ∃ g, atI [D.int 2, .int 4, .int 9, .int 100000000000] (t0.draw 4) = some (.int g) ∧ 0 < g ∧ g ≤ 100000000000 := by
      have h : t0.draw 4 = 0 ∨ t0.draw 4 = 1 ∨ t0.draw 4 = 2 ∨ t0.draw 4 = 3 := by omega
      rcases h with h | h | h | h <;> rw [h]
      · exact ⟨2, rfl, by decide, by decide⟩
      · exact ⟨4, rfl, by decide, by decide⟩
      · exact ⟨9, rfl, by decide, by decide⟩
      · exact ⟨100000000000, rfl, by decide, by decide⟩
    have q1 := one_eq (ds := [D.int 2, .int 4, .int 9, .int 100000000000]) (t := t0) (n := 0) (by decide) (by decide) (by omega) hg
    obtain ⟨t1, ht1⟩ : ∃ t1, t1 = t0.step 4 := ⟨_, rfl⟩
    have q1' : FF_q_one [.hnd 0, .lst [D.int 2, .int 4, .int 9, .int 100000000000]] t0 = some (.ok (.int g) false, t1) := by rw [ht1]; exact q1
    rw [← ht1] at c0
    -- one
    have a1 := t1.draw_in (m := 6) (by decide)
    have q2 := next_eq (n := 0) (t := t1) (m := 6) (by decide) (by decide) (by omega)
    have c1 : (t1.step 6).c ≤ t1.c + 1 := DS.step_c
    obtain ⟨t2, ht2⟩ : ∃ t2, t2 = t1.step 6 := ⟨_, rfl⟩
    rw [← ht2] at q2 c1
    obtain ⟨m, hm⟩ : ∃ m : Nat, 1 + t1.draw 6 = (m : Int) := ⟨(1 + t1.draw 6).toNat, by omega⟩
    obtain ⟨one, t3, q3, l3, p3, c3⟩ := lc_one (x0 := .no) (x2 := .v d) (x4 := unown x4) (x5 := unown x5) (x6 := unown x6) (x7 := unown x7) (x8 := unown x8) (x9 := unown x9) (x10 := unown x10) (x11 := unown x11) (x12 := unown x12) (x13 := .no) g1 (by omega) m t2 (by omega)
    have hm1 : 1 ≤ m := by omega
    have hm6 : m ≤ 6 := by omega
    have n1 : Nice m one := ⟨l3, fun x h => (p3 x h).1, by
      have := le_sum 100000000000 one fun x h => by have := (p3 x h).2; omega
      rw [l3] at this
      omega⟩
    -- near
    obtain ⟨near, t4, q4, l4, s4, p4, c4⟩ := moved_ok (ns := one) (t := t3) (k := 0) (by omega) (by omega) (by omega) n1.pos
    have n2 : Nice m near := ⟨by omega, p4, by rw [s4]; exact n1.sum⟩
    -- turned
    obtain ⟨turned, t5, q5, p5, c5⟩ := shuffled_ok (ns := one) (t := t4) (k := 0) (by omega) (by omega)
    have n3 : Nice m turned := ⟨by rw [p5.length_eq, l3], fun x h => n1.pos x (p5.subset h), by rw [perm_sum p5]; exact n1.sum⟩
    -- flat
    have n4 : Nice m (flatL one.length one.sum) := ⟨by rw [flat_len, l3], fun x h => by
      have z : 0 ≤ one.sum := by
        have := ge_sum 0 one n1.pos
        simpa using this
      have z2 : 0 ≤ one.sum / (one.length : Int) := Int.ediv_nonneg z (by omega)
      rcases flat_in h with e | e <;> omega, by
      rw [flat_sum (by omega), Int.mul_ediv_add_emod]
      exact n1.sum⟩
    -- the other two
    have pos1 : 0 ≤ one.sum := by
      have := ge_sum 0 one n1.pos
      simpa using this
    have n5 : Nice m ([one.sum] ++ List.replicate (((one.length : Nat) : Int) - 1).toNat 0) := ⟨by simp; omega, fun x h => by
      simp at h
      omega, by simp; exact n1.sum⟩
    have n6 : Nice m ([one[(0 : Int).toNat]?.getD 0 + 1] ++ one.drop 1) := by
      cases one with
      | nil => simp at l3; omega
      | cons x r =>
        refine ⟨by simpa using l3, fun y h => ?_, ?_⟩
        · have px := n1.pos x (List.mem_cons_self ..)
          simp at h
          rcases h with h | h
          · omega
          · exact n1.pos y (List.mem_cons_of_mem _ h)
        · have h1 := le_sum 100000000000 (x :: r) fun x h => by have := (p3 x h).2; omega
          rw [l3] at h1
          simp at h1 ⊢
          omega
    -- again
    obtain ⟨last, t6, q6, l6, s6, p6, c6⟩ := moved_ok (ns := near) (t := t5) (k := 0) (by omega) (by omega) (by omega) n2.pos
    have n7 : Nice m last := ⟨by omega, p6, by rw [s6]; exact n2.sum⟩
    have nice : ∀ ms ∈ [one, near, turned, flatL one.length one.sum, [one.sum] ++ List.replicate (((one.length : Nat) : Int) - 1).toNat 0, [one[(0 : Int).toNat]?.getD 0 + 1] ++ one.drop 1, last], Nice m ms := by
      intro ms h
      simp only [List.mem_cons, List.not_mem_nil, or_false] at h
      rcases h with rfl | rfl | rfl | rfl | rfl | rfl | rfl
      · exact n1
      · exact n2
      · exact n3
      · exact n4
      · exact n5
      · exact n6
      · exact n7
    obtain ⟨kept, qr⟩ := v_repr_lt (nss := [one, near, turned, flatL one.length one.sum, [one.sum] ++ List.replicate (((one.length : Nat) : Int) - 1).toNat 0, [one[(0 : Int).toNat]?.getD 0 + 1] ++ one.drop 1, last]) (by simp) fun ms h => ⟨by rw [(nice ms h).len]; omega, (nice ms h).abs⟩
    obtain ⟨y, z, ql⟩ := pair_out (x0 := .no) (x1 := .v (.hnd 0)) (x2 := .v d) (x3 := .v (.int g)) (x4 := .v (tpI one)) (x5 := .v (tpI near)) (x6 := .v (tpI turned)) (x7 := .v (.int one.sum)) (x8 := .v (tpI (flatL one.length one.sum))) (x10 := .v (.str kept)) (x13 := x13) (t := t6) (n := m) (nss := [one, near, turned, flatL one.length one.sum, [one.sum] ++ List.replicate (((one.length : Nat) : Int) - 1).toNat 0, [one[(0 : Int).toNat]?.getD 0 + 1] ++ one.drop 1, last]) (by omega) (fun ms h => (nice ms h).len)
      [one, near, turned, flatL one.length one.sum, [one.sum] ++ List.replicate (((one.length : Nat) : Int) - 1).toNat 0, [one[(0 : Int).toNat]?.getD 0 + 1] ++ one.drop 1, last] x11 x12 (fun ms h => (nice ms h).len)
    have v1 : evenB one turned = true := (even_iff (by rw [n1.len, n3.len])).mpr ⟨(perm_sum p5).symm, fun k hk => top_perm p5.symm hk⟩
    have v2 : evenB (flatL one.length one.sum) near = true := (even_iff (by rw [n4.len, n2.len])).mpr ⟨by rw [flat_sum (by omega), Int.mul_ediv_add_emod, s4], fun k hk =>
      flat_top (q := one.sum / one.length) (r := one.sum % one.length) (by rw [n4.len, n2.len]) (fun x h => flat_in h) (by rw [flat_sum (by omega), flat_len]) (by rw [flat_sum (by omega), Int.mul_ediv_add_emod, s4]) hk⟩
    have w1 := even_eq (xs := one) (ys := turned) (t := t6)
    have w2 := even_eq (xs := flatL one.length one.sum) (ys := near) (t := t6)
    rw [v1] at w1
    rw [v2] at w2
    have b0 := v_ix_t (atI_map (a := one) (i := 0) (by omega) (by omega))
    have b1 := v_mul_one (x := 0) (k := (one.length : Int) - 1) (by omega) (by omega)
    have b2 : addD (.tup [.int one.sum]) (.tup ((List.replicate (((one.length : Nat) : Int) - 1).toNat 0).map D.int)) = some (.tup (([one.sum] ++ List.replicate (((one.length : Nat) : Int) - 1).toNat 0).map D.int), false) := v_add_tpI (a := [one.sum]) (by simp [LEN]; omega)
    have b3 : addD (.tup [.int (one[(0 : Int).toNat]?.getD 0 + 1)]) (.tup ((one.drop 1).map D.int)) = some (.tup (([one[(0 : Int).toNat]?.getD 0 + 1] ++ one.drop 1).map D.int), false) := v_add_tpI (a := [one[(0 : Int).toNat]?.getD 0 + 1]) (by simp [LEN]; omega)
    have b4 : cutL (one.map D.int) (some 1) none = (one.drop 1).map D.int := by rw [cut1, List.map_drop]
    have b5 : (rngL 0 (m : Int)).length ≤ 100000 := by rw [rngL_len]; omega
    have b6 : (rngL 0 (one.length : Int)).length ≤ 100000 := by rw [rngL_len]; omega
    have fl := lc_flat (x0 := .no) (x1 := .v (.hnd 0)) (x2 := .v d) (x3 := .v (.int g)) (x5 := .v (tpI near)) (x6 := .v (tpI turned)) (x8 := unown x8) (x9 := unown x9) (x10 := unown x10) (x11 := unown x11) (x12 := unown x12) (x13 := .no) (ns := one) (total := one.sum) (t := t5) (by omega) (by omega)
    refine ⟨_, ([.no, .v (.hnd 0), .v d, .v (.int g), .v (tpI one), .v (tpI near), .v (tpI turned), .v (.int one.sum), .v (tpI (flatL one.length one.sum)), .v (.lst ([one, near, turned, flatL one.length one.sum, [one.sum] ++ List.replicate (((one.length : Nat) : Int) - 1).toNat 0, [one[(0 : Int).toNat]?.getD 0 + 1] ++ one.drop 1, last].map tpI)), .v (.str kept), y, z, x13], t6), rfl, ?_, _, _, _, _, _, _, _, _, _, _, _, _, rfl, by simp only; omega⟩
    simp only [fdA, List.map_cons, List.map_nil, List.length_cons, List.length_nil, List.cons_append, List.nil_append, List.replicate_succ, List.replicate_zero, Nat.zero_add, Nat.reduceAdd, Nat.reduceSub, Nat.sub_self, if_true, if_false, Bool.false_eq_true, Bool.not_true, Bool.not_false, reduceCtorEq, ite_true, ite_false, List.getElem?_cons_zero, List.getElem?_cons_succ, List.set_cons_zero, List.set_cons_succ, LEN, Nat.reduceLeDiff, Option.map_some, fvA, List.length_map, List.length_set, decide_true, decide_false, fhA, List.mem_cons, List.not_mem_nil, or_false, or_true, Nat.reduceEqDiff, Nat.succ_ne_self, v_pow, q1', q2, hm, v_rng1 (j := m) (small_of (by omega)), b5, q3, q4, q5, v_rng1 (j := one.length) (small_of (by omega)), b6, fl, b1, b2, b0, b4, b3]
    simp only [tpI, List.map_cons, List.map_nil, List.cons_append, List.nil_append] at qr ql w1 w2 q6 ⊢
    simp only [fdA, List.map_cons, List.map_nil, List.length_cons, List.length_nil, List.cons_append, List.nil_append, List.replicate_succ, List.replicate_zero, Nat.zero_add, Nat.reduceAdd, Nat.reduceSub, Nat.sub_self, if_true, if_false, Bool.false_eq_true, Bool.not_true, Bool.not_false, reduceCtorEq, ite_true, ite_false, List.getElem?_cons_zero, List.getElem?_cons_succ, List.set_cons_zero, List.set_cons_succ, LEN, Nat.reduceLeDiff, Option.map_some, fvA, List.length_map, List.length_set, decide_true, decide_false, fhA, List.mem_cons, List.not_mem_nil, or_false, or_true, Nat.reduceEqDiff, Nat.succ_ne_self, q6, v_app, Nat.reduceLT, qr, ql, w1, w2]
  · rintro s' ⟨x2, x3, x4, x5, x6, x7, x8, x9, x10, x11, x12, x13, e, hc⟩
    exact ⟨s', by simp only [fdA, List.map_cons, List.map_nil, List.length_cons, List.length_nil, List.cons_append, List.nil_append, List.replicate_succ, List.replicate_zero, Nat.zero_add, Nat.reduceAdd, Nat.reduceSub, Nat.sub_self, if_true, if_false, Bool.false_eq_true, Bool.not_true, Bool.not_false, reduceCtorEq, ite_true, ite_false, List.getElem?_cons_zero, List.getElem?_cons_succ, List.set_cons_zero, List.set_cons_succ, LEN, Nat.reduceLeDiff, Option.map_some, fvA, List.length_map, List.length_set, decide_true, decide_false, fhA, List.mem_cons, List.not_mem_nil, or_false, or_true, Nat.reduceEqDiff, Nat.succ_ne_self]⟩
end FD

namespace FD
open PySem PySem.Spec PyProof.Rows L2
theorem all_mk {P : Program} {w : World} {K : PySem.W.Frag} {h : Heap} {mg : Str → Option Value} {fa : Addr} (X : K.In h) (G : h.Ns mainGlobals mg) (hfa : mg "law" = some (.ref fa))
    {f0 : Addr} {od0 an0 : Option Addr} {sl0 : Array (Option Value)} {oc0 kV0 dc0 pm0 cd0 ct0 : Value}
    {f1 : Addr} {od1 an1 : Option Addr} {sl1 : Array (Option Value)} {oc1 kV1 dc1 pm1 cd1 ct1 : Value}
    {f2 : Addr} {od2 an2 : Option Addr} {sl2 : Array (Option Value)} {oc2 kV2 dc2 pm2 cd2 ct2 : Value}
    {f3 : Addr} {od3 an3 : Option Addr} {sl3 : Array (Option Value)} {oc3 kV3 dc3 pm3 cd3 ct3 : Value}
    {f4 : Addr} {od4 an4 : Option Addr} {sl4 : Array (Option Value)} {oc4 kV4 dc4 pm4 cd4 ct4 : Value}
    {f5 : Addr} {od5 an5 : Option Addr} {sl5 : Array (Option Value)} {oc5 kV5 dc5 pm5 cd5 ct5 : Value}
    {f6 : Addr} {od6 an6 : Option Addr} {sl6 : Array (Option Value)} {oc6 kV6 dc6 pm6 cd6 ct6 : Value}
    {f7 : Addr} {od7 an7 : Option Addr} {sl7 : Array (Option Value)} {oc7 kV7 dc7 pm7 cd7 ct7 : Value}
    {f8 : Addr} {od8 an8 : Option Addr} {sl8 : Array (Option Value)} {oc8 kV8 dc8 pm8 cd8 ct8 : Value}
    {f9 : Addr} {od9 an9 : Option Addr} {sl9 : Array (Option Value)} {oc9 kV9 dc9 pm9 cd9 ct9 : Value}
    {f10 : Addr} {od10 an10 : Option Addr} {sl10 : Array (Option Value)} {oc10 kV10 dc10 pm10 cd10 ct10 : Value}
    (a0 : PySem.W.nsIn K mainGlobals "is_as_even" = some (some (.ref f0))) (l0 : K.lookup f0 = some ⟨oc0, od0, .func (PySem.W.fnOf "is_as_even" "is_as_even" (defArgs s_is_as_even) (defBody s_is_as_even) (defScope s_is_as_even) .none kV0 dc0 pm0 an0 cd0 ct0), sl0⟩) (c0 : PySem.W.codeIn K cd0 "is_as_even" = true) (k0 : PySem.W.keepIn K (.ref f0) = true)
    (a1 : PySem.W.nsIn K mainGlobals "_law_deck" = some (some (.ref f1))) (l1 : K.lookup f1 = some ⟨oc1, od1, .func (PySem.W.fnOf "_law_deck" "_law_deck" (defArgs s_q_deck) (defBody s_q_deck) (defScope s_q_deck) .none kV1 dc1 pm1 an1 cd1 ct1), sl1⟩) (c1 : PySem.W.codeIn K cd1 "_law_deck" = true) (k1 : PySem.W.keepIn K (.ref f1) = true)
    (a2 : PySem.W.nsIn K mainGlobals "_law_next" = some (some (.ref f2))) (l2 : K.lookup f2 = some ⟨oc2, od2, .func (PySem.W.fnOf "_law_next" "_law_next" (defArgs s_q_next) (defBody s_q_next) (defScope s_q_next) .none kV2 dc2 pm2 an2 cd2 ct2), sl2⟩) (c2 : PySem.W.codeIn K cd2 "_law_next" = true) (k2 : PySem.W.keepIn K (.ref f2) = true)
    (a3 : PySem.W.nsIn K mainGlobals "_law_one" = some (some (.ref f3))) (l3 : K.lookup f3 = some ⟨oc3, od3, .func (PySem.W.fnOf "_law_one" "_law_one" (defArgs s_q_one) (defBody s_q_one) (defScope s_q_one) .none kV3 dc3 pm3 an3 cd3 ct3), sl3⟩) (c3 : PySem.W.codeIn K cd3 "_law_one" = true) (k3 : PySem.W.keepIn K (.ref f3) = true)
    (a4 : PySem.W.nsIn K mainGlobals "_law_same" = some (some (.ref f4))) (l4 : K.lookup f4 = some ⟨oc4, od4, .func (PySem.W.fnOf "_law_same" "_law_same" (defArgs s_q_same) (defBody s_q_same) (defScope s_q_same) .none kV4 dc4 pm4 an4 cd4 ct4), sl4⟩) (c4 : PySem.W.codeIn K cd4 "_law_same" = true) (k4 : PySem.W.keepIn K (.ref f4) = true)
    (a5 : PySem.W.nsIn K mainGlobals "_law_shuffled" = some (some (.ref f5))) (l5 : K.lookup f5 = some ⟨oc5, od5, .func (PySem.W.fnOf "_law_shuffled" "_law_shuffled" (defArgs s_q_shuffled) (defBody s_q_shuffled) (defScope s_q_shuffled) .none kV5 dc5 pm5 an5 cd5 ct5), sl5⟩) (c5 : PySem.W.codeIn K cd5 "_law_shuffled" = true) (k5 : PySem.W.keepIn K (.ref f5) = true)
    (a6 : PySem.W.nsIn K mainGlobals "_law_changed" = some (some (.ref f6))) (l6 : K.lookup f6 = some ⟨oc6, od6, .func (PySem.W.fnOf "_law_changed" "_law_changed" (defArgs s_q_changed) (defBody s_q_changed) (defScope s_q_changed) .none kV6 dc6 pm6 an6 cd6 ct6), sl6⟩) (c6 : PySem.W.codeIn K cd6 "_law_changed" = true) (k6 : PySem.W.keepIn K (.ref f6) = true)
    (a7 : PySem.W.nsIn K mainGlobals "_law_greatest" = some (some (.ref f7))) (l7 : K.lookup f7 = some ⟨oc7, od7, .func (PySem.W.fnOf "_law_greatest" "_law_greatest" (defArgs s_q_greatest) (defBody s_q_greatest) (defScope s_q_greatest) .none kV7 dc7 pm7 an7 cd7 ct7), sl7⟩) (c7 : PySem.W.codeIn K cd7 "_law_greatest" = true) (k7 : PySem.W.keepIn K (.ref f7) = true)
    (a8 : PySem.W.nsIn K mainGlobals "_law_due" = some (some (.ref f8))) (l8 : K.lookup f8 = some ⟨oc8, od8, .func (PySem.W.fnOf "_law_due" "_law_due" (defArgs s_q_due) (defBody s_q_due) (defScope s_q_due) .none kV8 dc8 pm8 an8 cd8 ct8), sl8⟩) (c8 : PySem.W.codeIn K cd8 "_law_due" = true) (k8 : PySem.W.keepIn K (.ref f8) = true)
    (a9 : PySem.W.nsIn K mainGlobals "_law_moved" = some (some (.ref f9))) (l9 : K.lookup f9 = some ⟨oc9, od9, .func (PySem.W.fnOf "_law_moved" "_law_moved" (defArgs s_q_moved) (defBody s_q_moved) (defScope s_q_moved) .none kV9 dc9 pm9 an9 cd9 ct9), sl9⟩) (c9 : PySem.W.codeIn K cd9 "_law_moved" = true) (k9 : PySem.W.keepIn K (.ref f9) = true)
    (a10 : PySem.W.nsIn K mainGlobals "law" = some (some (.ref f10))) (l10 : K.lookup f10 = some ⟨oc10, od10, .func (PySem.W.fnOf "law" "law" (defArgs s_law) (defBody s_law) (defScope s_law) .none kV10 dc10 pm10 an10 cd10 ct10), sl10⟩) (c10 : PySem.W.codeIn K cd10 "law" = true) (k10 : PySem.W.keepIn K (.ref f10) = true)
    (z0 : PySem.W.nsIn K mainGlobals "zip" = some none)
    (z1 : PySem.W.nsIn K mainGlobals "isinstance" = some none)
    (z2 : PySem.W.nsIn K mainGlobals "dict" = some none)
    (z3 : PySem.W.nsIn K mainGlobals "str" = some none)
    (z4 : PySem.W.nsIn K mainGlobals "list" = some none)
    (z5 : PySem.W.nsIn K mainGlobals "tuple" = some none)
    (z6 : PySem.W.nsIn K mainGlobals "max" = some none)
    (z7 : PySem.W.nsIn K mainGlobals "range" = some none)
    (z8 : PySem.W.nsIn K mainGlobals "sum" = some none)
    (z9 : PySem.W.nsIn K mainGlobals "sorted" = some none)
    (z10 : PySem.W.nsIn K mainGlobals "abs" = some none)
    (z11 : PySem.W.nsIn K mainGlobals "int" = some none)
    (z12 : PySem.W.nsIn K mainGlobals "repr" = some none)
    (z13 : PySem.W.nsIn K mainGlobals "len" = some none)
    (z14 : PySem.W.nsIn K mainGlobals "bool" = some none)
    : ∃ fd : FuncData, (∀ (s : Shared) (v : Value), BindsTo s fd ⟨[v], []⟩ [("_law_script", v)]) ∧ ∀ base : Heap, K.In base → base.Ns mainGlobals mg → FnG P w K mg base (L2.CX P w) 13 fa fd p_law (sp_law K) := by
  have e := hfa.symm.trans (PySem.W.mg_of X G a10)
  cases e
  have F0 := fun_mk (st := s_is_as_even) l0 c0 k0
  have b0 := F0.binds (ps := p_is_as_even) fun _ _ _ _ _ _ us hl => match us, hl with | [_, _], _ => rfl
  have F1 := fun_mk (st := s_q_deck) l1 c1 k1
  have b1 := F1.binds (ps := p_q_deck) fun _ _ _ _ _ _ us hl => match us, hl with | [_], _ => rfl
  have F2 := fun_mk (st := s_q_next) l2 c2 k2
  have b2 := F2.binds (ps := p_q_next) fun _ _ _ _ _ _ us hl => match us, hl with | [_, _], _ => rfl
  have F3 := fun_mk (st := s_q_one) l3 c3 k3
  have b3 := F3.binds (ps := p_q_one) fun _ _ _ _ _ _ us hl => match us, hl with | [_, _], _ => rfl
  have F4 := fun_mk (st := s_q_same) l4 c4 k4
  have b4 := F4.binds (ps := p_q_same) fun _ _ _ _ _ _ us hl => match us, hl with | [_, _], _ => rfl
  have F5 := fun_mk (st := s_q_shuffled) l5 c5 k5
  have b5 := F5.binds (ps := p_q_shuffled) fun _ _ _ _ _ _ us hl => match us, hl with | [_, _], _ => rfl
  have F6 := fun_mk (st := s_q_changed) l6 c6 k6
  have b6 := F6.binds (ps := p_q_changed) fun _ _ _ _ _ _ us hl => match us, hl with | [_, _, _], _ => rfl
  have F7 := fun_mk (st := s_q_greatest) l7 c7 k7
  have b7 := F7.binds (ps := p_q_greatest) fun _ _ _ _ _ _ us hl => match us, hl with | [_, _], _ => rfl
  have F8 := fun_mk (st := s_q_due) l8 c8 k8
  have b8 := F8.binds (ps := p_q_due) fun _ _ _ _ _ _ us hl => match us, hl with | [_, _], _ => rfl
  have F9 := fun_mk (st := s_q_moved) l9 c9 k9
  have b9 := F9.binds (ps := p_q_moved) fun _ _ _ _ _ _ us hl => match us, hl with | [_, _], _ => rfl
  have F10 := fun_mk (st := s_law) l10 c10 k10
  have b10 := F10.binds (ps := p_law) fun _ _ _ _ _ _ us hl => match us, hl with | [_], _ => rfl
  let T : Txt K mg := {
    a_is_as_even := f0, d_is_as_even := _, F_is_as_even := F0, b_is_as_even := b0, g_is_as_even := PySem.W.mg_of X G a0,
    a_q_deck := f1, d_q_deck := _, F_q_deck := F1, b_q_deck := b1, g_q_deck := PySem.W.mg_of X G a1,
    a_q_next := f2, d_q_next := _, F_q_next := F2, b_q_next := b2, g_q_next := PySem.W.mg_of X G a2,
    a_q_one := f3, d_q_one := _, F_q_one := F3, b_q_one := b3, g_q_one := PySem.W.mg_of X G a3,
    a_q_same := f4, d_q_same := _, F_q_same := F4, b_q_same := b4, g_q_same := PySem.W.mg_of X G a4,
    a_q_shuffled := f5, d_q_shuffled := _, F_q_shuffled := F5, b_q_shuffled := b5, g_q_shuffled := PySem.W.mg_of X G a5,
    a_q_changed := f6, d_q_changed := _, F_q_changed := F6, b_q_changed := b6, g_q_changed := PySem.W.mg_of X G a6,
    a_q_greatest := f7, d_q_greatest := _, F_q_greatest := F7, b_q_greatest := b7, g_q_greatest := PySem.W.mg_of X G a7,
    a_q_due := f8, d_q_due := _, F_q_due := F8, b_q_due := b8, g_q_due := PySem.W.mg_of X G a8,
    a_q_moved := f9, d_q_moved := _, F_q_moved := F9, b_q_moved := b9, g_q_moved := PySem.W.mg_of X G a9,
    a_law := fa, d_law := _, F_law := F10, b_law := b10, g_law := PySem.W.mg_of X G a10,
    m_zip := PySem.W.mg_none_of X G z0, m_isinstance := PySem.W.mg_none_of X G z1, m_dict := PySem.W.mg_none_of X G z2, m_str := PySem.W.mg_none_of X G z3, m_list := PySem.W.mg_none_of X G z4, m_tuple := PySem.W.mg_none_of X G z5, m_max := PySem.W.mg_none_of X G z6, m_range := PySem.W.mg_none_of X G z7, m_sum := PySem.W.mg_none_of X G z8, m_sorted := PySem.W.mg_none_of X G z9, m_abs := PySem.W.mg_none_of X G z10, m_int := PySem.W.mg_none_of X G z11, m_repr := PySem.W.mg_none_of X G z12, m_len := PySem.W.mg_none_of X G z13, m_bool := PySem.W.mg_none_of X G z14 }
  exact ⟨_, fun s v => .of_eq rfl, fun base _ _ => ok_law T (fun _ => 0) pure_law⟩
end FD
open PySem PySem.W PyProof.Rows
set_option maxHeartbeats 0 in
theorem PySem.Challenge.cw_groupcaps_k41_evenness_judged_holds : PySem.Challenge.rw_groupcaps_k41_evenness_judged.Holds := by
  w_on; o_law; k_head; (case hw => w_witness2)
  k_fill
  refine FD.walkG (l := PySem.Challenge.rw_groupcaps_k41_evenness_judged) (n := 63) (k := 13) (x := "_law_script") (CX := fun w => L2.CX (PySem.Challenge.rw_groupcaps_k41_evenness_judged).prog w) (sp := fun w => FD.sp_law _) rfl (by decide) rfl ⟨rfl, by decide, by decide⟩ (fun w h Y => PySem.W.kIn_of Y) ?F (fun _ _ a ns hl hS => ⟨a, ns, rfl, hS, hl, fun _ => rfl⟩) (fun _ _ _ _ _ h => FD.noCX _ _ _ _ h)
  case F =>
    intro w mg fa h KX G hmg
    refine' FD.all_mk KX G hmg ?a0 ?l0 ?c0 ?k0 ?a1 ?l1 ?c1 ?k1 ?a2 ?l2 ?c2 ?k2 ?a3 ?l3 ?c3 ?k3 ?a4 ?l4 ?c4 ?k4 ?a5 ?l5 ?c5 ?k5 ?a6 ?l6 ?c6 ?k6 ?a7 ?l7 ?c7 ?k7 ?a8 ?l8 ?c8 ?k8 ?a9 ?l9 ?c9 ?k9 ?a10 ?l10 ?c10 ?k10 ?z0 ?z1 ?z2 ?z3 ?z4 ?z5 ?z6 ?z7 ?z8 ?z9 ?z10 ?z11 ?z12 ?z13 ?z14
    (case a0 => k_is); (case l0 => k_is); (case c0 => k_is); (case k0 => k_is); (case a1 => k_is); (case l1 => k_is); (case c1 => k_is); (case k1 => k_is); (case a2 => k_is); (case l2 => k_is); (case c2 => k_is); (case k2 => k_is); (case a3 => k_is); (case l3 => k_is); (case c3 => k_is); (case k3 => k_is); (case a4 => k_is); (case l4 => k_is); (case c4 => k_is); (case k4 => k_is); (case a5 => k_is); (case l5 => k_is); (case c5 => k_is); (case k5 => k_is); (case a6 => k_is); (case l6 => k_is); (case c6 => k_is); (case k6 => k_is); (case a7 => k_is); (case l7 => k_is); (case c7 => k_is); (case k7 => k_is); (case a8 => k_is); (case l8 => k_is); (case c8 => k_is); (case k8 => k_is); (case a9 => k_is); (case l9 => k_is); (case c9 => k_is); (case k9 => k_is); (case a10 => k_is); (case l10 => k_is); (case c10 => k_is); (case k10 => k_is); (case z0 => k_is); (case z1 => k_is); (case z2 => k_is); (case z3 => k_is); (case z4 => k_is); (case z5 => k_is); (case z6 => k_is); (case z7 => k_is); (case z8 => k_is); (case z9 => k_is); (case z10 => k_is); (case z11 => k_is); (case z12 => k_is); (case z13 => k_is); (case z14 => k_is)


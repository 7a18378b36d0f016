import PyProof.Rows.All
import Wide.All
import OpenK.AllK
import Wide.FinOn
import HandS.ForMost
import HandS.ForExc
import HandS.Gcd
import HandS.Wide
import HandS.IsInst
import HandS.Flt
import HandS.CallSlots
import KE.KExcInit
import HandS.ExcInit
import HandS.ExcField
import HandS.FStr
import HandS.SortInts
import HandS.More
import HandS.Deep
import KE.KMathG
import HandS.WideBits
import HandS.Text
import HandS.RaiseMore
import HandS.Conv
import KE.SortData
import HandS.TryMany
import PySem.Challenge.RW_pageshares_k43_factors
set_option Elab.async false
set_option linter.all false
set_option maxRecDepth 100000
set_option autoImplicit false
set_option maxHeartbeats 4000000
/-! # Dv: what a def does, told over plain data. Expressions give data, statements turn an environment of data; the heap is hidden.
    as: the addresses of the lists that may still be changed (a dead one is none), ms: their items. -/
namespace Dv
open PySem PySem.Spec L2
/-- where the class with this name stands -/
def clsA (K : PySem.W.Frag) (n : Str) : Addr := match PySem.W.nsIn K mainGlobals n with
  | some (some (.ref a)) => a
  | _ => default
/-! ### data -/
inductive Dt where
  | non | bl (b : Bool) | int (i : Int) | str (s : Str) | lst (xs : List Dt) | tup (xs : List Dt) | obj (C : Str) (fs : List (Str × Dt))
  deriving Inhabited
mutual
inductive Rp (K : PySem.W.Frag) (H : Hp) : V → Dt → Prop
  | non : Rp K H .non .non
  | bl (b : Bool) : Rp K H (.bl b) (.bl b)
  | int (i : Int) : Rp K H (.int i) (.int i)
  | str (s : Str) : Rp K H (.str s) (.str s)
  | lst {a : Addr} {xs : List V} {ds : List Dt} : SqL K H a xs → RpA K H xs ds → Rp K H (.ref a) (.lst ds)
  | tup {a : Addr} {xs : List V} {ds : List Dt} : SqT K H a xs → RpA K H xs ds → Rp K H (.ref a) (.tup ds)
  | obj {a dx : Addr} {C : Str} {fs : List (Str × V)} {gs : List (Str × Dt)} : H a = some (.ins (clsA K C) dx fs) → RpF K H fs gs → Rp K H (.ref a) (.obj C gs)
inductive RpA (K : PySem.W.Frag) (H : Hp) : List V → List Dt → Prop
  | nil : RpA K H [] []
  | cons {v : V} {d : Dt} {vs : List V} {ds : List Dt} : Rp K H v d → RpA K H vs ds → RpA K H (v :: vs) (d :: ds)
inductive RpF (K : PySem.W.Frag) (H : Hp) : List (Str × V) → List (Str × Dt) → Prop
  | nil : RpF K H [] []
  | cons {f : Str} {v : V} {d : Dt} {vs : List (Str × V)} {ds : List (Str × Dt)} : Rp K H v d → RpF K H vs ds → RpF K H ((f, v) :: vs) ((f, d) :: ds)
end
section
variable {K : PySem.W.Frag} {H H' : Hp}
theorem sqT_same {a : Addr} {xs : List V} (e : Same H H') (h : SqT K H a xs) : SqT K H' a xs := by
  rcases h with h | h
  · rcases h with h | ⟨o, h⟩
    · exact .inl (.inl (e _ _ h))
    · exact .inl (.inr ⟨o, e _ _ h⟩)
  · exact .inr h
mutual
theorem Rp.mono (e : Same H H') : ∀ {v : V} {d : Dt}, Rp K H v d → Rp K H' v d
  | _, _, .non => .non
  | _, _, .bl b => .bl b
  | _, _, .int i => .int i
  | _, _, .str s => .str s
  | _, _, .lst h r => .lst (e.seq h) (RpA.mono e r)
  | _, _, .tup h r => .tup (sqT_same e h) (RpA.mono e r)
  | _, _, .obj h r => .obj (e _ _ h) (RpF.mono e r)
theorem RpA.mono (e : Same H H') : ∀ {vs : List V} {ds : List Dt}, RpA K H vs ds → RpA K H' vs ds
  | _, _, .nil => .nil
  | _, _, .cons h r => .cons (Rp.mono e h) (RpA.mono e r)
theorem RpF.mono (e : Same H H') : ∀ {vs : List (Str × V)} {ds : List (Str × Dt)}, RpF K H vs ds → RpF K H' vs ds
  | _, _, .nil => .nil
  | _, _, .cons h r => .cons (Rp.mono e h) (RpF.mono e r)
end
theorem RpA.len : ∀ {vs : List V} {ds : List Dt}, RpA K H vs ds → vs.length = ds.length
  | _, _, .nil => rfl
  | _, _, .cons _ r => congrArg Nat.succ (RpA.len r)
theorem RpA.get : ∀ {vs : List V} {ds : List Dt} {i : Nat} {d : Dt}, RpA K H vs ds → ds[i]? = some d → ∃ v, vs[i]? = some v ∧ Rp K H v d
  | _, _, _, _, .nil, h => by simp at h
  | _, _, 0, d, .cons r _, h => by
    simp at h
    subst h
    exact ⟨_, rfl, r⟩
  | _, _, i + 1, d, .cons _ t, h => by
    obtain ⟨v, h1, h2⟩ := RpA.get (i := i) (d := d) t (by simpa using h)
    exact ⟨v, by simpa using h1, h2⟩
theorem RpA.get' : ∀ {vs : List V} {ds : List Dt} {i : Nat} {v : V}, RpA K H vs ds → vs[i]? = some v → ∃ d, ds[i]? = some d ∧ Rp K H v d
  | _, _, _, _, .nil, h => by simp at h
  | _, _, 0, d, .cons r _, h => by
    simp at h
    subst h
    exact ⟨_, rfl, r⟩
  | _, _, i + 1, d, .cons _ t, h => by
    obtain ⟨v, h1, h2⟩ := RpA.get' (i := i) t (by simpa using h)
    exact ⟨v, by simpa using h1, h2⟩
theorem RpA.set {v : V} {d : Dt} (h : Rp K H v d) : ∀ {vs : List V} {ds : List Dt} (i : Nat), RpA K H vs ds → RpA K H (vs.set i v) (ds.set i d)
  | _, _, _, .nil => .nil
  | _, _, 0, .cons _ t => .cons h t
  | _, _, i + 1, .cons r t => .cons r (RpA.set h i t)
theorem RpA.app : ∀ {vs us : List V} {ds cs : List Dt}, RpA K H vs ds → RpA K H us cs → RpA K H (vs ++ us) (ds ++ cs)
  | _, _, _, _, .nil, s => s
  | _, _, _, _, .cons r t, s => .cons r (RpA.app t s)
theorem RpA.one {v : V} {d : Dt} (h : Rp K H v d) : RpA K H [v] [d] := .cons h .nil
theorem RpA.take : ∀ {vs : List V} {ds : List Dt} (n : Nat), RpA K H vs ds → RpA K H (vs.take n) (ds.take n)
  | _, _, 0, _ => .nil
  | _, _, _ + 1, .nil => .nil
  | _, _, n + 1, .cons r t => .cons r (RpA.take n t)
theorem RpA.drop : ∀ {vs : List V} {ds : List Dt} (n : Nat), RpA K H vs ds → RpA K H (vs.drop n) (ds.drop n)
  | _, _, 0, r => r
  | _, _, _ + 1, .nil => .nil
  | _, _, n + 1, .cons _ t => RpA.drop n t
theorem RpA.ints : ∀ {vs : List V} {ns : List Int}, RpA K H vs (ns.map Dt.int) → vs = ns.map V.int
  | _, [], .nil => rfl
  | _, n :: ns, .cons (.int _) r => congrArg (V.int n :: ·) (RpA.ints r)
theorem RpA.ofInts : ∀ (ns : List Int), RpA K H (ns.map V.int) (ns.map Dt.int)
  | [] => .nil
  | n :: ns => .cons (.int n) (RpA.ofInts ns)
theorem RpA.bls : ∀ {vs : List V} {ns : List Bool}, RpA K H vs (ns.map Dt.bl) → vs = ns.map V.bl
  | _, [], .nil => rfl
  | _, n :: ns, .cons (.bl _) r => congrArg (V.bl n :: ·) (RpA.bls r)
end
/-! ### the hidden lists -/
structure Xc where
  C : Str
  fs : List (Str × Dt)
def XcR (K : PySem.W.Frag) (H : Hp) (cls : Value) (d : Option Addr) (x : Xc) : Prop := cls = .ref (clsA K x.C) ∧ ∃ a fs, d = some a ∧ H a = some (.xd fs) ∧ RpF K H fs x.fs
theorem XcR.mono {K : PySem.W.Frag} {H H' : Hp} {cls : Value} {d : Option Addr} {x : Xc} (e : Same H H') (h : XcR K H cls d x) : XcR K H' cls d x := by
  obtain ⟨h1, a, fs, h2, h3, h4⟩ := h
  exact ⟨h1, a, fs, h2, e _ _ h3, h4.mono e⟩
/-- what a slot holds: a datum, a list of ours, an exception that is handled -/
inductive Sv where
  | d (x : Dt) | m (k : Nat) | x (a : Addr) (cls : Value) (dd : Option Addr) (x : Xc) | u
/-- a thing of ours: a list, or an object -/
inductive Cell where
  | l (ss : List Sv) | o (C : Str) (fs : List (Str × Sv))
def Cell.all : Cell → List Sv
  | .l ss => ss
  | .o _ fs => fs.map (·.2)
def Cell.map (f : Sv → Sv) : Cell → Cell
  | .l ss => .l (ss.map f)
  | .o C fs => .o C (fs.map fun p => (p.1, f p.2))
abbrev As := List (Option Addr)
abbrev Ms := List (Option Cell)
abbrev Es := List (Option Sv)
def hid (as : As) (H : Hp) : Hp := fun a => if some a ∈ as then none else H a
theorem hid_of {as : As} {H : Hp} {a : Addr} {o : HO} (h : hid as H a = some o) : H a = some o ∧ some a ∉ as := by
  unfold hid at h
  split at h
  · cases h
  · exact ⟨h, ‹_›⟩
theorem hid_to {as : As} {H : Hp} {a : Addr} {o : HO} (h : H a = some o) (n : some a ∉ as) : hid as H a = some o := by
  unfold hid
  rw [if_neg n]
  exact h
theorem hid_sub {as : As} {H : Hp} : Same (hid as H) H := fun _ _ h => (hid_of h).1
theorem hid_less {as bs : As} {H : Hp} (h : ∀ a, some a ∈ as → some a ∈ bs) : Same (hid bs H) (hid as H) := fun _ _ e =>
  hid_to (hid_of e).1 fun z => (hid_of e).2 (h _ z)
def ValR (K : PySem.W.Frag) (as : As) (H : Hp) : V → Sv → Prop
  | v, .d x => Rp K (hid as H) v x
  | v, .m k => ∃ a, as[k]? = some (some a) ∧ v = .ref a
  | v, .x a cls dd x => v = .ref a ∧ XcR K (hid as H) cls dd x
  | _, .u => True
inductive ArR (K : PySem.W.Frag) (as : As) (H : Hp) : List V → List Sv → Prop
  | nil : ArR K as H [] []
  | cons {v : V} {sv : Sv} {vs : List V} {ss : List Sv} : ValR K as H v sv → ArR K as H vs ss → ArR K as H (v :: vs) (sv :: ss)
inductive FsR (K : PySem.W.Frag) (as : As) (H : Hp) : List (Str × V) → List (Str × Sv) → Prop
  | nil : FsR K as H [] []
  | cons {f : Str} {v : V} {sv : Sv} {vs : List (Str × V)} {ss : List (Str × Sv)} : ValR K as H v sv → FsR K as H vs ss → FsR K as H ((f, v) :: vs) ((f, sv) :: ss)
/-- the thing at an address -/
def CellR (K : PySem.W.Frag) (as : As) (H : Hp) : HO → Cell → Prop
  | h, .l ss => ∃ vs, h = .lst vs ∧ ArR K as H vs ss
  | h, .o C fs => ∃ dx gs, h = .ins (clsA K C) dx gs ∧ FsR K as H gs fs
structure MsR (K : PySem.W.Frag) (as : As) (ms : Ms) (H : Hp) : Prop where
  len : ms.length = as.length
  uniq : ∀ (i j : Nat) (a : Addr), as[i]? = some (some a) → as[j]? = some (some a) → i = j
  is : ∀ (i : Nat) (a : Addr), as[i]? = some (some a) → ∃ c h, ms[i]? = some (some c) ∧ H a = some h ∧ CellR K as H h c
  no : ∀ (i : Nat), as[i]? = some none → ms[i]? = some none
structure Sr (K : PySem.W.Frag) (as : As) (es : Es) (ms : Ms) (σ : St) (H : Hp) : Prop where
  len : es.length = σ.length
  env : ∀ (i : Nat) (sv : Sv), es[i]? = some (some sv) → ∃ v, σ[i]? = some (some v) ∧ ValR K as H v sv
  mem : MsR K as ms H
section
variable {K : PySem.W.Frag} {as as' : As} {es es' : Es} {ms ms' : Ms} {σ : St} {H H' : Hp} {v : V} {sv : Sv} {d : Dt}
theorem ValR.grow (e : Same (hid as H) (hid as' H')) (g : ∀ (k : Nat) (a : Addr), as[k]? = some (some a) → as'[k]? = some (some a)) : ∀ {v : V} {sv : Sv}, ValR K as H v sv → ValR K as' H' v sv
  | _, .d _, h => Rp.mono e h
  | _, .m _, ⟨a, h1, h2⟩ => ⟨a, g _ a h1, h2⟩
  | _, .x _ _ _ _, h => ⟨h.1, h.2.mono e⟩
  | _, .u, _ => True.intro
theorem ValR.mono (e : Same (hid as H) (hid as H')) {v : V} {sv : Sv} (h : ValR K as H v sv) : ValR K as H' v sv := h.grow e fun _ _ z => z
theorem ArR.grow (e : Same (hid as H) (hid as' H')) (g : ∀ (k : Nat) (a : Addr), as[k]? = some (some a) → as'[k]? = some (some a)) : ∀ {vs : List V} {ss : List Sv}, ArR K as H vs ss → ArR K as' H' vs ss
  | _, _, .nil => .nil
  | _, _, .cons h r => .cons (h.grow e g) (ArR.grow e g r)
theorem ArR.mono (e : Same (hid as H) (hid as H')) {vs : List V} {ss : List Sv} (h : ArR K as H vs ss) : ArR K as H' vs ss := h.grow e fun _ _ z => z
theorem FsR.grow (e : Same (hid as H) (hid as' H')) (g : ∀ (k : Nat) (a : Addr), as[k]? = some (some a) → as'[k]? = some (some a)) : ∀ {vs : List (Str × V)} {ss : List (Str × Sv)}, FsR K as H vs ss → FsR K as' H' vs ss
  | _, _, .nil => .nil
  | _, _, .cons h r => .cons (h.grow e g) (FsR.grow e g r)
theorem CellR.grow (e : Same (hid as H) (hid as' H')) (g : ∀ (k : Nat) (a : Addr), as[k]? = some (some a) → as'[k]? = some (some a)) : ∀ {h : HO} {c : Cell}, CellR K as H h c → CellR K as' H' h c
  | _, .l _, ⟨vs, h1, h2⟩ => ⟨vs, h1, h2.grow e g⟩
  | _, .o _ _, ⟨dx, gs, h1, h2⟩ => ⟨dx, gs, h1, h2.grow e g⟩
theorem CellR.mono (e : Same (hid as H) (hid as H')) {h : HO} {c : Cell} (r : CellR K as H h c) : CellR K as H' h c := r.grow e fun _ _ z => z
theorem ArR.len : ∀ {vs : List V} {ss : List Sv}, ArR K as H vs ss → vs.length = ss.length
  | _, _, .nil => rfl
  | _, _, .cons _ r => congrArg Nat.succ (ArR.len r)
theorem ArR.data : ∀ {vs : List V} {ds : List Dt}, ArR K as H vs (ds.map Sv.d) → RpA K (hid as H) vs ds
  | _, [], .nil => .nil
  | _, _ :: _, .cons h r => .cons h (ArR.data r)
theorem ArR.of : ∀ {vs : List V} {ds : List Dt}, RpA K (hid as H) vs ds → ArR K as H vs (ds.map Sv.d)
  | _, [], .nil => .nil
  | _, _ :: _, .cons h r => .cons h (ArR.of r)
theorem as_more {p : Addr} (k : Nat) (a : Addr) (h : as[k]? = some (some a)) : (as ++ [some p])[k]? = some (some a) := by
  rw [List.getElem?_append_left (List.getElem?_eq_some_iff.mp h).1]
  exact h
theorem Sr.step (s : Sr K as es ms σ H) (m : MsR K as ms' H') (e : Same (hid as H) (hid as H')) : Sr K as es ms' σ H' :=
  ⟨s.len, fun i sv h => let ⟨v, h1, h2⟩ := s.env i sv h; ⟨v, h1, h2.mono e⟩, m⟩
/-- a slot stored -/
theorem Sr.set (s : Sr K as es ms σ H) (i : Nat) (r : ValR K as H v sv) : Sr K as (es.set i (some sv)) ms (σ.set i (some v)) H := by
  refine ⟨by rw [List.length_set, List.length_set]; exact s.len, fun j sw h => ?_, s.mem⟩
  by_cases c : i = j
  · subst c
    have hl : i < es.length := by
      have := (List.getElem?_eq_some_iff.mp h).1
      rwa [List.length_set] at this
    rw [List.getElem?_set_self hl] at h
    cases h
    exact ⟨v, List.getElem?_set_self (by rw [← s.len]; exact hl), r⟩
  · rw [List.getElem?_set_ne c] at h
    rw [List.getElem?_set_ne c]
    exact s.env j sw h
theorem MsR.there (m : MsR K as ms H) {a : Addr} (h : some a ∈ as) : ∃ o, H a = some o := by
  obtain ⟨i, hi⟩ := List.getElem?_of_mem h
  obtain ⟨ds, vs, _, hv, _⟩ := m.is i a hi
  exact ⟨vs, hv⟩
/-- the list of ours -/
theorem MsR.list (m : MsR K as ms H) {i : Nat} {a : Addr} {ss : List Sv} (h : as[i]? = some (some a)) (hm : ms[i]? = some (some (.l ss))) : ∃ vs, H a = some (.lst vs) ∧ ArR K as H vs ss := by
  obtain ⟨c, o, h1, h2, h3⟩ := m.is i a h
  rw [hm] at h1
  cases h1
  obtain ⟨vs, rfl, r⟩ := h3
  exact ⟨vs, h2, r⟩
/-- the object of ours -/
theorem MsR.obj (m : MsR K as ms H) {i : Nat} {a : Addr} {C : Str} {fs : List (Str × Sv)} (h : as[i]? = some (some a)) (hm : ms[i]? = some (some (.o C fs))) : ∃ dx gs, H a = some (.ins (clsA K C) dx gs) ∧ FsR K as H gs fs := by
  obtain ⟨c, o, h1, h2, h3⟩ := m.is i a h
  rw [hm] at h1
  cases h1
  obtain ⟨dx, gs, rfl, r⟩ := h3
  exact ⟨dx, gs, h2, r⟩
theorem MsR.fresh (m : MsR K as ms H) {a : Addr} (h : H a = none) : some a ∉ as := fun z => by
  obtain ⟨vs, hv⟩ := m.there z
  rw [h] at hv
  cases hv
/-- a new thing that is no list of ours -/
theorem MsR.new (m : MsR K as ms H) {p : Addr} {o : HO} (h : H p = none) : MsR K as ms (upd H p o) ∧ Same (hid as H) (hid as (upd H p o)) := by
  have e : Same (hid as H) (hid as (upd H p o)) := fun a u q => hid_to (by rw [upd_ne (ne_of_none (hid_of q).1 h)]; exact (hid_of q).1) (hid_of q).2
  refine ⟨⟨m.len, m.uniq, fun i a hi => ?_, m.no⟩, e⟩
  obtain ⟨ds, vs, h1, h2, h3⟩ := m.is i a hi
  exact ⟨ds, vs, h1, by rw [upd_ne (ne_of_none h2 h)]; exact h2, h3.mono e⟩
theorem MsR.at_new (m : MsR K as ms H) {p : Addr} {o : HO} (h : H p = none) : hid as (upd H p o) p = some o := hid_to upd_same (m.fresh h)
/-- nothing in it points at a list of ours from the n-th on -/
def Low (n : Nat) (ss : List Sv) : Prop := ∀ k : Nat, .m k ∈ ss → k < n
def Lows (n : Nat) (ms : Ms) : Prop := ∀ (i : Nat) (c : Cell), ms[i]? = some (some c) → Low n c.all
theorem ArR.low : ∀ {vs : List V} {ss : List Sv}, ArR K as H vs ss → Low as.length ss
  | _, _, .nil => fun k h => by cases h
  | _, _, .cons (sv := sv) h r => fun k hk => by
    rcases List.mem_cons.mp hk with z | z
    · subst z
      obtain ⟨a, h1, _⟩ := h
      exact (List.getElem?_eq_some_iff.mp h1).1
    · exact ArR.low r k z
theorem FsR.low : ∀ {vs : List (Str × V)} {ss : List (Str × Sv)}, FsR K as H vs ss → Low as.length (ss.map (·.2))
  | _, _, .nil => fun k h => by cases h
  | _, _, .cons (sv := sv) h r => fun k hk => by
    rcases List.mem_cons.mp hk with z | z
    · subst z
      obtain ⟨a, h1, _⟩ := h
      exact (List.getElem?_eq_some_iff.mp h1).1
    · exact FsR.low r k z
theorem CellR.low : ∀ {h : HO} {c : Cell}, CellR K as H h c → Low as.length c.all
  | _, .l _, ⟨_, _, r⟩ => r.low
  | _, .o _ _, ⟨_, _, _, r⟩ => r.low
theorem MsR.lows (m : MsR K as ms H) : Lows as.length ms := fun i ss h => by
  cases q : as[i]? with
  | none =>
    have c := (List.getElem?_eq_some_iff.mp h).1
    have := List.getElem?_eq_none_iff.mp q
    rw [m.len] at c
    omega
  | some o =>
    cases o with
    | none =>
      rw [m.no i q] at h
      cases h
    | some a =>
      obtain ⟨ds, vs, h1, _, h3⟩ := m.is i a q
      rw [h] at h1
      cases h1
      exact h3.low
/-- a list that stands at p, and that nothing else holds -/
structure New (K : PySem.W.Frag) (as : As) (H : Hp) (ss : List Sv) (ms : Ms) (p : Addr) (H' : Hp) : Prop where
  free : H p = none
  mem : MsR K (as ++ [some p]) (ms ++ [some (.l ss)]) H'
  same : Same (hid as H) (hid (as ++ [some p]) H')
  lows : Lows as.length ms
  low : Low as.length ss
theorem old_of {p : Addr} (e : Same (hid as H) (hid as H')) (m : MsR K as ms H') (h : H' p = none) : H p = none := by
  cases q : H p with
  | none => rfl
  | some o =>
    by_cases c : some p ∈ as
    · exact absurd c (m.fresh h)
    · have := e p o (hid_to q c)
      rw [(hid_of this).1] at h
      cases h
theorem New.of {p : Addr} {ss : List Sv} {H1 : Hp} (e : Same (hid as H) (hid as H1)) (h0 : H p = none) (h : New K as H1 ss ms p H') : New K as H ss ms p H' := ⟨h0, h.mem, e.trans h.same, h.lows, h.low⟩
/-- a new list of ours -/
theorem MsR.more (m : MsR K as ms H) {p : Addr} {vs : List V} {ss : List Sv} (h : H p = none) (r : ArR K as H vs ss) : New K as H ss ms p (upd H p (.lst vs)) := by
  have nf := m.fresh h
  have e : Same (hid as H) (hid (as ++ [some p]) (upd H p (.lst vs))) := fun a u q => by
    have ne := ne_of_none (hid_of q).1 h
    refine hid_to (by rw [upd_ne ne]; exact (hid_of q).1) fun z => ?_
    rcases List.mem_append.mp z with z | z
    · exact (hid_of q).2 z
    · exact ne (Option.some.inj (List.mem_singleton.mp z))
  have small : ∀ {i : Nat} {a : Option Addr}, (as ++ [some p])[i]? = some a → (i < as.length ∧ as[i]? = some a) ∨ (i = as.length ∧ a = some p) := fun {i a} q => by
    by_cases c : i < as.length
    · rw [List.getElem?_append_left c] at q
      exact .inl ⟨c, q⟩
    · rw [List.getElem?_append_right (Nat.le_of_not_lt c)] at q
      have c2 : i - as.length = 0 := by
        have := (List.getElem?_eq_some_iff.mp q).1
        simp at this
        omega
      rw [c2] at q
      simp at q
      exact .inr ⟨by omega, q.symm⟩
  refine ⟨h, ⟨by simp [m.len], fun i j a hi hj => ?_, fun i a hi => ?_, fun i hi => ?_⟩, e, m.lows, r.low⟩
  · rcases small hi with ⟨_, h1⟩ | ⟨h1, h2⟩
    · rcases small hj with ⟨_, h3⟩ | ⟨_, h4⟩
      · exact m.uniq i j a h1 h3
      · cases h4
        exact absurd (List.mem_of_getElem? h1) nf
    · rcases small hj with ⟨_, h3⟩ | ⟨h3, _⟩
      · cases h2
        exact absurd (List.mem_of_getElem? h3) nf
      · omega
  · rcases small hi with ⟨c, h1⟩ | ⟨h1, h2⟩
    · obtain ⟨ds', vs', k1, k2, k3⟩ := m.is i a h1
      exact ⟨ds', vs', by rw [List.getElem?_append_left (by rw [m.len]; exact c)]; exact k1, by rw [upd_ne (ne_of_none k2 h)]; exact k2, k3.grow e as_more⟩
    · cases h2
      refine ⟨.l ss, .lst vs, ?_, upd_same, vs, rfl, r.grow e as_more⟩
      rw [h1, ← m.len, List.getElem?_append_right (Nat.le_refl _)]
      simp
  · rcases small hi with ⟨c, h1⟩ | ⟨h1, h2⟩
    · rw [List.getElem?_append_left (by rw [m.len]; exact c)]
      exact m.no i h1
    · cases h2
/-- a list of ours is changed -/
theorem MsR.putC (m : MsR K as ms H) {k : Nat} {p : Addr} {o : HO} {c : Cell} (h : as[k]? = some (some p)) (r : CellR K as H o c) :
    MsR K as (ms.set k (some c)) (upd H p o) ∧ Same (hid as H) (hid as (upd H p o)) := by
  have mp : some p ∈ as := List.mem_of_getElem? h
  have e : Same (hid as H) (hid as (upd H p o)) := fun a u q => by
    have ne : a ≠ p := fun z => (hid_of q).2 (z ▸ mp)
    exact hid_to (by rw [upd_ne ne]; exact (hid_of q).1) (hid_of q).2
  refine ⟨⟨by rw [List.length_set]; exact m.len, m.uniq, fun i a hi => ?_, fun i hi => ?no⟩, e⟩
  case no =>
    have c2 : k ≠ i := fun z => by
      subst z
      rw [h] at hi
      cases hi
    rw [List.getElem?_set_ne c2]
    exact m.no i hi
  by_cases cc : a = p
  · subst cc
    have := m.uniq i k a hi h
    subst this
    refine ⟨c, o, List.getElem?_set_self ?_, upd_same, r.mono e⟩
    rw [m.len]
    exact (List.getElem?_eq_some_iff.mp h).1
  · obtain ⟨ds', vs', k1, k2, k3⟩ := m.is i a hi
    have c2 : k ≠ i := fun z => cc (by subst z; rw [h] at hi; exact (Option.some.inj (Option.some.inj hi)).symm)
    exact ⟨ds', vs', by rw [List.getElem?_set_ne c2]; exact k1, by rw [upd_ne cc]; exact k2, k3.mono e⟩
theorem MsR.put (m : MsR K as ms H) {k : Nat} {p : Addr} {vs : List V} {ds : List Sv} (h : as[k]? = some (some p)) (r : ArR K as H vs ds) :
    MsR K as (ms.set k (some (.l ds))) (upd H p (.lst vs)) ∧ Same (hid as H) (hid as (upd H p (.lst vs))) := m.putC (c := .l ds) h ⟨vs, rfl, r⟩
/-- what pointed at no later one still holds with fewer of ours -/
theorem ValR.less (e : Same (hid as H) (hid as' H')) (n : Nat) (g : ∀ k : Nat, k < n → as'[k]? = as[k]?) : ∀ {v : V} {sv : Sv}, ValR K as H v sv → (∀ k, sv = .m k → k < n) → ValR K as' H' v sv
  | _, .d _, h, _ => Rp.mono e h
  | _, .m k, ⟨a, h1, h2⟩, l => ⟨a, by rw [g k (l k rfl)]; exact h1, h2⟩
  | _, .x _ _ _ _, h, _ => ⟨h.1, h.2.mono e⟩
  | _, .u, _, _ => True.intro
theorem ArR.less (e : Same (hid as H) (hid as' H')) (n : Nat) (g : ∀ k : Nat, k < n → as'[k]? = as[k]?) : ∀ {vs : List V} {ss : List Sv}, ArR K as H vs ss → Low n ss → ArR K as' H' vs ss
  | _, _, .nil, _ => .nil
  | _, _, .cons h r, l => .cons (h.less e n g fun k q => l k (by rw [q]; exact List.mem_cons_self)) (ArR.less e n g r fun k q => l k (List.mem_cons_of_mem _ q))
theorem FsR.less (e : Same (hid as H) (hid as' H')) (n : Nat) (g : ∀ k : Nat, k < n → as'[k]? = as[k]?) : ∀ {vs : List (Str × V)} {ss : List (Str × Sv)}, FsR K as H vs ss → Low n (ss.map (·.2)) → FsR K as' H' vs ss
  | _, _, .nil, _ => .nil
  | _, _, .cons h r, l => .cons (h.less e n g fun k q => l k (by rw [q]; exact List.mem_cons_self)) (FsR.less e n g r fun k q => l k (List.mem_cons_of_mem _ q))
theorem CellR.less (e : Same (hid as H) (hid as' H')) (n : Nat) (g : ∀ k : Nat, k < n → as'[k]? = as[k]?) : ∀ {h : HO} {c : Cell}, CellR K as H h c → Low n c.all → CellR K as' H' h c
  | _, .l _, ⟨vs, h1, h2⟩, l => ⟨vs, h1, h2.less e n g l⟩
  | _, .o _ _, ⟨dx, gs, h1, h2⟩, l => ⟨dx, gs, h1, h2.less e n g l⟩
/-- a new list of data becomes a datum -/
theorem New.back {p : Addr} {ss : List Sv} (h : New K as H ss ms p H') : MsR K as ms H' ∧ Same (hid (as ++ [some p]) H') (hid as H') ∧ ∃ vs, hid as H' p = some (.lst vs) ∧ ArR K as H' vs ss := by
  have m := h.mem
  have e : Same (hid (as ++ [some p]) H') (hid as H') := hid_less fun a z => List.mem_append_left _ z
  have hl : ms.length = as.length := by
    have := m.len
    simp at this
    exact this
  have pre : ∀ k : Nat, k < as.length → as[k]? = (as ++ [some p])[k]? := fun k c => by rw [List.getElem?_append_left c]
  refine ⟨⟨hl, fun i j a hi hj => ?_, fun i a hi => ?_, fun i hi => ?_⟩, e, ?_⟩
  · refine m.uniq i j a ?_ ?_
    · rw [List.getElem?_append_left (List.getElem?_eq_some_iff.mp hi).1]; exact hi
    · rw [List.getElem?_append_left (List.getElem?_eq_some_iff.mp hj).1]; exact hj
  · have c := (List.getElem?_eq_some_iff.mp hi).1
    obtain ⟨ds', vs', k1, k2, k3⟩ := m.is i a (by rw [List.getElem?_append_left c]; exact hi)
    rw [List.getElem?_append_left (by rw [hl]; exact c)] at k1
    exact ⟨ds', vs', k1, k2, k3.less e as.length pre (h.lows i ds' k1)⟩
  · have c := (List.getElem?_eq_some_iff.mp hi).1
    have := m.no i (by rw [List.getElem?_append_left c]; exact hi)
    rw [List.getElem?_append_left (by rw [hl]; exact c)] at this
    exact this
  · have hp : (as ++ [some p])[as.length]? = some (some p) := by simp
    obtain ⟨vs', k2, k3⟩ := m.list (ss := ss) hp (by rw [← hl]; simp)
    refine ⟨vs', hid_to k2 fun z => ?_, k3.less e as.length pre h.low⟩
    obtain ⟨j, hj⟩ := List.getElem?_of_mem z
    have hj' := (List.getElem?_eq_some_iff.mp hj).1
    have := m.uniq j as.length p (by rw [List.getElem?_append_left hj']; exact hj) hp
    omega
end
/-! ### readings -/
def tD (K : PySem.W.Frag) (es : Es) (ms : Ms) (sv : Sv) (ms' : Ms) : TE := fun σ H Q => ∃ as, Sr K as es ms σ H ∧
  ∀ v H', MsR K as ms' H' → Same (hid as H) (hid as H') → ValR K as H' v sv → Q v H'
def tBo (K : PySem.W.Frag) (es : Es) (ms : Ms) (b : Bool) (ms' : Ms) : TT := fun σ H Q => ∃ as, Sr K as es ms σ H ∧
  ∀ H', MsR K as ms' H' → Same (hid as H) (hid as H') → Q b H'
def tAr (K : PySem.W.Frag) (es : Es) (ms : Ms) (ss : List Sv) (ms' : Ms) : TA := fun σ H Q => ∃ as, Sr K as es ms σ H ∧
  ∀ vs H', MsR K as ms' H' → Same (hid as H) (hid as H') → ArR K as H' vs ss → Q vs H'
/-- a new list that nothing else holds -/
def tN (K : PySem.W.Frag) (es : Es) (ms : Ms) (ss : List Sv) (ms' : Ms) : TE := fun σ H Q => ∃ as, Sr K as es ms σ H ∧ ∀ p H', New K as H ss ms' p H' → Q (.ref p) H'
section
variable {X : Cx} {es : Es} {ms ms1 ms2 ms3 : Ms} {a b c e : Expr} {pos : Pos} {x y z sv : Sv}
theorem pe_w {t t' : TE} (h : PE X e t) (w : ∀ σ H Q, t' σ H Q → t σ H Q) : PE X e t' := ⟨fun p s σ H Q I q => h.run p s σ H Q I (w σ H Q q)⟩
theorem pt_w {t t' : TT} (h : PT X e t) (w : ∀ σ H Q, t' σ H Q → t σ H Q) : PT X e t' := ⟨fun p s σ H Q I q => h.run p s σ H Q I (w σ H Q q)⟩
theorem pw_w {t t' : TT} (h : PW X e t) (w : ∀ σ H Q, t' σ H Q → t σ H Q) : PW X e t' := ⟨fun wh p s σ H Q I q => h.run wh p s σ H Q I (w σ H Q q)⟩
theorem pa_w {l : List Expr} {t t' : TA} (h : PA X l t) (w : ∀ σ H Q, t' σ H Q → t σ H Q) : PA X l t' := ⟨fun po p s σ H Q I q => h.run po p s σ H Q I (w σ H Q q)⟩
theorem ps_w {st : Stmt} {t t' : TS} (h : PS X st t) (w : ∀ D σ H, t' D σ H → t D σ H) : PS X st t' := ⟨fun p s σ H D I q => h.run p s σ H D I (w D σ H q)⟩
theorem pss_w {st : List Stmt} {t t' : TS} (h : PSs X st t) (w : ∀ D σ H, t' D σ H → t D σ H) : PSs X st t' := ⟨fun p s σ H D I q => h.run p s σ H D I (w D σ H q)⟩
theorem d_is (h : PE X e (tD X.K es ms x ms1)) (q : x = y) : PE X e (tD X.K es ms y ms1) := q ▸ h
theorem d_ofN {ds : List Dt} (h : PE X e (tN X.K es ms (ds.map Sv.d) ms1)) : PE X e (tD X.K es ms (.d (.lst ds)) ms1) := pe_w h fun σ H Q ⟨as, s, k⟩ =>
  ⟨as, s, fun p H' m => by
    obtain ⟨m1, e1, vs, hv, r⟩ := m.back
    exact k (.ref p) H' m1 (m.same.trans e1) (.lst (.inl (.inl hv)) r.data)⟩
/-! ### names and constants -/
inductive Slot : List Str → Es → Str → Sv → Prop
  | here {n : Str} {N : List Str} {es : Es} {sv : Sv} : Slot (n :: N) (some sv :: es) n sv
  | there {n x : Str} {N : List Str} {o : Option Sv} {es : Es} {sv : Sv} : Slot N es x sv → Slot (n :: N) (o :: es) x sv
theorem Slot.ix : ∀ {N : List Str} {es : Es} {x : Str} {sv : Sv}, Slot N es x sv → ∃ i : Nat, N[i]? = some x ∧ es[i]? = some (some sv)
  | _, _, _, _, .here => ⟨0, rfl, rfl⟩
  | _, _, _, _, .there h => let ⟨i, h1, h2⟩ := h.ix; ⟨i + 1, by simpa using h1, by simpa using h2⟩
inductive Put : List Str → Es → Str → Sv → Es → Prop
  | here {n : Str} {N : List Str} {o : Option Sv} {es : Es} {sv : Sv} : Put (n :: N) (o :: es) n sv (some sv :: es)
  | there {n x : Str} {N : List Str} {o : Option Sv} {es es' : Es} {sv : Sv} : Put N es x sv es' → Put (n :: N) (o :: es) x sv (o :: es')
theorem Put.ix : ∀ {N : List Str} {es es' : Es} {x : Str} {sv : Sv}, Put N es x sv es' → ∃ i : Nat, N[i]? = some x ∧ es' = es.set i (some sv)
  | _, _, _, _, _, .here => ⟨0, rfl, rfl⟩
  | _, _, _, _, _, .there h => by
    obtain ⟨i, h1, h2⟩ := h.ix
    exact ⟨i + 1, by simpa using h1, by rw [h2, List.set_cons_succ]⟩
theorem d_var {N : List Str} {n : Str} (hN : X.N = N) (h : Slot N es n sv) (hv : Vis X.env.scope n := by first | exact Or.inl rfl | exact Or.inr (Or.inl rfl) | exact Or.inr (Or.inr rfl))
    (hd : (n == ("__debug__" : Str)) = false := by decide) (hcd : (n == ("__classdict__" : Str)) = false := by decide) : PE X (.Name n pos) (tD X.K es ms sv ms) := by
  obtain ⟨i, h1, h2⟩ := h.ix
  refine pe_w (pe_var (i := i) (by rw [hN]; exact h1) hv hd hcd) fun σ H Q ⟨as, s, k⟩ => ?_
  obtain ⟨v, e1, e2⟩ := s.env i sv h2
  exact ⟨v, e1, k v H s.mem (Same.refl _) e2⟩
theorem d_int {i : Int} {j} : PE X (.Constant (.int i) j pos) (tD X.K es ms (.d (.int i)) ms) := pe_w pe_int fun σ H Q ⟨as, s, k⟩ => k _ H s.mem (Same.refl _) (.int i)
theorem d_bl {i : Bool} {j} : PE X (.Constant (.bool i) j pos) (tD X.K es ms (.d (.bl i)) ms) := pe_w pe_bl fun σ H Q ⟨as, s, k⟩ => k _ H s.mem (Same.refl _) (.bl i)
theorem d_non {j} : PE X (.Constant .none j pos) (tD X.K es ms (.d .non) ms) := pe_w pe_non fun σ H Q ⟨as, s, k⟩ => k _ H s.mem (Same.refl _) .non
theorem d_str {i : Str} {j} : PE X (.Constant (.str i) j pos) (tD X.K es ms (.d (.str i)) ms) := pe_w pe_str fun σ H Q ⟨as, s, k⟩ => k _ H s.mem (Same.refl _) (.str i)
/-! ### arguments and displays -/
theorem a_nil : PA X [] (tAr X.K es ms [] ms) := pa_w pa_nil fun σ H Q ⟨as, s, k⟩ => k [] H s.mem (Same.refl _) .nil
theorem a_cons {l : List Expr} {ss : List Sv} (h : PE X e (tD X.K es ms x ms1)) (r : PA X l (tAr X.K es ms1 ss ms2)) (hs : starEach (e :: l) X.env = (false, eval e X.env) :: starEach l X.env := by rfl) : PA X (e :: l) (tAr X.K es ms (x :: ss) ms2) :=
  pa_w (pa_cons h r hs) fun σ H Q ⟨as, s, k⟩ => ⟨as, s, fun v H1 m1 e1 r1 => ⟨as, s.step m1 e1, fun vs H2 m2 e2 r2 => k (v :: vs) H2 m2 (e1.trans e2) (.cons (r1.mono e2) r2)⟩⟩
theorem d_tup {l : List Expr} {ds : List Dt} {x1} (h : PA X l (tAr X.K es ms (ds.map Sv.d) ms1)) (hl : ds.length ≤ 1000 := by decide) : PE X (.Tuple l x1 pos) (tD X.K es ms (.d (.tup ds)) ms1) :=
  pe_w (pe_tup h) fun σ H Q ⟨as, s, k⟩ => ⟨as, s, fun vs H1 m1 e1 r1 => ⟨by
    have := r1.data.len
    rw [this]
    exact Nat.le_of_lt (small1000 hl), fun p hp => k _ _ (m1.new hp).1 (e1.trans (m1.new hp).2) (.tup (.inl (.inl (m1.at_new hp))) (r1.data.mono (m1.new hp).2))⟩⟩
theorem n_lst {l : List Expr} {ss : List Sv} (h : PA X l (tAr X.K es ms ss ms1)) (hl : ss.length ≤ 1000 := by decide) : PE X (.List l pos) (tN X.K es ms ss ms1) :=
  pe_w (pe_lst h) fun σ H Q ⟨as, s, k⟩ => ⟨as, s, fun vs H1 m1 e1 r1 => ⟨by
    rw [r1.len]
    exact Nat.le_of_lt (small1000 hl), fun p hp => k p _ ((m1.more hp r1).of e1 (old_of e1 m1 hp))⟩⟩
/-! ### operators -/
theorem d_op {op : Operator} {r : R2} (ho : OpR X (binaryOp op) r) (ha : PE X a (tD X.K es ms x ms1)) (hb : PE X b (tD X.K es ms1 y ms2))
    (hr : ∀ as v u H (Q : VK), MsR X.K as ms2 H → ValR X.K as H v x → ValR X.K as H u y → (∀ w H', MsR X.K as ms2 H' → Same (hid as H) (hid as H') → ValR X.K as H' w z → Q w H') → r v u H Q) :
    PE X (.BinOp a op b pos) (tD X.K es ms z ms2) :=
  pe_w (pe_op ho ha hb) fun σ H Q ⟨as, s, k⟩ => ⟨as, s, fun v H1 m1 e1 r1 => ⟨as, s.step m1 e1, fun u H2 m2 e2 r2 => hr as v u H2 Q m2 (r1.mono e2) r2 fun w H3 m3 e3 r3 => k w H3 m3 ((e1.trans e2).trans e3) r3⟩⟩
theorem opI0 {op : Operator} {i j : Int} {g : Int → Int → Int} (ho : OpR X (binaryOp op) (rI0 fun i j => .int (g i j))) (ha : PE X a (tD X.K es ms (.d (.int i)) ms1)) (hb : PE X b (tD X.K es ms1 (.d (.int j)) ms2)) :
    PE X (.BinOp a op b pos) (tD X.K es ms (.d (.int (g i j))) ms2) := d_op ho ha hb fun as v u H Q m rv ru k => by
  cases rv
  cases ru
  exact ⟨i, j, rfl, rfl, k _ _ m (Same.refl _) (.int _)⟩
theorem opI {op : Operator} {i j : Int} {C : Int → Int → Prop} {g : Int → Int → Int} (ho : OpR X (binaryOp op) (rI C fun i j => .int (g i j))) (ha : PE X a (tD X.K es ms (.d (.int i)) ms1)) (hb : PE X b (tD X.K es ms1 (.d (.int j)) ms2)) (hc : C i j) :
    PE X (.BinOp a op b pos) (tD X.K es ms (.d (.int (g i j))) ms2) := d_op ho ha hb fun as v u H Q m rv ru k => by
  cases rv
  cases ru
  exact ⟨i, j, rfl, rfl, hc, k _ _ m (Same.refl _) (.int _)⟩
theorem d_add {i j : Int} (ha : PE X a (tD X.K es ms (.d (.int i)) ms1)) (hb : PE X b (tD X.K es ms1 (.d (.int j)) ms2)) : PE X (.BinOp a .Add b pos) (tD X.K es ms (.d (.int (i + j))) ms2) := opI0 op_add ha hb
theorem d_sub {i j : Int} (ha : PE X a (tD X.K es ms (.d (.int i)) ms1)) (hb : PE X b (tD X.K es ms1 (.d (.int j)) ms2)) : PE X (.BinOp a .Sub b pos) (tD X.K es ms (.d (.int (i - j))) ms2) := opI0 op_sub ha hb
theorem d_mul {i j : Int} (ha : PE X a (tD X.K es ms (.d (.int i)) ms1)) (hb : PE X b (tD X.K es ms1 (.d (.int j)) ms2)) (hc : CMulW i j) : PE X (.BinOp a .Mult b pos) (tD X.K es ms (.d (.int (i * j))) ms2) := opI op_mulW ha hb hc
theorem d_fdiv {i j : Int} (ha : PE X a (tD X.K es ms (.d (.int i)) ms1)) (hb : PE X b (tD X.K es ms1 (.d (.int j)) ms2)) (hc : CDivW i j) : PE X (.BinOp a .FloorDiv b pos) (tD X.K es ms (.d (.int (i / j))) ms2) := opI op_fdivW ha hb hc
theorem d_mod {i j : Int} (ha : PE X a (tD X.K es ms (.d (.int i)) ms1)) (hb : PE X b (tD X.K es ms1 (.d (.int j)) ms2)) (hc : 0 < j) : PE X (.BinOp a .Mod b pos) (tD X.K es ms (.d (.int (i % j))) ms2) := opI op_mod ha hb hc
theorem d_pow {i j : Int} (ha : PE X a (tD X.K es ms (.d (.int i)) ms1)) (hb : PE X b (tD X.K es ms1 (.d (.int j)) ms2)) (hc : CPow i j) : PE X (.BinOp a .Pow b pos) (tD X.K es ms (.d (.int (i ^ j.toNat))) ms2) := opI op_pow ha hb hc
theorem d_neg {i : Int} (ha : PE X a (tD X.K es ms (.d (.int i)) ms1)) : PE X (.UnaryOp .USub a pos) (tD X.K es ms (.d (.int (-i))) ms1) :=
  pe_w (pe_un un_neg ha) fun σ H Q ⟨as, s, k⟩ => ⟨as, s, fun v H1 m1 e1 r1 => by cases r1; exact ⟨i, rfl, k _ _ m1 e1 (.int _)⟩⟩
/-! ### comparisons -/
theorem pe_never : PE X e (fun _ _ _ => False) := ⟨fun _ _ _ _ _ _ h => h.elim⟩
def CmpOk (X : Cx) (op : CmpOp) (x y : Sv) (p : Bool) : Prop := ∃ r, OpR X (compareOp op) r ∧ ∀ as ms v u H (Q : VK), MsR X.K as ms H → ValR X.K as H v x → ValR X.K as H u y → Q (.bl p) H → r v u H Q
theorem d_cmp {op : CmpOp} {p : Bool} (ha : PE X a (tD X.K es ms x ms1)) (hb : PE X b (tD X.K es ms1 y ms2)) (hc : CmpOk X op x y p) (hm : behindInMarks op b = false := by first | exact nomark _ | rfl) : PE X (.Compare a [op] [b] pos) (tD X.K es ms (.d (.bl p)) ms2) := by
  obtain ⟨r, ho, hr⟩ := hc
  exact pe_w (pe_cmpR ho ha hb hm) fun σ H Q ⟨as, s, k⟩ => ⟨as, s, fun v H1 m1 e1 r1 => ⟨as, s.step m1 e1, fun u H2 m2 e2 r2 => hr as ms2 v u H2 Q m2 (r1.mono e2) r2 (k _ H2 m2 (e1.trans e2) (.bl p))⟩⟩
theorem b_cmp {op : CmpOp} {p : Bool} (ha : PE X a (tD X.K es ms x ms1)) (hb : PE X b (tD X.K es ms1 y ms2)) (hc : CmpOk X op x y p) (hm : behindInMarks op b = false := by first | exact nomark _ | rfl) : PT X (.Compare a [op] [b] pos) (tBo X.K es ms p ms2) := by
  obtain ⟨r, ho, hr⟩ := hc
  exact pt_w (pt_cmpR ho ha hb hm) fun σ H Q ⟨as, s, k⟩ => ⟨as, s, fun v H1 m1 e1 r1 => ⟨as, s.step m1 e1, fun u H2 m2 e2 r2 => hr as ms2 v u H2 _ m2 (r1.mono e2) r2 ⟨p, rfl, k H2 m2 (e1.trans e2)⟩⟩⟩
theorem d_chain {op op' : CmpOp} {p q : Bool} {m3 : Ms} (ha : PE X a (tD X.K es ms x ms1)) (hb : PE X b (tD X.K es ms1 y ms2)) (hc : CmpOk X op x y p) (hd : p = true → PE X c (tD X.K es ms2 z ms2) ∧ CmpOk X op' y z q) (hm : lastMarks [op, op'] [b, c] = false := by rfl) :
    PE X (.Compare a [op, op'] [b, c] pos) (tD X.K es ms (.d (.bl (p && q))) ms2) := by
  obtain ⟨r, ho, hr⟩ := hc
  cases p with
  | true =>
    obtain ⟨hcc, r', ho', hr'⟩ := hd rfl
    exact pe_w (pe_chain ho ho' ha hb hcc hm) fun σ H Q ⟨as, s, k⟩ => ⟨as, s, fun v H1 m1 e1 r1 => ⟨as, s.step m1 e1, fun u H2 m2 e2 r2 => hr as ms2 v u H2 _ m2 (r1.mono e2) r2 ⟨true, rfl, iteT ⟨as, s.step m2 (e1.trans e2), fun w H3 m3 e3 r3 => hr' as ms2 u w H3 _ m3 (r2.mono e3) r3 (k _ H3 m3 ((e1.trans e2).trans e3) (.bl q))⟩⟩⟩⟩
  | false => exact pe_w (pe_chain ho (r' := fun _ _ _ _ => False) (op' := op') (fun _ _ _ _ _ _ _ _ _ _ _ _ h => h.elim) ha hb pe_never hm) fun σ H Q ⟨as, s, k⟩ => ⟨as, s, fun v H1 m1 e1 r1 => ⟨as, s.step m1 e1, fun u H2 m2 e2 r2 => hr as ms2 v u H2 _ m2 (r1.mono e2) r2 ⟨false, rfl, iteF (k _ H2 m2 (e1.trans e2) (.bl false))⟩⟩⟩
theorem c_int {op : CmpOp} {i j : Int} {g : Int → Int → Bool} (ho : OpR X (compareOp op) (rI0 fun i j => .bl (g i j))) : CmpOk X op (.d (.int i)) (.d (.int j)) (g i j) := ⟨_, ho, fun as ms v u H Q m rv ru k => by
  cases rv
  cases ru
  exact ⟨i, j, rfl, rfl, k⟩⟩
theorem c_lt {i j : Int} : CmpOk X .Lt (.d (.int i)) (.d (.int j)) (decide (i < j)) := c_int op_lt
theorem c_le {i j : Int} : CmpOk X .LtE (.d (.int i)) (.d (.int j)) (decide (i ≤ j)) := c_int op_le
theorem c_gt {i j : Int} : CmpOk X .Gt (.d (.int i)) (.d (.int j)) (decide (j < i)) := c_int op_gt
theorem c_ge {i j : Int} : CmpOk X .GtE (.d (.int i)) (.d (.int j)) (decide (j ≤ i)) := c_int op_ge
theorem c_eqI {i j : Int} : CmpOk X .Eq (.d (.int i)) (.d (.int j)) (decide (i = j)) := ⟨_, op_eq, fun as ms v u H Q m rv ru k => by
  cases rv
  cases ru
  exact ⟨rfl, by rw [show decide (V.int i = V.int j) = decide (i = j) by simp]; exact k⟩⟩
theorem c_neI {i j : Int} : CmpOk X .NotEq (.d (.int i)) (.d (.int j)) (!decide (i = j)) := ⟨_, op_ne, fun as ms v u H Q m rv ru k => by
  cases rv
  cases ru
  exact ⟨rfl, by rw [show decide (V.int i = V.int j) = decide (i = j) by simp]; exact k⟩⟩
theorem c_eqB {i j : Bool} : CmpOk X .Eq (.d (.bl i)) (.d (.bl j)) (decide (i = j)) := ⟨_, op_eq, fun as ms v u H Q m rv ru k => by
  cases rv
  cases ru
  exact ⟨rfl, by rw [show decide (V.bl i = V.bl j) = decide (i = j) by simp]; exact k⟩⟩
theorem c_eqS {i j : Str} : CmpOk X .Eq (.d (.str i)) (.d (.str j)) (decide (i = j)) := ⟨_, op_eq, fun as ms v u H Q m rv ru k => by
  cases rv
  cases ru
  exact ⟨rfl, by rw [show decide (V.str i = V.str j) = decide (i = j) by simp]; exact k⟩⟩
def isNon : Dt → Bool
  | .non => true
  | _ => false
theorem Rp.isNon {K : PySem.W.Frag} {H : Hp} {v : V} {d : Dt} (h : Rp K H v d) : decide (v = .non) = isNon d := by
  cases h <;> simp [Dv.isNon]
theorem c_isN {d : Dt} : CmpOk X .Is (.d d) (.d .non) (isNon d) := ⟨_, op_isN, fun as ms v u H Q m rv ru k => by
  cases ru
  exact ⟨rfl, by rw [rv.isNon]; exact k⟩⟩
theorem c_notN {d : Dt} : CmpOk X .IsNot (.d d) (.d .non) (!isNon d) := ⟨_, op_notN, fun as ms v u H Q m rv ru k => by
  cases ru
  exact ⟨rfl, by rw [rv.isNon]; exact k⟩⟩
/-! ### and, or, not; conditional expressions (what they ask changes nothing) -/
theorem d_one {op} (h : PE X a (tD X.K es ms x ms1)) : PE X (.BoolOp op [a] pos) (tD X.K es ms x ms1) := pe_one h
theorem d_and {rest : List Expr} {p q : Bool} (ha : PE X a (tD X.K es ms (.d (.bl p)) ms)) (hb : p = true → PE X (.BoolOp .And (b :: rest) pos) (tD X.K es ms (.d (.bl q)) ms)) : PE X (.BoolOp .And (a :: b :: rest) pos) (tD X.K es ms (.d (.bl (p && q))) ms) := by
  cases p with
  | true => exact pe_w (pe_and ha (hb rfl)) fun σ H Q ⟨as, s, k⟩ => ⟨as, s, fun v H1 m1 e1 r1 => by
      cases r1
      exact ⟨true, rfl, iteT ⟨as, s.step m1 e1, fun u H2 m2 e2 r2 => k u H2 m2 (e1.trans e2) r2⟩⟩⟩
  | false => exact pe_w (pe_and ha pe_never) fun σ H Q ⟨as, s, k⟩ => ⟨as, s, fun v H1 m1 e1 r1 => by
      cases r1
      exact ⟨false, rfl, iteF (k _ H1 m1 e1 (.bl false))⟩⟩
theorem d_or {rest : List Expr} {p q : Bool} (ha : PE X a (tD X.K es ms (.d (.bl p)) ms)) (hb : p = false → PE X (.BoolOp .Or (b :: rest) pos) (tD X.K es ms (.d (.bl q)) ms)) : PE X (.BoolOp .Or (a :: b :: rest) pos) (tD X.K es ms (.d (.bl (p || q))) ms) := by
  cases p with
  | false => exact pe_w (pe_or ha (hb rfl)) fun σ H Q ⟨as, s, k⟩ => ⟨as, s, fun v H1 m1 e1 r1 => by
      cases r1
      exact ⟨false, rfl, iteF ⟨as, s.step m1 e1, fun u H2 m2 e2 r2 => k u H2 m2 (e1.trans e2) r2⟩⟩⟩
  | true => exact pe_w (pe_or ha pe_never) fun σ H Q ⟨as, s, k⟩ => ⟨as, s, fun v H1 m1 e1 r1 => by
      cases r1
      exact ⟨true, rfl, iteT (k _ H1 m1 e1 (.bl true))⟩⟩
theorem d_not {p : Bool} (ha : PE X a (tD X.K es ms (.d (.bl p)) ms1)) : PE X (.UnaryOp .Not a pos) (tD X.K es ms (.d (.bl (!p))) ms1) :=
  pe_w (pe_not ha) fun σ H Q ⟨as, s, k⟩ => ⟨as, s, fun v H1 m1 e1 r1 => by
    cases r1
    exact ⟨p, rfl, k _ H1 m1 e1 (.bl _)⟩⟩
theorem d_ifT (hc : PT X c (tBo X.K es ms true ms1)) (ha : PE X a (tD X.K es ms1 x ms2)) : PE X (.IfExp c a b pos) (tD X.K es ms x ms2) :=
  pe_w (pe_ifExp hc ha pe_never) fun σ H Q ⟨as, s, k⟩ => ⟨as, s, fun H1 m1 e1 => iteT ⟨as, s.step m1 e1, fun u H2 m2 e2 r2 => k u H2 m2 (e1.trans e2) r2⟩⟩
theorem d_ifF (hc : PT X c (tBo X.K es ms false ms1)) (hb : PE X b (tD X.K es ms1 x ms2)) : PE X (.IfExp c a b pos) (tD X.K es ms x ms2) :=
  pe_w (pe_ifExp hc pe_never hb) fun σ H Q ⟨as, s, k⟩ => ⟨as, s, fun H1 m1 e1 => iteF ⟨as, s.step m1 e1, fun u H2 m2 e2 r2 => k u H2 m2 (e1.trans e2) r2⟩⟩
theorem d_if {p : Bool} {x y : Sv} {m3 : Ms} (hc : PT X c (tBo X.K es ms p ms1)) (ha : p = true → PE X a (tD X.K es ms1 x ms2)) (hb : p = false → PE X b (tD X.K es ms1 y m3)) : PE X (.IfExp c a b pos) (tD X.K es ms (if p = true then x else y) (if p = true then ms2 else m3)) := by
  cases p with
  | true => exact d_ifT hc (ha rfl)
  | false => exact d_ifF hc (hb rfl)
/-- a value as a test -/
theorem b_val {p : Bool} (ha : PE X a (tD X.K es ms (.d (.bl p)) ms1)) (he : ∀ whole, PySem.isTrue a X.env whole = (do let v ← whole; standAt a.pos; holding [v] (truthy v)) := by intro _; rfl) : PT X a (tBo X.K es ms p ms1) :=
  pt_w (pt_val ha he) fun σ H Q ⟨as, s, k⟩ => ⟨as, s, fun v H1 m1 e1 r1 => by
    cases r1
    exact ⟨p, rfl, k H1 m1 e1⟩⟩
theorem b_not {p : Bool} (ha : PT X a (tBo X.K es ms p ms1)) : PT X (.UnaryOp .Not a pos) (tBo X.K es ms (!p) ms1) :=
  pt_w (pt_not ha) fun σ H Q ⟨as, s, k⟩ => ⟨as, s, fun H1 m1 e1 => k H1 m1 e1⟩
theorem pw_never : PW X e (fun _ _ _ => False) := ⟨fun _ _ _ _ _ _ _ h => h.elim⟩
theorem w_and1 {p : Bool} (ha : PT X a (tBo X.K es ms p ms1)) : PW X (.BoolOp .And [a] pos) (tBo X.K es ms p ms1) := pw_and1 ha
theorem w_or1 {p : Bool} (ha : PT X a (tBo X.K es ms p ms1)) : PW X (.BoolOp .Or [a] pos) (tBo X.K es ms p ms1) := pw_or1 ha
theorem w_and {rest : List Expr} {p q : Bool} (ha : PT X a (tBo X.K es ms p ms)) (hb : p = true → PW X (.BoolOp .And (b :: rest) pos) (tBo X.K es ms q ms)) : PW X (.BoolOp .And (a :: b :: rest) pos) (tBo X.K es ms (p && q) ms) := by
  cases p with
  | true => exact pw_w (pw_and ha (hb rfl)) fun σ H Q ⟨as, s, k⟩ => ⟨as, s, fun H1 m1 e1 => iteT ⟨as, s.step m1 e1, fun H2 m2 e2 => k H2 m2 (e1.trans e2)⟩⟩
  | false => exact pw_w (pw_and ha pw_never) fun σ H Q ⟨as, s, k⟩ => ⟨as, s, fun H1 m1 e1 => iteF (k H1 m1 e1)⟩
theorem w_or {rest : List Expr} {p q : Bool} (ha : PT X a (tBo X.K es ms p ms)) (hb : p = false → PW X (.BoolOp .Or (b :: rest) pos) (tBo X.K es ms q ms)) : PW X (.BoolOp .Or (a :: b :: rest) pos) (tBo X.K es ms (p || q) ms) := by
  cases p with
  | false => exact pw_w (pw_or ha (hb rfl)) fun σ H Q ⟨as, s, k⟩ => ⟨as, s, fun H1 m1 e1 => iteF ⟨as, s.step m1 e1, fun H2 m2 e2 => k H2 m2 (e1.trans e2)⟩⟩
  | true => exact pw_w (pw_or ha pw_never) fun σ H Q ⟨as, s, k⟩ => ⟨as, s, fun H1 m1 e1 => iteT (k H1 m1 e1)⟩
theorem b_pw {p : Bool} (h : PW X e (tBo X.K es ms p ms1)) : PT X e (tBo X.K es ms p ms1) := h.pt
theorem b_is {p q : Bool} (h : PT X e (tBo X.K es ms p ms1)) (w : p = q) : PT X e (tBo X.K es ms q ms1) := w ▸ h
end
end Dv
/-! # Dv1: built-ins, items, statements, loops, defs -/
namespace Dv
open PySem PySem.Spec L2
section
variable {X : Cx} {es es' : Es} {ms ms1 ms2 ms3 : Ms} {a b c e : Expr} {p pos : Pos} {x y z sv : Sv} {x0 : Str}
/-! ### built-ins by their names -/
theorem d_callB {id : String} {r : List V → Hp → VK → Prop} {l : List Expr} {ss : List Sv} (hc : CallR X (.builtin id) r) (hg : Gl X x0) (hm : X.mg x0 = none) (hv : bootBuiltins x0 = some (.builtin id)) (ha : PA X (e :: l) (tAr X.K es ms ss ms1))
    (hr : ∀ as vs H (Q : VK), MsR X.K as ms1 H → ArR X.K as H vs ss → (∀ w H', MsR X.K as ms1 H' → Same (hid as H) (hid as H') → ValR X.K as H' w z → Q w H') → r vs H Q)
    (hn : x0 ≠ "__name__" := by decide) (hd : (x0 == ("__debug__" : Str)) = false := by decide)
    (he : starEach (e :: l) X.env = (false, eval e X.env) :: starEach l X.env := by rfl) (hpl : (backTo pos (starEach l X.env)).any (·.1) = false := by rfl) :
    PE X (.Call (.Name x0 p) (e :: l) [] pos) (tD X.K es ms z ms1) :=
  pe_w (pe_callB hc hg hm hv ha hn hd he hpl) fun σ H Q ⟨as, s, k⟩ => ⟨as, s, fun vs H1 m1 e1 r1 => hr as vs H1 Q m1 r1 fun w H2 m2 e2 r2 => k w H2 m2 (e1.trans e2) r2⟩
theorem d_callTy {T : String} {r : List V → Hp → VK → Prop} {l : List Expr} {ss : List Sv} (hc : CallR X (.type T) r) (hg : Gl X x0) (hm : X.mg x0 = none) (hv : bootBuiltins x0 = some (.type T)) (ha : PA X (e :: l) (tAr X.K es ms ss ms1))
    (hr : ∀ as vs H (Q : VK), MsR X.K as ms1 H → ArR X.K as H vs ss → (∀ w H', MsR X.K as ms1 H' → Same (hid as H) (hid as H') → ValR X.K as H' w z → Q w H') → r vs H Q)
    (hn : x0 ≠ "__name__" := by decide) (hd : (x0 == ("__debug__" : Str)) = false := by decide)
    (he : starEach (e :: l) X.env = (false, eval e X.env) :: starEach l X.env := by rfl) (hpl : (backTo pos (starEach l X.env)).any (·.1) = false := by rfl) :
    PE X (.Call (.Name x0 p) (e :: l) [] pos) (tD X.K es ms z ms1) :=
  pe_w (pe_callTy hc hg hm hv ha hn hd he hpl) fun σ H Q ⟨as, s, k⟩ => ⟨as, s, fun vs H1 m1 e1 r1 => hr as vs H1 Q m1 r1 fun w H2 m2 e2 r2 => k w H2 m2 (e1.trans e2) r2⟩
theorem d_int1 {i : Int} (hg : Gl X "int") (hm : X.mg "int" = none) (ha : PE X e (tD X.K es ms (.d (.int i)) ms1)) (he : starEach [e] X.env = (false, eval e X.env) :: starEach [] X.env := by rfl) :
    PE X (.Call (.Name "int" p) [e] [] pos) (tD X.K es ms (.d (.int i)) ms1) :=
  d_callTy call_int1 hg hm (by decide +kernel) (a_cons ha a_nil he) (fun as vs H Q m r k => by
    cases r with | cons r1 r2 => cases r2; cases r1; exact .inl ⟨i, rfl, k _ _ m (Same.refl _) (.int i)⟩) (he := he)
theorem d_abs {i : Int} (hg : Gl X "abs") (hm : X.mg "abs" = none) (ha : PE X e (tD X.K es ms (.d (.int i)) ms1)) (he : starEach [e] X.env = (false, eval e X.env) :: starEach [] X.env := by rfl) :
    PE X (.Call (.Name "abs" p) [e] [] pos) (tD X.K es ms (.d (.int (i.natAbs : Int))) ms1) :=
  d_callB call_abs hg hm (by decide +kernel) (a_cons ha a_nil he) (fun as vs H Q m r k => by
    cases r with | cons r1 r2 =>
      cases r2
      cases r1
      refine ⟨i, rfl, ?_⟩
      have : (if i < 0 then -i else i) = (i.natAbs : Int) := by omega
      rw [this]
      exact k _ _ m (Same.refl _) (.int _)) (he := he)
theorem d_gcd {i j : Int} {nm : Str} (hg : Gl X nm) (hm : X.mg nm = some (.builtin "math.gcd")) (ha : PE X a (tD X.K es ms (.d (.int i)) ms1)) (hb : PE X b (tD X.K es ms1 (.d (.int j)) ms2)) (hdb : (nm == ("__debug__" : Str)) = false := by decide)
    (he : starEach [a, b] X.env = (false, eval a X.env) :: starEach [b] X.env := by rfl) (he2 : starEach [b] X.env = (false, eval b X.env) :: starEach [] X.env := by rfl) (hpl : (backTo pos (starEach [b] X.env)).any (·.1) = false := by rfl) :
    PE X (.Call (.Name nm p) [a, b] [] pos) (tD X.K es ms (.d (.int ((Nat.gcd i.natAbs j.natAbs : Nat) : Int))) ms2) :=
  pe_w (pe_callBfun cr_gcd hg hm (a_cons ha (a_cons hb a_nil he2) he) hdb he hpl) fun σ H Q ⟨as, s, k⟩ => ⟨as, s, fun vs H1 m1 e1 r1 => by
    cases r1 with | cons r1 r2 => cases r2 with | cons r2 r3 => cases r3; cases r1; cases r2; exact ⟨i, j, rfl, k _ H1 m1 e1 (.int _)⟩⟩
theorem d_len {n : Nat} {d : Dt} (hg : Gl X "len") (hm : X.mg "len" = none) (ha : PE X e (tD X.K es ms (.d d) ms1)) (hn : ∃ ds, (d = .lst ds ∨ d = .tup ds) ∧ ds.length = n) (he : starEach [e] X.env = (false, eval e X.env) :: starEach [] X.env := by rfl) :
    PE X (.Call (.Name "len" p) [e] [] pos) (tD X.K es ms (.d (.int (n : Int))) ms1) :=
  d_callB call_len_seq hg hm PySem.boot_len (a_cons ha a_nil he) (fun as vs H Q m r k => by
    obtain ⟨ds, hd, hl⟩ := hn
    cases r with | cons r1 r2 =>
      cases r2
      rcases hd with rfl | rfl
      · cases r1 with | lst hs hx =>
          refine ⟨_, _, rfl, .inl (hid_sub.seq hs), ?_⟩
          rw [hx.len, hl]
          exact k _ _ m (Same.refl _) (.int _)
      · cases r1 with | tup hs hx =>
          refine ⟨_, _, rfl, .inr (sqT_same hid_sub hs), ?_⟩
          rw [hx.len, hl]
          exact k _ _ m (Same.refl _) (.int _)) (he := he)
theorem d_lenM {n : Nat} {i : Nat} {ds : List Sv} (hg : Gl X "len") (hm : X.mg "len" = none) (ha : PE X e (tD X.K es ms (.m i) ms1)) (hi : ms1[i]? = some (some (.l ds))) (hn : ds.length = n) (he : starEach [e] X.env = (false, eval e X.env) :: starEach [] X.env := by rfl) :
    PE X (.Call (.Name "len" p) [e] [] pos) (tD X.K es ms (.d (.int (n : Int))) ms1) :=
  d_callB call_len_seq hg hm PySem.boot_len (a_cons ha a_nil he) (fun as vs H Q m r k => by
    cases r with | cons r1 r2 =>
      cases r2
      obtain ⟨q, h1, rfl⟩ := r1
      obtain ⟨vs', k2, k3⟩ := m.list h1 hi
      refine ⟨_, _, rfl, .inl (.inl (.inl k2)), ?_⟩
      rw [k3.len, hn]
      exact k _ _ m (Same.refl _) (.int _)) (he := he)
/-- the type's name of a datum (an own object: by its class, told apart) -/
def tyName : Dt → Option String
  | .non => some "NoneType" | .bl _ => some "bool" | .int _ => some "int" | .str _ => some "str" | .lst _ => some "list" | .tup _ => some "tuple" | .obj _ _ => none
theorem Rp.tyX {K : PySem.W.Frag} {H : Hp} {v : V} {d : Dt} {n : String} (h : Rp K H v d) (q : tyName d = some n) : TyX K H v (.type n) := by
  cases h with
  | non => cases q; exact .base .non
  | bl b => cases q; exact .base (.bl b)
  | int b => cases q; exact .base (.int b)
  | str b => cases q; exact .base (.str b)
  | lst hs hx =>
    cases q
    rcases hs with (hs | ⟨o, hs⟩) | ⟨o, its, k, h1, h2, _⟩
    · exact .base (.lst hs)
    · exact .base (.frz hs)
    · exact .kList h1 h2
  | tup hs hx =>
    cases q
    rcases hs with (hs | ⟨o, hs⟩) | ⟨o, its, k, h1, h2, _⟩
    · exact .base (.tup hs)
    · exact .fTuple hs
    · exact .kTuple h1 h2
  | obj ho hf => cases q
theorem tyX_sub {K : PySem.W.Frag} {H H' : Hp} {v : V} {t : Value} (e : Same H H') (h : TyX K H v t) : TyX K H' v t := by
  cases h with
  | base h =>
    cases h with
    | non => exact .base .non
    | bl b => exact .base (.bl b)
    | int b => exact .base (.int b)
    | str b => exact .base (.str b)
    | flt b => exact .base (.flt b)
    | lst h => exact .base (.lst (e _ _ h))
    | frz h => exact .base (.frz (e _ _ h))
    | tup h => exact .base (.tup (e _ _ h))
    | dK h => exact .base (.dK (e _ _ h))
    | dT h => exact .base (.dT (e _ _ h))
    | ins h a b c d f => exact .base (.ins (e _ _ h) a b c d f)
  | byt b => exact .byt b
  | set h => exact .set (e _ _ h)
  | kList h g => exact .kList h g
  | kTuple h g => exact .kTuple h g
  | kDict h g => exact .kDict h g
  | fTuple h => exact .fTuple (e _ _ h)
  | fDict h => exact .fDict (e _ _ h)
/-- isinstance(e, T), T a built-in class's name -/
theorem d_isi {d : Dt} {n T : String} {nm : Str} {q : Bool} {pT : Pos} (hg : Gl X "isinstance") (hm : X.mg "isinstance" = none) (hgT : Gl X nm) (hmT : X.mg nm = none) (hv : bootBuiltins nm = some (.type T)) (ha : PE X e (tD X.K es ms (.d d) ms1)) (hn : tyName d = some n) (hk : kitB n T = some q)
    (hnn : nm ≠ "__name__" := by decide) (hdn : (nm == ("__debug__" : Str)) = false := by decide)
    (he : starEach [e, .Name nm pT] X.env = (false, eval e X.env) :: starEach [.Name nm pT] X.env := by rfl) (hpl : (backTo pos (starEach [.Name nm pT] X.env)).any (·.1) = false := by rfl) (he2 : starEach [.Name nm pT] X.env = (false, eval (.Name nm pT) X.env) :: starEach [] X.env := by rfl) :
    PE X (.Call (.Name "isinstance" p) [e, .Name nm pT] [] pos) (tD X.K es ms (.d (.bl q)) ms1) :=
  pe_w (pe_callB call_isi hg hm (by decide +kernel) (pa_cons ha (pa_cons (pe_bltn (v := .ty T) hgT hmT hv rfl hnn hdn) pa_nil he2) he) (he := he) (hpl := hpl)) fun σ H Q ⟨as, s, k⟩ => ⟨as, s, fun v H1 m1 e1 r1 =>
    ⟨v, .ty T, .type n, .type T, q, rfl, .ty T, tyX_sub hid_sub (r1.tyX hn), kit_ty hk, k _ H1 m1 e1 (.bl q)⟩⟩
/-! ### items -/
theorem RpA.atI {K : PySem.W.Frag} {H : Hp} {vs : List V} {ds : List Dt} {i : Int} {d : Dt} (h : RpA K H vs ds) (q : L2.atI ds i = some d) : ∃ v, L2.atI vs i = some v ∧ Rp K H v d := by
  unfold L2.atI at q ⊢
  rw [h.len]
  cases e : ixN ds.length i with
  | none => rw [e] at q; cases q
  | some j =>
    rw [e] at q
    exact h.get q
theorem ArR.get {K : PySem.W.Frag} {as : As} {H : Hp} : ∀ {vs : List V} {ss : List Sv} {i : Nat} {sv : Sv}, ArR K as H vs ss → ss[i]? = some sv → ∃ v, vs[i]? = some v ∧ ValR K as H v sv
  | _, _, _, _, .nil, h => by simp at h
  | _, _, 0, _, .cons (v := v) h _, q => by
    simp at q
    subst q
    exact ⟨v, rfl, h⟩
  | _, _, i + 1, _, .cons _ r, q => by
    obtain ⟨u, h1, h2⟩ := ArR.get r (by simpa using q)
    exact ⟨u, by simpa using h1, h2⟩
theorem ArR.atI {K : PySem.W.Frag} {as : As} {H : Hp} {vs : List V} {ss : List Sv} {i : Int} {sv : Sv} (h : ArR K as H vs ss) (q : L2.atI ss i = some sv) : ∃ v, L2.atI vs i = some v ∧ ValR K as H v sv := by
  unfold L2.atI at q ⊢
  rw [h.len]
  cases e : ixN ss.length i with
  | none => rw [e] at q; cases q
  | some j =>
    rw [e] at q
    exact h.get q
theorem d_ixL {ds : List Dt} {i : Int} {d : Dt} (ha : PE X a (tD X.K es ms (.d (.lst ds)) ms1)) (hb : PE X b (tD X.K es ms1 (.d (.int i)) ms2)) (hi : L2.atI ds i = some d) (hp : PlainIx b := by exact fun _ _ => rfl) : PE X (.Subscript a b pos) (tD X.K es ms (.d d) ms2) :=
  pe_w (pe_ix ix_list ha hb hp) fun σ H Q ⟨as, s, k⟩ => ⟨as, s, fun v H1 m1 e1 r1 => ⟨as, s.step m1 e1, fun u H2 m2 e2 r2 => by
    cases r2
    cases r1.mono e2 with | lst hs hx =>
      obtain ⟨w, hw, hr⟩ := hx.atI hi
      exact ⟨_, _, _, w, rfl, rfl, hid_sub.seq hs, hw, k w H2 m2 (e1.trans e2) hr⟩⟩⟩
theorem d_ixT {ds : List Dt} {i : Int} {d : Dt} (ha : PE X a (tD X.K es ms (.d (.tup ds)) ms1)) (hb : PE X b (tD X.K es ms1 (.d (.int i)) ms2)) (hi : L2.atI ds i = some d) (hp : PlainIx b := by exact fun _ _ => rfl) : PE X (.Subscript a b pos) (tD X.K es ms (.d d) ms2) :=
  pe_w (pe_ix ix_tup ha hb hp) fun σ H Q ⟨as, s, k⟩ => ⟨as, s, fun v H1 m1 e1 r1 => ⟨as, s.step m1 e1, fun u H2 m2 e2 r2 => by
    cases r2
    cases r1.mono e2 with | tup hs hx =>
      obtain ⟨w, hw, hr⟩ := hx.atI hi
      exact ⟨_, _, _, w, rfl, rfl, sqT_same hid_sub hs, hw, k w H2 m2 (e1.trans e2) hr⟩⟩⟩
theorem d_ixM {ds : List Sv} {j : Nat} {i : Int} {sv : Sv} (ha : PE X a (tD X.K es ms (.m j) ms1)) (hb : PE X b (tD X.K es ms1 (.d (.int i)) ms2)) (hj : ms2[j]? = some (some (.l ds))) (hi : L2.atI ds i = some sv) (hp : PlainIx b := by exact fun _ _ => rfl) : PE X (.Subscript a b pos) (tD X.K es ms sv ms2) :=
  pe_w (pe_ix ix_list ha hb hp) fun σ H Q ⟨as, s, k⟩ => ⟨as, s, fun v H1 m1 e1 r1 => ⟨as, s.step m1 e1, fun u H2 m2 e2 r2 => by
    cases r2
    obtain ⟨q, h1, rfl⟩ := r1
    obtain ⟨vs', k2, k3⟩ := m2.list h1 hj
    obtain ⟨w, hw, hr⟩ := k3.atI hi
    exact ⟨_, _, _, w, rfl, rfl, .inl (.inl k2), hw, k w H2 m2 (e1.trans e2) hr⟩⟩⟩
inductive IxOk (ms : Ms) : Sv → Int → Sv → Prop
  | m {j : Nat} {ds : List Sv} {i : Int} {sv : Sv} : ms[j]? = some (some (.l ds)) → L2.atI ds i = some sv → IxOk ms (.m j) i sv
  | lst {ds : List Dt} {i : Int} {d : Dt} : L2.atI ds i = some d → IxOk ms (.d (.lst ds)) i (.d d)
  | tup {ds : List Dt} {i : Int} {d : Dt} : L2.atI ds i = some d → IxOk ms (.d (.tup ds)) i (.d d)
theorem d_ix {i : Int} {sv : Sv} (ha : PE X a (tD X.K es ms x ms1)) (hb : PE X b (tD X.K es ms1 (.d (.int i)) ms2)) (hx : IxOk ms2 x i sv) (hp : PlainIx b := by exact fun _ _ => rfl) : PE X (.Subscript a b pos) (tD X.K es ms sv ms2) := by
  cases hx with
  | m hj hi => exact d_ixM ha hb hj hi hp
  | lst hi => exact d_ixL ha hb hi hp
  | tup hi => exact d_ixT ha hb hi hp
inductive LenOk (ms : Ms) : Sv → Nat → Prop
  | m {j : Nat} {ds : List Sv} {n : Nat} : ms[j]? = some (some (.l ds)) → ds.length = n → LenOk ms (.m j) n
  | lst {ds : List Dt} {n : Nat} : ds.length = n → LenOk ms (.d (.lst ds)) n
  | tup {ds : List Dt} {n : Nat} : ds.length = n → LenOk ms (.d (.tup ds)) n
theorem d_lenA {n : Nat} (hg : Gl X "len") (hm : X.mg "len" = none) (ha : PE X e (tD X.K es ms x ms1)) (hx : LenOk ms1 x n) (he : starEach [e] X.env = (false, eval e X.env) :: starEach [] X.env := by rfl) :
    PE X (.Call (.Name "len" p) [e] [] pos) (tD X.K es ms (.d (.int (n : Int))) ms1) := by
  cases hx with
  | m hj hi => exact d_lenM hg hm ha hj hi he
  | lst hi => exact d_len hg hm ha ⟨_, .inl rfl, hi⟩ he
  | tup hi => exact d_len hg hm ha ⟨_, .inr rfl, hi⟩ he
/-! ### list(..), tuple(..) -/
theorem n_list {d : Dt} {ds : List Dt} (hg : Gl X "list") (hm : X.mg "list" = none) (ha : PE X e (tD X.K es ms (.d d) ms1)) (hd : d = .lst ds ∨ d = .tup ds) (he : starEach [e] X.env = (false, eval e X.env) :: starEach [] X.env := by rfl) :
    PE X (.Call (.Name "list" p) [e] [] pos) (tN X.K es ms (ds.map Sv.d) ms1) :=
  pe_w (pe_callTy call_list_of hg hm (by decide +kernel) (pa_cons ha pa_nil he) (he := he)) fun σ H Q ⟨as, s, k⟩ => ⟨as, s, fun v H1 m1 e1 r1 => by
    have go : ∀ {vs : List V}, RpA X.K (hid as H1) vs ds → ∀ l, H1 l = none → Q (.ref l) (upd H1 l (.lst vs)) := fun hx l hl => k l _ ((m1.more hl (ArR.of hx)).of e1 (old_of e1 m1 hl))
    rcases hd with rfl | rfl
    · cases r1 with | lst hs hx => exact ⟨_, _, rfl, .inl (hid_sub.seq hs), go hx⟩
    · cases r1 with | tup hs hx => exact ⟨_, _, rfl, .inr (sqT_same hid_sub hs), go hx⟩⟩
theorem d_tupleOf {d : Dt} {ds : List Dt} (hg : Gl X "tuple") (hm : X.mg "tuple" = none) (ha : PE X e (tD X.K es ms (.d d) ms1)) (hd : d = .lst ds ∨ d = .tup ds) (he : starEach [e] X.env = (false, eval e X.env) :: starEach [] X.env := by rfl) :
    PE X (.Call (.Name "tuple" p) [e] [] pos) (tD X.K es ms (.d (.tup ds)) ms1) :=
  d_callTy call_tuple_of hg hm (by decide +kernel) (a_cons ha a_nil he) (fun as vs H Q m r k => by
    cases r with | cons r1 r2 =>
      cases r2
      rcases hd with rfl | rfl
      · cases r1 with | lst hs hx => exact ⟨_, _, rfl, .inl ⟨hid_sub.seq hs, fun l hl => k _ _ (m.new hl).1 (m.new hl).2 (.tup (.inl (.inl (m.at_new hl))) (hx.mono (m.new hl).2))⟩⟩
      · cases r1 with | tup hs hx => exact ⟨_, _, rfl, .inr ⟨sqT_same hid_sub hs, k _ _ m (Same.refl _) (.tup hs hx)⟩⟩) (he := he)
end
/-! ### statements -/
inductive Out where
  | nx (es : Es) (ms : Ms) | rt (d : Dt) (ms : Ms) | rn (k : Nat) (ms : Ms) | bk (es : Es) (ms : Ms) | ct (es : Es) (ms : Ms) | rs (x : Xc) (es : Es) (ms : Ms)
structure Stp (n : Nat) (as : As) (H : Hp) (as' : As) (H' : Hp) : Prop where
  same : Same (hid as H) (hid as' H')
  pre : ∀ k : Nat, k < n → as'[k]? = as[k]?
  len : n ≤ as'.length
  news : ∀ a : Addr, some a ∈ as' → some a ∈ as ∨ H a = none
  mono : as.length ≤ as'.length
  keep : ∀ (k : Nat) (a : Addr), k < as.length → as'[k]? = some (some a) → as[k]? = some (some a)
theorem Stp.refl {n : Nat} {as : As} {H : Hp} (h : n ≤ as.length) : Stp n as H as H := ⟨Same.refl _, fun _ _ => rfl, h, fun _ h => .inl h, Nat.le_refl _, fun _ _ _ h => h⟩
theorem Stp.trans {n : Nat} {as as1 as2 : As} {H H1 H2 : Hp} (h : Stp n as H as1 H1) (g : Stp n as1 H1 as2 H2) : Stp n as H as2 H2 := by
  refine ⟨h.same.trans g.same, fun k hk => (g.pre k hk).trans (h.pre k hk), g.len, fun a ha => ?_, Nat.le_trans h.mono g.mono, fun k a hk q => h.keep k a hk (g.keep k a (Nat.lt_of_lt_of_le hk h.mono) q)⟩
  rcases g.news a ha with z | z
  · exact h.news a z
  · by_cases c : some a ∈ as
    · exact .inl c
    · refine .inr ?_
      cases q : H a with
      | none => rfl
      | some o =>
        have := h.same a o (hid_to q c)
        rw [(hid_of this).1] at z
        cases z
theorem Stp.of {n : Nat} {as : As} {H H' : Hp} (h : n ≤ as.length) (e : Same (hid as H) (hid as H')) : Stp n as H as H' := ⟨e, fun _ _ => rfl, h, fun _ h => .inl h, Nat.le_refl _, fun _ _ _ h => h⟩
/-- what a way out asks of what follows -/
def Goes (K : PySem.W.Frag) (W : WX) (D : Ends) (as' : As) (H' : Hp) : Out → Prop
  | .nx es ms => ∀ σ, Sr K as' es ms σ H' → D.nx σ H'
  | .rt d ms => ∀ v, MsR K as' ms H' → Rp K (hid as' H') v d → D.rt v H'
  | .rn k ms => ∀ p, as'[k]? = some (some p) → MsR K as' ms H' → D.rt (.ref p) H'
  | .bk es ms => ∀ σ, Sr K as' es ms σ H' → D.bk σ H'
  | .ct es ms => ∀ σ, Sr K as' es ms σ H' → D.ct σ H'
  | .rs x es ms => ∀ σ cls d, Sr K as' es ms σ H' → XcR K (hid as' H') cls d x → W cls d σ H'
def tS (K : PySem.W.Frag) (n : Nat) (W : WX) (es : Es) (ms : Ms) (P : Out → Prop) : TS := fun D σ H => ∃ as, Sr K as es ms σ H ∧ n ≤ as.length ∧ ∀ o, P o → ∀ as' H', Stp n as H as' H' → Goes K W D as' H' o
section
variable {X : Cx} {n : Nat} {W : WX} {es es1 es2 : Es} {ms ms1 ms2 : Ms} {P P' : Out → Prop} {st : Stmt} {rest body : List Stmt} {e : Expr} {pos : Pos} {sv : Sv} {N : List Str}
/-- behind a block: the rest -/
def Then (X : Cx) (n : Nat) (W : WX) (rest : List Stmt) (P : Out → Prop) : Out → Prop
  | .nx es ms => PSs X rest (tS X.K n W es ms P)
  | o => P o
theorem s_imp (h : ∀ o, P' o → P o) (q : PSs X body (tS X.K n W es ms P')) : PSs X body (tS X.K n W es ms P) := pss_w q fun D σ H ⟨as, s, l, k⟩ => ⟨as, s, l, fun o po => k o (h o po)⟩
theorem s_nil (h : P (.nx es ms)) : PSs X [] (tS X.K n W es ms P) := pss_w pss_nil fun D σ H ⟨as, s, l, k⟩ => k _ h as H (Stp.refl l) σ s
/-- a fact in front -/
theorem Goes.nx {K : PySem.W.Frag} {D D' : Ends} {as : As} {H : Hp} {o : Out} (h : Goes K W D as H o) (hn : ∀ σ H', D.nx σ H' → D'.nx σ H') (hr : D'.rt = D.rt) (hb : D'.bk = D.bk) (hc : D'.ct = D.ct) : Goes K W D' as H o := by
  cases o with
  | nx es ms => exact fun σ s => hn _ _ (h σ s)
  | rt d ms => exact fun v m r => by rw [hr]; exact h v m r
  | rn k ms => exact fun p e m => by rw [hr]; exact h p e m
  | bk es ms => exact fun σ s => by rw [hb]; exact h σ s
  | ct es ms => exact fun σ s => by rw [hc]; exact h σ s
  | rs x es ms => exact h
/-- a statement, told by where it goes -/
theorem s_cons {t : TS} (h : PS X st t) (w : ∀ D σ H as, Sr X.K as es ms σ H → n ≤ as.length → (∀ o, P' o → ∀ as' H', Stp n as H as' H' → Goes X.K W D as' H' o) → t D σ H) (hp : ∀ o, P' o → Then X n W rest P o) : PSs X (st :: rest) (tS X.K n W es ms P) := by
  refine ⟨fun pins s σ H D I ⟨as, s0, l, k⟩ => ?_⟩
  let Mid : St → Hp → Prop := fun σ' H' => ∃ es' ms', PSs X rest (tS X.K n W es' ms' P) ∧ tS X.K n W es' ms' P D σ' H'
  refine wpAny_execs_cons (thn (h.run pins s σ H { D with nx := Mid } I (w _ σ H as s0 l fun o po as' H' st => ?_)) fun f s1 q => ?_)
  · have hk := hp o po
    cases o with
    | nx es' ms' => exact fun σ' s' => ⟨es', ms', hk, as', s', st.len, fun o2 p2 as2 H2 st2 => k o2 p2 as2 H2 (st.trans st2)⟩
    | rt d ms' => exact k _ hk as' H' st
    | rn d ms' => exact k _ hk as' H' st
    | bk es' ms' => exact k _ hk as' H' st
    | ct es' ms' => exact k _ hk as' H' st
    | rs x es' ms' => exact k _ hk as' H' st
  · cases f with
    | next =>
      obtain ⟨σ', H', I', es', ms', hr, q⟩ := q
      exact hr.run pins s1 σ' H' D I' q
    | ret v => exact q
    | brk => exact q
    | cont => exact q
theorem Sr.put {K : PySem.W.Frag} {as : As} {σ : St} {H : Hp} {v : V} {i : Nat} (s : Sr K as es ms σ H) (r : ValR K as H v sv) (h : es1 = es.set i (some sv)) : Sr K as es1 ms (σ.set i (some v)) H := h ▸ s.set i r
/-- x = e -/
theorem s_asg {nm : Str} {p' : Pos} (hN : X.N = N) (nd : N.Nodup) (he : PE X e (tD X.K es ms sv ms1)) (hput : Put N es nm sv es1) (k : PSs X rest (tS X.K n W es1 ms1 P)) (hl : Loc X.env.scope nm := by first | exact Or.inl rfl | exact Or.inr rfl)
    (hs : swapsWith e (some (.Name nm p')) pos.line X.env = pure false := by rfl) (hf : X.fn nm = true ∨ X.env.scope.names.lookup nm = some .local := by first | exact .inl rfl | exact .inr rfl) : PSs X (.Assign [.Name nm p'] e pos :: rest) (tS X.K n W es ms P) := by
  obtain ⟨i, h1, h2⟩ := hput.ix
  refine s_cons (P' := fun o => o = .nx es1 ms1) (ps_set (i := i) (hN ▸ nd) (by rw [hN]; exact h1) hl he hs hf) (fun D σ H as s l kk => ?_) (fun o ho => by subst ho; exact k)
  exact ⟨as, s, fun v H1 m1 e1 r1 => kk _ rfl as H1 (Stp.of l e1) _ ((s.step m1 e1).put r1 h2)⟩
/-- x = a new list, which is to be changed -/
theorem s_asgN {nm : Str} {p' : Pos} {ds : List Sv} (hN : X.N = N) (nd : N.Nodup) (he : PE X e (tN X.K es ms ds ms1)) (hput : Put N es nm (.m ms1.length) es1) (k : PSs X rest (tS X.K n W es1 (ms1 ++ [some (.l ds)]) P)) (hl : Loc X.env.scope nm := by first | exact Or.inl rfl | exact Or.inr rfl)
    (hs : swapsWith e (some (.Name nm p')) pos.line X.env = pure false := by rfl) (hf : X.fn nm = true ∨ X.env.scope.names.lookup nm = some .local := by first | exact .inl rfl | exact .inr rfl) : PSs X (.Assign [.Name nm p'] e pos :: rest) (tS X.K n W es ms P) := by
  obtain ⟨i, h1, h2⟩ := hput.ix
  refine s_cons (P' := fun o => o = .nx es1 (ms1 ++ [some (.l ds)])) (ps_set (i := i) (hN ▸ nd) (by rw [hN]; exact h1) hl he hs hf) (fun D σ H as s l kk => ?_) (fun o ho => by subst ho; exact k)
  refine ⟨as, s, fun p H1 nw => kk _ rfl (as ++ [some p]) H1 ⟨nw.same, fun k hk => List.getElem?_append_left (by omega), by simp; omega, fun a ha => ?_, by simp, fun k a hk q => by rw [List.getElem?_append_left hk] at q; exact q⟩ _ ?_⟩
  · rcases List.mem_append.mp ha with z | z
    · exact .inl z
    · rw [Option.some.inj (List.mem_singleton.mp z)]
      exact .inr nw.free
  · have m1 := nw.mem
    have hlen : ms1.length = as.length := by have := m1.len; simp at this; exact this
    have s1 : Sr X.K (as ++ [some p]) es (ms1 ++ [some (.l ds)]) σ H1 := ⟨s.len, fun i sv h => by
      obtain ⟨v, q1, q2⟩ := s.env i sv h
      exact ⟨v, q1, q2.grow nw.same as_more⟩, m1⟩
    exact s1.put (sv := .m ms1.length) (show ∃ a, (as ++ [some p])[ms1.length]? = some (some a) ∧ V.ref p = V.ref a from ⟨p, by rw [hlen]; simp, rfl⟩) h2
/-- return e -/
theorem s_ret {d : Dt} (he : PE X e (tD X.K es ms (.d d) ms1)) (k : P (.rt d ms1)) : PSs X (.Return (some e) pos :: rest) (tS X.K n W es ms P) :=
  s_cons (P' := fun o => o = .rt d ms1) (ps_ret he) (fun D σ H as s l kk => ⟨as, s, fun v H1 m1 e1 r1 => kk _ rfl as H1 (Stp.of l e1) v m1 r1⟩) (fun o ho => by subst ho; exact k)
theorem Stp.more {as : As} {H H1 : Hp} {p : Addr} (l : n ≤ as.length) (hp : H p = none) (e1 : Same (hid as H) (hid (as ++ [some p]) H1)) : Stp n as H (as ++ [some p]) H1 :=
  ⟨e1, fun k hk => List.getElem?_append_left (by omega), by simp; omega, fun a ha => by
    rcases List.mem_append.mp ha with z | z
    · exact .inl z
    · rw [Option.some.inj (List.mem_singleton.mp z)]
      exact .inr hp,
  by simp, fun k a hk q => by rw [List.getElem?_append_left hk] at q; exact q⟩
/-- return of a new list -/
theorem s_retL {ds : List Sv} (he : PE X e (tN X.K es ms ds ms1)) (k : P (.rn ms1.length (ms1 ++ [some (.l ds)]))) : PSs X (.Return (some e) pos :: rest) (tS X.K n W es ms P) :=
  s_cons (P' := fun o => o = .rn ms1.length (ms1 ++ [some (.l ds)])) (ps_ret he) (fun D σ H as s l kk => ⟨as, s, fun p H1 nw => (kk (.rn ms1.length (ms1 ++ [some (.l ds)])) rfl (as ++ [some p]) H1 (Stp.more l nw.free nw.same) : ∀ q, (as ++ [some p])[ms1.length]? = some (some q) → _ → _) p (by have := nw.mem.len; simp at this; rw [this]; simp) nw.mem⟩) (fun o ho => by subst ho; exact k)
/-- return of a list of ours -/
theorem s_retM {j : Nat} (he : PE X e (tD X.K es ms (.m j) ms1)) (k : P (.rn j ms1)) : PSs X (.Return (some e) pos :: rest) (tS X.K n W es ms P) :=
  s_cons (P' := fun o => o = .rn j ms1) (ps_ret he) (fun D σ H as s l kk => ⟨as, s, fun v H1 m1 e1 r1 => by
    obtain ⟨q, g1, rfl⟩ := r1
    exact kk _ rfl as H1 (Stp.of l e1) q g1 m1⟩) (fun o ho => by subst ho; exact k)
theorem s_retN (k : P (.rt .non ms)) : PSs X (.Return none pos :: rest) (tS X.K n W es ms P) :=
  s_cons (P' := fun o => o = .rt .non ms) ps_retN (fun D σ H as s l kk => kk _ rfl as H (Stp.refl l) .non s.mem .non) (fun o ho => by subst ho; exact k)
/-- an expression alone -/
theorem s_expr (he : PE X e (tD X.K es ms sv ms1)) (k : PSs X rest (tS X.K n W es ms1 P)) (hs : swapsWith e none pos.line X.env = pure false := by rfl) : PSs X (.Expr e pos :: rest) (tS X.K n W es ms P) :=
  s_cons (P' := fun o => o = .nx es ms1) (ps_expr he hs) (fun D σ H as s l kk => ⟨as, s, fun v H1 m1 e1 r1 => kk _ rfl as H1 (Stp.of l e1) _ (s.step m1 e1)⟩) (fun o ho => by subst ho; exact k)
theorem pss_never {l : List Stmt} : PSs X l (fun _ _ _ => False) := ⟨fun _ _ _ _ _ _ h => h.elim⟩
/-- if -/
theorem s_if {c : Expr} {u v : List Stmt} {b : Bool} (hc : PT X c (tBo X.K es ms b ms1)) (h1 : b = true → PSs X u (tS X.K n W es ms1 (Then X n W rest P))) (h2 : b = false → PSs X v (tS X.K n W es ms1 (Then X n W rest P))) : PSs X (.If c u v pos :: rest) (tS X.K n W es ms P) := by
  cases b with
  | true => exact s_cons (P' := Then X n W rest P) (ps_if hc (h1 rfl) pss_never) (fun D σ H as s l kk => ⟨as, s, fun H1 m1 e1 => iteT ⟨as, s.step m1 e1, l, fun o po as' H' st => kk o po as' H' ((Stp.of l e1).trans st)⟩⟩) (fun o h => h)
  | false => exact s_cons (P' := Then X n W rest P) (ps_if hc pss_never (h2 rfl)) (fun D σ H as s l kk => ⟨as, s, fun H1 m1 e1 => iteF ⟨as, s.step m1 e1, l, fun o po as' H' st => kk o po as' H' ((Stp.of l e1).trans st)⟩⟩) (fun o h => h)
theorem s_brk (k : P (.bk es ms)) : PSs X (.Break pos :: rest) (tS X.K n W es ms P) :=
  s_cons (P' := fun o => o = .bk es ms) ps_break (fun D σ H as s l kk => kk _ rfl as H (Stp.refl l) σ s) (fun o ho => by subst ho; exact k)
theorem s_cont (k : P (.ct es ms)) : PSs X (.Continue pos :: rest) (tS X.K n W es ms P) :=
  s_cons (P' := fun o => o = .ct es ms) ps_continue (fun D σ H as s l kk => kk _ rfl as H (Stp.refl l) σ s) (fun o ho => by subst ho; exact k)
theorem s_pass (k : PSs X rest (tS X.K n W es ms P)) : PSs X (.Pass pos :: rest) (tS X.K n W es ms P) :=
  s_cons (P' := fun o => o = .nx es ms) ps_pass (fun D σ H as s l kk => kk _ rfl as H (Stp.refl l) σ s) (fun o ho => by subst ho; exact k)
end
end Dv
/-! # Dv2: what a def promises; its body; calls; loops; comprehensions; stores into lists -/
namespace Dv
open PySem PySem.Spec L2
/-! ### promises -/
inductive Ro where
  | ret (d : Dt) (ms : Ms) | exc (x : Xc) (ms : Ms) | nw (ds : List Sv) (ms : Ms)
abbrev Pre := List Sv → Ms → (Ro → Prop) → Prop
def Pr (K : PySem.W.Frag) (S : Pre) : Sp := fun vs H Q E => ∃ as ss ms R, MsR K as ms H ∧ ArR K as H vs ss ∧ S ss ms R ∧
  (∀ d ms' v H', R (.ret d ms') → MsR K as ms' H' → Same (hid as H) (hid as H') → Rp K (hid as H') v d → Q v H') ∧
  (∀ x ms' cls dd H', R (.exc x ms') → MsR K as ms' H' → Same (hid as H) (hid as H') → XcR K (hid as H') cls dd x → E cls dd H') ∧
  (∀ ds ms' p H', R (.nw ds ms') → New K as H ds ms' p H' → Q (.ref p) H')
def start0 (N : List Str) (ss : List Sv) : Es := ss.map some ++ List.replicate (N.length - ss.length) none
/-- what a def's own lists are for its caller: nothing -/
def forget (n : Nat) : Sv → Sv
  | .m k => if k < n then .m k else .u
  | s => s
theorem forget_m {n k : Nat} : forget n (.m k) = if k < n then .m k else .u := rfl
def cut (n : Nat) (ms : Ms) : Ms := (ms.take n).map (Option.map (Cell.map (forget n)))
def PR (n : Nat) (R : Ro → Prop) : Out → Prop
  | .rt d ms => R (.ret d (cut n ms))
  | .rn k ms => n ≤ k ∧ ∃ ss, ms[k]? = some (some (.l ss)) ∧ R (.nw (ss.map (forget n)) (cut n ms))
  | .nx _ ms => R (.ret .non (cut n ms))
  | .rs x _ ms => R (.exc x (cut n ms))
  | _ => False
theorem forget_low {n : Nat} {ss : List Sv} (h : Low n ss) : ss.map (forget n) = ss := by
  have : ∀ sv ∈ ss, forget n sv = sv := fun sv hs => by
    cases sv with
    | m k =>
      rw [forget_m, if_pos (h k hs)]
    | _ => rfl
  calc ss.map (forget n) = ss.map id := List.map_congr_left this
    _ = ss := List.map_id ss
theorem forget_data {n : Nat} (ds : List Dt) : (ds.map Sv.d).map (forget n) = ds.map Sv.d := forget_low fun k hk => by simp at hk
theorem forget_lowF {n : Nat} : ∀ {fs : List (Str × Sv)}, Low n (fs.map (·.2)) → fs.map (fun p => (p.1, forget n p.2)) = fs
  | [], _ => rfl
  | (f, sv) :: fs, h => by
    have h1 : forget n sv = sv := by
      have := forget_low (n := n) (ss := [sv]) fun k hk => h k (by simp at hk; subst hk; exact List.mem_cons_self)
      simpa using this
    rw [List.map_cons, forget_lowF fun k hk => h k (List.mem_cons_of_mem _ hk), h1]
theorem forget_cell {n : Nat} : ∀ {c : Cell}, Low n c.all → c.map (forget n) = c
  | .l _, h => congrArg Cell.l (forget_low h)
  | .o C _, h => congrArg (Cell.o C) (forget_lowF h)
theorem cut_low {n : Nat} {ms : Ms} (hl : ms.length = n) (h : Lows n ms) : cut n ms = ms := by
  unfold cut
  rw [List.take_of_length_le (Nat.le_of_eq hl)]
  have : ∀ o ∈ ms, Option.map (Cell.map (forget n)) o = o := fun o ho => by
    cases o with
    | none => rfl
    | some ss =>
      obtain ⟨i, hi⟩ := List.getElem?_of_mem ho
      exact congrArg some (forget_cell (h i ss hi))
  calc ms.map (Option.map (Cell.map (forget n))) = ms.map id := List.map_congr_left this
    _ = ms := List.map_id ms
theorem cut_set {n k : Nat} {ms : Ms} {c : Cell} (h : c.map (forget n) = c) : cut n (ms.set k (some c)) = (cut n ms).set k (some c) := by
  unfold cut
  rw [List.take_set, List.map_set]
  show _ = _
  rw [Option.map_some, h]
theorem cut_app {n : Nat} {ms ns : Ms} (h : n ≤ ms.length) : cut n (ms ++ ns) = cut n ms := by
  unfold cut
  rw [List.take_append_of_le_length h]
theorem ArR.forget {K : PySem.W.Frag} {as as' : As} {H : Hp} {n : Nat} (e : Same (hid as' H) (hid as H)) (g : ∀ k : Nat, k < n → as'[k]? = as[k]?) : ∀ {vs : List V} {ss : List Sv}, ArR K as' H vs ss → ArR K as H vs (ss.map (forget n))
  | _, _, .nil => .nil
  | _, _, .cons (sv := sv) h r => .cons (by
      cases sv with
      | m k =>
        rw [forget_m]
        by_cases c : k < n
        · rw [if_pos c]
          obtain ⟨a, h1, h2⟩ := h
          exact ⟨a, by rw [← g k c]; exact h1, h2⟩
        · rw [if_neg c]
          exact True.intro
      | d x => exact Rp.mono e h
      | x a c d y => exact ⟨h.1, h.2.mono e⟩
      | u => exact True.intro) (ArR.forget e g r)
theorem FsR.forget {K : PySem.W.Frag} {as as' : As} {H : Hp} {n : Nat} (e : Same (hid as' H) (hid as H)) (g : ∀ k : Nat, k < n → as'[k]? = as[k]?) : ∀ {vs : List (Str × V)} {ss : List (Str × Sv)}, FsR K as' H vs ss → FsR K as H vs (ss.map fun p => (p.1, forget n p.2))
  | _, _, .nil => .nil
  | _, _, .cons (v := v) (sv := sv) h r => .cons (by
      cases ArR.forget e g (.cons h .nil) with
      | cons h _ => exact h) (FsR.forget e g r)
theorem CellR.forget {K : PySem.W.Frag} {as as' : As} {H : Hp} {n : Nat} (e : Same (hid as' H) (hid as H)) (g : ∀ k : Nat, k < n → as'[k]? = as[k]?) : ∀ {h : HO} {c : Cell}, CellR K as' H h c → CellR K as H h (c.map (forget n))
  | _, .l _, ⟨vs, h1, h2⟩ => ⟨vs, h1, h2.forget e g⟩
  | _, .o _ _, ⟨dx, gs, h1, h2⟩ => ⟨dx, gs, h1, h2.forget e g⟩
theorem MsR.cut {K : PySem.W.Frag} {as as' : As} {ms : Ms} {H : Hp} (m : MsR K as' ms H) (hp : ∀ k : Nat, k < as.length → as'[k]? = as[k]?) (hl : as.length ≤ as'.length) : MsR K as (cut as.length ms) H := by
  have sub : ∀ a : Addr, some a ∈ as → some a ∈ as' := fun a h => by
    obtain ⟨i, hi⟩ := List.getElem?_of_mem h
    exact List.mem_of_getElem? ((hp i (List.getElem?_eq_some_iff.mp hi).1).trans hi)
  have up : ∀ {i : Nat} {a : Option Addr}, as[i]? = some a → i < as.length ∧ as'[i]? = some a := fun {i a} h => by
    have c := (List.getElem?_eq_some_iff.mp h).1
    exact ⟨c, (hp i c).trans h⟩
  have get : ∀ {i : Nat}, i < as.length → (Dv.cut as.length ms)[i]? = ms[i]?.map (Option.map (Cell.map (Dv.forget as.length))) := fun {i} c => by
    unfold Dv.cut
    rw [List.getElem?_map, List.getElem?_take_of_lt c]
  refine ⟨by unfold Dv.cut; rw [List.length_map, List.length_take, m.len]; omega, fun i j a hi hj => m.uniq i j a (up hi).2 (up hj).2, fun i a hi => ?_, fun i hi => ?_⟩
  · obtain ⟨ds, vs, h1, h2, h3⟩ := m.is i a (up hi).2
    exact ⟨_, vs, by rw [get (up hi).1, h1]; rfl, h2, h3.forget (hid_less sub) hp⟩
  · rw [get (up hi).1, m.no i (up hi).2]
    rfl
section
variable {P : Program} {w : World} {K : PySem.W.Frag} {mg : Str → Option Value} {base : Heap}
theorem start_sr {as : As} {H : Hp} {vs : List V} {ss : List Sv} {ms : Ms} {N : List Str} (r : ArR K as H vs ss) (m : MsR K as ms H) : Sr K as (start0 N ss) ms (L2.start N vs) H := by
  have get : ∀ {vs : List V} {ss : List Sv} {i : Nat} {sv : Sv}, ArR K as H vs ss → ss[i]? = some sv → ∃ v, vs[i]? = some v ∧ ValR K as H v sv := by
    intro vs
    induction vs with
    | nil => intro ss i sv r h; cases r; simp at h
    | cons v vs ih =>
      intro ss i sv r h
      cases r with | cons r1 r2 =>
        cases i with
        | zero => simp at h; subst h; exact ⟨v, rfl, r1⟩
        | succ i =>
          obtain ⟨u, h1, h2⟩ := ih r2 (by simpa using h)
          exact ⟨u, by simpa using h1, h2⟩
  refine ⟨by unfold start0 L2.start; simp [r.len], fun i sv h => ?_, m⟩
  unfold start0 at h
  by_cases c : i < ss.length
  · rw [List.getElem?_append_left (by simpa using c), List.getElem?_map] at h
    cases q : ss[i]? with
    | none => rw [q] at h; cases h
    | some sw =>
      rw [q] at h
      cases h
      obtain ⟨v, h1, h2⟩ := get r q
      refine ⟨v, ?_, h2⟩
      unfold L2.start
      rw [List.getElem?_append_left (by rw [List.length_map, r.len]; exact c), List.getElem?_map, h1]
      rfl
  · rw [List.getElem?_append_right (by simpa using Nat.le_of_not_lt c)] at h
    have := List.mem_of_getElem? h
    rw [List.mem_replicate] at this
    cases this.2
theorem body_ok {x qual : Str} {st : Stmt} {f : Addr} {fd : FuncData} {N ps : List Str} {k : Nat} {S : Pre} (F : Fun K x qual st f fd) (Sc : FnScope N ps (defScope st)) (hl : ∀ ss ms R, S ss ms R → ss.length = ps.length)
    (hb : ∀ (cdv : Value) (A : Around) (outer : List Env) (s : Shared) (H : Hp) (E : XK) (X : Cx), X = cxOf (L2.CX P w) P w K mg base N qual (defScope st) f cdv A outer s H E → Room k X.A → Takes X (fun cls d _ H => E cls d H) → PassesOwn (model X.prog X.w) X.A X.env X.xe → ∀ ss ms R, S ss ms R → Dv.cut ms.length ms = ms →
      PSs X (defBody st) (tS K ms.length (fun cls d _ H => E cls d H) (start0 N ss) ms (PR ms.length R))) : FnOk P w K mg base (L2.CX P w) (k + 1) f fd ps (Pr K S) := by
  refine F.okX Sc (fun vs H Q E ⟨as, ss, ms, R, m, r, h, _⟩ => ?_) (fun cdv A outer s H vs Q E hr ⟨as, ss, ms, R, m, r, h, q1, q2, q3⟩ => ?_)
  · rw [r.len]
    exact hl ss ms R h
  · refine ⟨_, hb cdv A outer s H E _ rfl hr (takes_of rfl rfl rfl rfl) (passes_of rfl) ss ms R h (cut_low rfl (by rw [m.len]; exact m.lows)), as, start_sr r m, Nat.le_of_eq m.len, fun o po as' H' st => ?_⟩
    have hlen : ms.length = as.length := m.len
    have sub : ∀ a : Addr, some a ∈ as → some a ∈ as' := fun a ha => by
      obtain ⟨i, hi⟩ := List.getElem?_of_mem ha
      exact List.mem_of_getElem? ((st.pre i (by rw [hlen]; exact (List.getElem?_eq_some_iff.mp hi).1)).trans hi)
    have e2 : Same (hid as' H') (hid as H') := hid_less sub
    have cut : ∀ {ms'}, MsR K as' ms' H' → MsR K as (Dv.cut ms.length ms') H' := fun {ms'} m' => by
      rw [hlen]
      exact m'.cut (fun k hk => st.pre k (by rw [hlen]; exact hk)) (by rw [← hlen]; exact st.len)
    cases o with
    | nx es' ms' => exact fun σ s' => q1 _ _ _ _ po (cut s'.mem) (st.same.trans e2) .non
    | rt d ms' => exact fun v m' r' => q1 _ _ _ _ po (cut m') (st.same.trans e2) (r'.mono e2)
    | rn kk ms' =>
      intro p hpin m'
      obtain ⟨pl, ss, hss, po⟩ := po
      have hle : as.length ≤ kk := by omega
      have hl1 := m'.len
      have hl2 : as.length ≤ ms'.length := by rw [hl1, ← hlen]; exact st.len
      have hnot : some p ∉ as := fun z => by
        obtain ⟨i, hi⟩ := List.getElem?_of_mem z
        have c := (List.getElem?_eq_some_iff.mp hi).1
        have := m'.uniq i kk p ((st.pre i (by omega)).trans hi) hpin
        omega
      have hp : H p = none := by
        rcases st.news p (List.mem_of_getElem? hpin) with z | z
        · exact absurd z hnot
        · exact z
      have sub2 : ∀ a : Addr, some a ∈ as ++ [some p] → some a ∈ as' := fun a ha => by
        rcases List.mem_append.mp ha with z | z
        · exact sub a z
        · rw [List.mem_singleton.mp z]
          exact List.mem_of_getElem? hpin
      have e3 : Same (hid as' H') (hid (as ++ [some p]) H') := hid_less sub2
      have up : ∀ {i : Nat} {a : Option Addr}, (as ++ [some p])[i]? = some a → (i < as.length ∧ as'[i]? = some a) ∨ (i = as.length ∧ a = some p) := fun {i a} h => by
        by_cases c : i < as.length
        · rw [List.getElem?_append_left c] at h
          exact .inl ⟨c, (st.pre i (by omega)).trans h⟩
        · have c3 := (List.getElem?_eq_some_iff.mp h).1
          simp at c3
          have c4 : i = as.length := by omega
          subst c4
          simp at h
          exact .inr ⟨rfl, h.symm⟩
      have pre2 : ∀ k : Nat, k < as.length → as'[k]? = (as ++ [some p])[k]? := fun k c => by rw [List.getElem?_append_left c]; exact st.pre k (by omega)
      have lowF : ∀ ss : List Sv, Low as.length (ss.map (Dv.forget as.length)) := fun ss k hk => by
        obtain ⟨sv, h1, h2⟩ := List.mem_map.mp hk
        cases sv with
        | m j =>
          rw [forget_m] at h2
          by_cases c : j < as.length
          · rw [if_pos c] at h2
            cases h2
            exact c
          · rw [if_neg c] at h2
            cases h2
        | d x => cases h2
        | x a c d y => cases h2
        | u => cases h2
      have get : ∀ {i : Nat}, i < as.length → (Dv.cut as.length ms')[i]? = ms'[i]?.map (Option.map (Cell.map (Dv.forget as.length))) := fun {i} c => by
        unfold Dv.cut
        rw [List.getElem?_map, List.getElem?_take_of_lt c]
      have lc : (Dv.cut as.length ms').length = as.length := by
        unfold Dv.cut
        rw [List.length_map, List.length_take]
        omega
      rw [hlen] at po
      refine q3 _ _ _ _ po ⟨hp, ⟨?_, fun i j a hi hj => ?_, fun i a hi => ?_, fun i hi => ?_⟩, st.same.trans e3, ?_, lowF _⟩
      · rw [List.length_append, List.length_append, lc]
        rfl
      · rcases up hi with ⟨c1, h1⟩ | ⟨c1, h1⟩
        · rcases up hj with ⟨c2, h2⟩ | ⟨c2, h2⟩
          · exact m'.uniq i j a h1 h2
          · cases h2
            have := m'.uniq i kk _ h1 hpin
            omega
        · rcases up hj with ⟨c2, h2⟩ | ⟨c2, h2⟩
          · cases h1
            have := m'.uniq j kk _ h2 hpin
            omega
          · omega
      · rcases up hi with ⟨c1, h1⟩ | ⟨c1, h1⟩
        · obtain ⟨ds', vs', k1, k2, k3⟩ := m'.is i a h1
          exact ⟨_, vs', by rw [List.getElem?_append_left (by rw [lc]; exact c1), get c1, k1]; rfl, k2, k3.forget e3 pre2⟩
        · cases h1
          obtain ⟨vs', k2, k3⟩ := m'.list hpin hss
          refine ⟨.l (ss.map (forget as.length)), .lst vs', ?_, k2, vs', rfl, k3.forget e3 pre2⟩
          rw [c1, List.getElem?_append_right (by rw [lc]; exact Nat.le_refl _), lc]
          simp
      · rcases up hi with ⟨c1, h1⟩ | ⟨c1, h1⟩
        · have := m'.no i h1
          rw [List.getElem?_append_left (by rw [lc]; exact c1), get c1, this]
          rfl
        · cases h1
      · intro i ss h
        unfold Dv.cut at h
        rw [List.getElem?_map] at h
        cases q : (ms'.take as.length)[i]? with
        | none => rw [q] at h; cases h
        | some o =>
          rw [q] at h
          cases o with
          | none => cases h
          | some s0 =>
            cases h
            cases s0 with
            | l ss => exact lowF ss
            | o C fs =>
              have := lowF (fs.map (·.2))
              rw [List.map_map] at this
              show Low _ ((fs.map _).map _)
              rw [List.map_map]
              exact this
    | bk es' ms' => exact po.elim
    | ct es' ms' => exact po.elim
    | rs x es' ms' => exact fun σ cls d s' r' => q2 _ _ _ _ _ po (cut s'.mem) (st.same.trans e2) (r'.mono e2)
end
/-! ### calls -/
def tX (K : PySem.W.Frag) (W : WX) (es : Es) (ms : Ms) (x : Xc) (ms' : Ms) : TE := fun σ H _ => ∃ as, Sr K as es ms σ H ∧
  ∀ cls d H', MsR K as ms' H' → Same (hid as H) (hid as H') → XcR K (hid as H') cls d x → W cls d σ H'
section
variable {X : Cx} {n k : Nat} {W : WX} {es es1 es2 : Es} {ms ms1 ms2 ms3 : Ms} {P P' : Out → Prop} {st : Stmt} {rest body l : List Stmt} {e a b c : Expr} {p pos : Pos} {sv : Sv} {N : List Str} {x0 : Str} {x : Xc}
theorem Sr.args {K : PySem.W.Frag} {as : As} {σ : St} {H : Hp} (s : Sr K as es ms σ H) : MsR K as ms H := s.mem
theorem d_call {f : Addr} {fd : FuncData} {ps : List Str} {S : Pre} {ss : List Sv} {d : Dt} {es0 : List Expr} (G : FnOk X.prog X.w X.K X.mg X.base (L2.CX X.prog X.w) k f fd ps (Pr X.K S)) (hr : Room k X.A) (hg : Gl X x0) (hm : X.mg x0 = some (.ref f)) (hk : PySem.W.keepIn X.K (.ref f) = true) (hb : Binds X.K fd ps [])
    (ha : PA X (e :: es0) (tAr X.K es ms ss ms1)) (hS : S ss ms1 (fun o => o = .ret d ms2)) (hdb : (x0 == ("__debug__" : Str)) = false := by decide) (he : starEach (e :: es0) X.env = (false, eval e X.env) :: starEach es0 X.env := by rfl) (hpl : (backTo pos (starEach es0 X.env)).any (·.1) = false := by rfl) :
    PE X (.Call (.Name x0 p) (e :: es0) [] pos) (tD X.K es ms (.d d) ms2) :=
  pe_w (pe_callS G hr hg hm hk hb (fun σ => passAt takes0 σ) ha hdb he hpl) fun σ H Q ⟨as, s, kk⟩ => ⟨as, s, fun vs H1 m1 e1 r1 => ⟨as, ss, ms1, _, m1, r1, hS, fun d' ms' v H' q m' e' r' => by
    cases q
    exact kk v H' m' (e1.trans e') r', fun x ms' cls dd H' q => (nomatch q), fun ds ms' p H' q => (nomatch q)⟩⟩
theorem n_call {f : Addr} {fd : FuncData} {ps : List Str} {S : Pre} {ss : List Sv} {ds : List Sv} {es0 : List Expr} (G : FnOk X.prog X.w X.K X.mg X.base (L2.CX X.prog X.w) k f fd ps (Pr X.K S)) (hr : Room k X.A) (hg : Gl X x0) (hm : X.mg x0 = some (.ref f)) (hk : PySem.W.keepIn X.K (.ref f) = true) (hb : Binds X.K fd ps [])
    (ha : PA X (e :: es0) (tAr X.K es ms ss ms1)) (hS : S ss ms1 (fun o => o = .nw ds ms2)) (hdb : (x0 == ("__debug__" : Str)) = false := by decide) (he : starEach (e :: es0) X.env = (false, eval e X.env) :: starEach es0 X.env := by rfl) (hpl : (backTo pos (starEach es0 X.env)).any (·.1) = false := by rfl) :
    PE X (.Call (.Name x0 p) (e :: es0) [] pos) (tN X.K es ms ds ms2) :=
  pe_w (pe_callS G hr hg hm hk hb (fun σ => passAt takes0 σ) ha hdb he hpl) fun σ H Q ⟨as, s, kk⟩ => ⟨as, s, fun vs H1 m1 e1 r1 => ⟨as, ss, ms1, _, m1, r1, hS, fun d' ms' v H' q => (nomatch q), fun x ms' cls dd H' q => (nomatch q), fun ds' ms' p H' q nw => by
    cases q
    exact kk p H' (nw.of e1 (old_of e1 m1 nw.free))⟩⟩
theorem d_callX {f : Addr} {fd : FuncData} {ps : List Str} {S : Pre} {ss : List Sv} {es0 : List Expr} (tk : Takes X W) (G : FnOk X.prog X.w X.K X.mg X.base (L2.CX X.prog X.w) k f fd ps (Pr X.K S)) (hr : Room k X.A) (hg : Gl X x0) (hm : X.mg x0 = some (.ref f)) (hk : PySem.W.keepIn X.K (.ref f) = true) (hb : Binds X.K fd ps [])
    (ha : PA X (e :: es0) (tAr X.K es ms ss ms1)) (hS : S ss ms1 (fun o => o = .exc x ms2)) (hdb : (x0 == ("__debug__" : Str)) = false := by decide) (he : starEach (e :: es0) X.env = (false, eval e X.env) :: starEach es0 X.env := by rfl) (hpl : (backTo pos (starEach es0 X.env)).any (·.1) = false := by rfl) :
    PE X (.Call (.Name x0 p) (e :: es0) [] pos) (tX X.K W es ms x ms2) :=
  pe_w (pe_callS G hr hg hm hk hb (fun σ => passAt tk σ) ha hdb he hpl) fun σ H Q ⟨as, s, kk⟩ => ⟨as, s, fun vs H1 m1 e1 r1 => ⟨as, ss, ms1, _, m1, r1, hS, fun d' ms' v H' q => (nomatch q), fun x' ms' cls dd H' q m' e' r' => by
    cases q
    exact kk cls dd H' m' (e1.trans e') r', fun ds ms' p H' q => (nomatch q)⟩⟩
theorem s_asgX {nm : Str} {p' : Pos} (hN : X.N = N) (nd : N.Nodup) (he : PE X e (tX X.K W es ms x ms1)) (hin : nm ∈ N) (kk : P (.rs x es ms1)) (hl : Loc X.env.scope nm := by first | exact Or.inl rfl | exact Or.inr rfl)
    (hs : swapsWith e (some (.Name nm p')) pos.line X.env = pure false := by rfl) (hf : X.fn nm = true ∨ X.env.scope.names.lookup nm = some .local := by first | exact .inl rfl | exact .inr rfl) : PSs X (.Assign [.Name nm p'] e pos :: rest) (tS X.K n W es ms P) := by
  obtain ⟨i, hi⟩ := List.getElem?_of_mem hin
  exact s_cons (P' := fun o => o = .rs x es ms1) (ps_set (i := i) (hN ▸ nd) (by rw [hN]; exact hi) hl he hs hf) (fun D σ H as s l kk => ⟨as, s, fun cls d H1 m1 e1 r1 => kk _ rfl as H1 (Stp.of l e1) σ cls d (s.step m1 e1) r1⟩) (fun o ho => by subst ho; exact kk)
theorem s_retX (he : PE X e (tX X.K W es ms x ms1)) (kk : P (.rs x es ms1)) : PSs X (.Return (some e) pos :: rest) (tS X.K n W es ms P) :=
  s_cons (P' := fun o => o = .rs x es ms1) (ps_ret he) (fun D σ H as s l kk => ⟨as, s, fun cls d H1 m1 e1 r1 => kk _ rfl as H1 (Stp.of l e1) σ cls d (s.step m1 e1) r1⟩) (fun o ho => by subst ho; exact kk)
theorem s_exprX (he : PE X e (tX X.K W es ms x ms1)) (kk : P (.rs x es ms1)) (hs : swapsWith e none pos.line X.env = pure false := by rfl) : PSs X (.Expr e pos :: rest) (tS X.K n W es ms P) :=
  s_cons (P' := fun o => o = .rs x es ms1) (ps_expr he hs) (fun D σ H as s l kk => ⟨as, s, fun cls d H1 m1 e1 r1 => kk _ rfl as H1 (Stp.of l e1) σ cls d (s.step m1 e1) r1⟩) (fun o ho => by subst ho; exact kk)
/-! ### stores into a list of ours -/
theorem ArR.set {K : PySem.W.Frag} {as : As} {H : Hp} {v : V} : ∀ {vs : List V} {ss : List Sv}, ArR K as H vs ss → ValR K as H v sv → ∀ j : Nat, ArR K as H (vs.set j v) (ss.set j sv)
  | _, _, .nil, _, _ => .nil
  | _, _, .cons _ t, h, 0 => .cons h t
  | _, _, .cons r t, h, j + 1 => .cons r (ArR.set t h j)
theorem ArR.app {K : PySem.W.Frag} {as : As} {H : Hp} : ∀ {vs us : List V} {ss ts : List Sv}, ArR K as H vs ss → ArR K as H us ts → ArR K as H (vs ++ us) (ss ++ ts)
  | _, _, _, _, .nil, h => h
  | _, _, _, _, .cons r t, h => .cons r (ArR.app t h)
theorem ixN_nat {n j : Nat} (hj : j < n) : ixN n (j : Int) = some j := by
  unfold ixN
  rw [if_pos (by omega), if_pos (by omega)]
  simp
theorem s_put {i j : Nat} {jz : Int} {d : Sv} {ds : List Sv} {sp : Pos} (he : PE X e (tD X.K es ms d ms1)) (ho : PE X a (tD X.K es ms1 (.m i) ms2)) (hi : PE X b (tD X.K es ms2 (.d (.int jz)) ms3)) (hm : ms3[i]? = some (some (.l ds))) (hj : ixN ds.length jz = some j)
    (kk : PSs X rest (tS X.K n W es (ms3.set i (some (.l (ds.set j d)))) P))
    (hs : swapsWithSole [.Subscript a b sp] e pos.line X.env = pure false := by rfl) (hs2 : swappedStores [.Subscript a b sp] e X.env = pure none := by rfl) (hs3 : (assignEach [.Subscript a b sp] X.env).map (·.2) = [assign (.Subscript a b sp) X.env] := by rfl)
    (hsub : ∀ v : Value, assign (a.Subscript b sp) X.env v = (do
      let ov ← holding [v] (eval a X.env)
      let iv ← holding [v, ov] (eval b X.env)
      standAt sp
      holding [v, ov, iv] (setItem ov iv v)
      release [v, ov, iv] []) := by intro _; rfl) : PSs X (.Assign [.Subscript a b sp] e pos :: rest) (tS X.K n W es ms P) :=
  s_cons (P' := fun o => o = .nx es (ms3.set i (some (.l (ds.set j d))))) (ps_asg he (pg_sub ho hi set_list hsub) hs hs2 hs3) (fun D σ H as s l kk => ⟨as, s, fun v H1 m1 e1 r1 => ⟨as, s.step m1 e1, fun u H2 m2 e2 r2 => ⟨as, s.step m2 (e1.trans e2), fun w H3 m3 e3 r3 => by
    cases r3
    obtain ⟨q, h1, rfl⟩ := r2
    obtain ⟨vs', k2, k3⟩ := m3.list h1 hm
    have hv := r1.mono (e2.trans e3)
    refine ⟨q, vs', jz, j, rfl, rfl, k2, by rw [k3.len]; exact hj, ?_⟩
    have z := m3.put h1 (k3.set hv j)
    have e4 := ((e1.trans e2).trans e3).trans z.2
    exact kk _ rfl as _ (Stp.of l e4) σ (s.step z.1 e4)⟩⟩⟩) (fun o ho => by subst ho; exact kk)
theorem s_append {i : Nat} {d : Sv} {ds : List Sv} {ap cp : Pos} (ho : PE X a (tD X.K es ms (.m i) ms1)) (he : PE X e (tD X.K es ms1 d ms2)) (hm : ms2[i]? = some (some (.l ds))) (hz : ds.length < 100000) (hm1 : ms1[i]? = some (some (.l ds)))
    (kk : PSs X rest (tS X.K n W es (ms2.set i (some (.l (ds ++ [d])))) P))
    (hb : attributeBase a "append" X.env (eval a X.env) = eval a X.env := by rfl)
    (h1 : ((((backTo cp (starEach [e] X.env)).all fun x => !x.1) && (backToKw cp (keywordEach [] X.env)).all fun x => x.1.isSome) && decide (([e].length + ([] : List Keyword).length + if ([] : List Keyword).isEmpty = true then 0 else 1) < 30)) = true := by rfl)
    (h2 : (ap.endLine == cp.line) = true := by rfl) (h3 : starEach [e] X.env = (false, eval e X.env) :: starEach [] X.env := by rfl) (h4 : (backTo cp (starEach [] X.env)).any (·.1) = false := by rfl) (hs : swapsWith (.Call (.Attribute a "append" ap) [e] [] cp) none pos.line X.env = pure false := by rfl) :
    PSs X (.Expr (.Call (.Attribute a "append" ap) [e] [] cp) pos :: rest) (tS X.K n W es ms P) :=
  s_cons (P' := fun o => o = .nx es (ms2.set i (some (.l (ds ++ [d]))))) (ps_expr (pe_bm PySem.F.plainAttrs_list PySem.F.slot_list_append PySem.F.type_list_append mt_append ho (pa_cons he pa_nil h3) hb h1 h2 h3 h4) hs) (fun D σ H as s l kk => ⟨as, s, fun u H2 m2 e2 r2 => by
    obtain ⟨q, g1, rfl⟩ := r2
    obtain ⟨vsa, ka2, ka3⟩ := m2.list g1 hm1
    refine ⟨.inl ⟨rfl, vsa, .inl (.inl ka2)⟩, as, s.step m2 e2, fun v H3 m3 e3 r3 => ?_⟩
    obtain ⟨vs', k2, k3⟩ := m3.list g1 hm
    refine ⟨q, vs', v, rfl, rfl, k2, by rw [k3.len]; exact Nat.lt_of_lt_of_le hz (by decide), ?_⟩
    have z := m3.put g1 (k3.app (.cons r3 .nil))
    have e4 := (e2.trans e3).trans z.2
    exact kk _ rfl as _ (Stp.of l e4) σ (s.step z.1 e4)⟩) (fun o ho => by subst ho; exact kk)
/-! ### a list of ours is left as it is from here on -/
def frz (k : Nat) (ds : List Dt) : Sv → Sv
  | .m j => if j = k then .d (.lst ds) else .m j
  | o => o
theorem frz_m {k j : Nat} {ds : List Dt} : frz k ds (.m j) = if j = k then .d (.lst ds) else .m j := rfl
def frzM (k : Nat) (ds : List Dt) (ms : Ms) : Ms := (ms.map (Option.map (Cell.map (frz k ds)))).set k none
theorem s_freeze {i : Nat} {ds : List Dt} (hi : ms[i]? = some (some (.l (ds.map Sv.d)))) (hn : n ≤ i) (h : PSs X l (tS X.K n W (es.map (Option.map (frz i ds))) (frzM i ds ms) P)) : PSs X l (tS X.K n W es ms P) := pss_w h fun D σ H ⟨as, s, ln, kk⟩ => by
  have hlt : i < as.length := by rw [← s.mem.len]; exact (List.getElem?_eq_some_iff.mp hi).1
  have less : ∀ a : Addr, some a ∈ as.set i none → some a ∈ as := fun a h => by
    rcases List.mem_or_eq_of_mem_set h with h | h
    · exact h
    · cases h
  have e : Same (hid as H) (hid (as.set i none) H) := hid_less less
  have get : ∀ {j : Nat} {a : Addr}, (as.set i none)[j]? = some (some a) → i ≠ j ∧ as[j]? = some (some a) := fun {j a} h => by
    by_cases c : i = j
    · subst c
      rw [List.getElem?_set_self hlt] at h
      cases h
    · rw [List.getElem?_set_ne c] at h
      exact ⟨c, h⟩
  have val : ∀ {v : V} {sv : Sv}, ValR X.K as H v sv → ValR X.K (as.set i none) H v (frz i ds sv) := fun {v sv} h2 => by
    cases sv with
    | d x => exact Rp.mono e h2
    | m r =>
      obtain ⟨a, g1, rfl⟩ := h2
      rw [frz_m]
      by_cases c : r = i
      · rw [if_pos c]
        subst c
        obtain ⟨vs', k2, k3⟩ := s.mem.list g1 hi
        refine Rp.lst (.inl (.inl (hid_to k2 fun z => ?_))) (k3.data.mono e)
        obtain ⟨j', hj'⟩ := List.getElem?_of_mem z
        have := s.mem.uniq j' r a (get hj').2 g1
        exact (get hj').1 this.symm
      · rw [if_neg c]
        exact ⟨a, by rw [List.getElem?_set_ne (Ne.symm c)]; exact g1, rfl⟩
    | x a c dd y => exact ⟨h2.1, h2.2.mono e⟩
    | u => exact True.intro
  have vals : ∀ {vs : List V} {ss : List Sv}, ArR X.K as H vs ss → ArR X.K (as.set i none) H vs (ss.map (frz i ds)) := fun {vs ss} r => by
    induction r with
    | nil => exact .nil
    | cons h _ ih => exact .cons (val h) ih
  have valF : ∀ {vs : List (Str × V)} {ss : List (Str × Sv)}, FsR X.K as H vs ss → FsR X.K (as.set i none) H vs (ss.map fun p => (p.1, frz i ds p.2)) := fun {vs ss} r => by
    induction r with
    | nil => exact .nil
    | cons h _ ih => exact .cons (val h) ih
  have valC : ∀ {h : HO} {c : Cell}, CellR X.K as H h c → CellR X.K (as.set i none) H h (c.map (frz i ds)) := fun {h c} r => by
    cases c with
    | l ss => obtain ⟨vs, h1, h2⟩ := r; exact ⟨vs, h1, vals h2⟩
    | o C fs => obtain ⟨dx, gs, h1, h2⟩ := r; exact ⟨dx, gs, h1, valF h2⟩
  refine ⟨as.set i none, ⟨by rw [List.length_map]; exact s.len, fun j sv h => ?_, ?_⟩, by rw [List.length_set]; exact ln, fun o po as' H' st => kk o po as' H' ?_⟩
  · rw [List.getElem?_map] at h
    cases q : es[j]? with
    | none => rw [q] at h; cases h
    | some o =>
      rw [q] at h
      cases o with
      | none => cases h
      | some sw =>
        obtain ⟨v, h1, h2⟩ := s.env j sw q
        cases h
        exact ⟨v, h1, val h2⟩
  · refine ⟨by unfold frzM; rw [List.length_set, List.length_set, List.length_map]; exact s.mem.len, fun j j' a h1 h2 => s.mem.uniq j j' a (get h1).2 (get h2).2, fun j a h => ?_, fun j h => ?_⟩
    · obtain ⟨c, g⟩ := get h
      obtain ⟨ds', vs', k1, k2, k3⟩ := s.mem.is j a g
      exact ⟨_, vs', by unfold frzM; rw [List.getElem?_set_ne c, List.getElem?_map, k1]; rfl, k2, valC k3⟩
    · unfold frzM
      by_cases c : i = j
      · subst c
        rw [List.getElem?_set_self (by rw [List.length_map, s.mem.len]; exact hlt)]
      · rw [List.getElem?_set_ne c] at h
        rw [List.getElem?_set_ne c, List.getElem?_map, s.mem.no j h]
        rfl
  · refine ⟨e.trans st.same, fun k hk => (st.pre k hk).trans (List.getElem?_set_ne (by omega)), st.len, fun a ha => ?_, by have := st.mono; rw [List.length_set] at this; exact this, fun k a hk q => (get (st.keep k a (by rw [List.length_set]; exact hk) q)).2⟩
    rcases st.news a ha with z | z
    · exact .inl (less a z)
    · exact .inr z
end
end Dv
/-! # Dv3: what is walked, targets, for, while, comprehensions, unpacking -/
namespace Dv
open PySem PySem.Spec L2
/-! ### what is walked: a list of data -/
structure Src (K : PySem.W.Frag) (J : It) (B : Hp → Prop) (ds : List Dt) : Prop where
  mono : ∀ {H H'}, Same H H' → B H → B H'
  go : ∀ {as ms H i}, MsR K as ms H → B (hid as H) → i < ds.length → J.go i H
  stop : ∀ {as ms H i}, MsR K as ms H → B (hid as H) → ds.length ≤ i → J.stop i H
  yld : ∀ {as ms H i x H'}, MsR K as ms H → B (hid as H) → J.yld i H x H' → i < ds.length → ∃ d, ds[i]? = some d ∧ MsR K as ms H' ∧ Same (hid as H) (hid as H') ∧ Rp K (hid as H') x d
def iD (K : PySem.W.Frag) (es : Es) (ms : Ms) (ds : List Dt) (ms' : Ms) : TI := fun σ H R => ∃ as, Sr K as es ms σ H ∧ ∀ J B H', Src K J B ds → B (hid as H') → MsR K as ms' H' → Same (hid as H) (hid as H') → R J H'
section
variable {X : Cx} {n : Nat} {W : WX} {es es1 es2 : Es} {ms ms1 ms2 ms3 : Ms} {P P' : Out → Prop} {rest body l : List Stmt} {e a b c tg : Expr} {p pos : Pos} {N : List Str} {ds : List Dt}
theorem pi_w {iter : Expr} {t t' : TI} (h : PI X tg iter t) (w : ∀ σ H R, t' σ H R → t σ H R) : PI X tg iter t' := ⟨fun p s σ H R I q => h.run p s σ H R I (w σ H R q)⟩
theorem src_list {K : PySem.W.Frag} {q : Addr} : Src K (Itl K q) (fun G => ∃ xs, SqL K G q xs ∧ RpA K G xs ds) ds where
  mono := fun e ⟨xs, h1, h2⟩ => ⟨xs, e.seq h1, h2.mono e⟩
  go := fun {as ms H i} m ⟨xs, h1, h2⟩ hi => by
    have hl : i < xs.length := by rw [h2.len]; exact hi
    exact ⟨xs, xs[i], hid_sub.seq h1, List.getElem?_eq_getElem hl⟩
  stop := fun {as ms H i} m ⟨xs, h1, h2⟩ hi => ⟨xs, hid_sub.seq h1, by rw [h2.len]; exact hi⟩
  yld := fun {as ms H i x H'} m ⟨xs, h1, h2⟩ hy hi => by
    obtain ⟨rfl, hy⟩ := hy
    obtain ⟨d, g1, g2⟩ := h2.get' (hy xs (hid_sub.seq h1))
    exact ⟨d, g1, m, Same.refl _, g2⟩
theorem src_tup {K : PySem.W.Frag} {q : Addr} : Src K (Itt K q) (fun G => ∃ xs, SqT K G q xs ∧ RpA K G xs ds) ds where
  mono := fun e ⟨xs, h1, h2⟩ => ⟨xs, sqT_same e h1, h2.mono e⟩
  go := fun {as ms H i} m ⟨xs, h1, h2⟩ hi => by
    have hl : i < xs.length := by rw [h2.len]; exact hi
    exact ⟨xs, xs[i], sqT_same hid_sub h1, List.getElem?_eq_getElem hl⟩
  stop := fun {as ms H i} m ⟨xs, h1, h2⟩ hi => ⟨xs, sqT_same hid_sub h1, by rw [h2.len]; exact hi⟩
  yld := fun {as ms H i x H'} m ⟨xs, h1, h2⟩ hy hi => by
    obtain ⟨rfl, hy⟩ := hy
    obtain ⟨d, g1, g2⟩ := h2.get' (hy xs (sqT_same hid_sub h1))
    exact ⟨d, g1, m, Same.refl _, g2⟩
/-- lo, lo + 1, .., k of them -/
def irange (lo : Int) (k : Nat) : List Dt := (List.range k).map fun (i : Nat) => Dt.int (lo + (i : Int))
theorem irange_len (lo : Int) (k : Nat) : (irange lo k).length = k := by unfold irange; simp
theorem irange_get {lo : Int} {k i : Nat} (h : i < k) : (irange lo k)[i]? = some (.int (lo + (i : Int))) := by unfold irange; simp [h]
theorem irange_at {lo : Int} {k i : Nat} {d : Dt} (h : (irange lo k)[i]? = some d) : i < k ∧ d = .int (lo + (i : Int)) := by
  have hl : i < k := by
    have := (List.getElem?_eq_some_iff.mp h).1
    rwa [irange_len] at this
  rw [irange_get hl] at h
  exact ⟨hl, (Option.some.inj h).symm⟩
theorem src_rng {K : PySem.W.Frag} {lo : Int} {k : Nat} : Src K (Itr lo k) (fun _ => True) (irange lo k) where
  mono := fun _ h => h
  go := fun {as ms H i} m _ hi => by rw [irange_len] at hi; exact hi
  stop := fun {as ms H i} m _ hi => by rw [irange_len] at hi; exact hi
  yld := fun {as ms H i x H'} m _ hy hi => by
    obtain ⟨rfl, rfl⟩ := hy
    rw [irange_len] at hi
    exact ⟨_, irange_get hi, m, Same.refl _, .int _⟩
/-- (0, x0), (1, x1), .. -/
def enums (ds : List Dt) : List Dt := (List.range ds.length).map fun (i : Nat) => Dt.tup [.int (i : Int), (ds[i]?).getD .non]
theorem enums_len (ds : List Dt) : (enums ds).length = ds.length := by unfold enums; simp
theorem enums_at {i : Nat} {d : Dt} (h : (enums ds)[i]? = some d) : ∃ x, ds[i]? = some x ∧ d = .tup [.int (i : Int), x] := by
  have hl : i < ds.length := by
    have := (List.getElem?_eq_some_iff.mp h).1
    rwa [enums_len] at this
  unfold enums at h
  simp [hl] at h
  exact ⟨ds[i], List.getElem?_eq_getElem hl, h.symm⟩
theorem src_enum {K : PySem.W.Frag} {q : Addr} : Src K (Ite K q) (fun G => ∃ xs, SqL K G q xs ∧ RpA K G xs ds) (enums ds) where
  mono := fun e ⟨xs, h1, h2⟩ => ⟨xs, e.seq h1, h2.mono e⟩
  go := fun {as ms H i} m ⟨xs, h1, h2⟩ hi => by
    rw [enums_len] at hi
    have hl : i < xs.length := by rw [h2.len]; exact hi
    exact ⟨xs, xs[i], hid_sub.seq h1, List.getElem?_eq_getElem hl⟩
  stop := fun {as ms H i} m ⟨xs, h1, h2⟩ hi => ⟨xs, hid_sub.seq h1, by rw [h2.len, ← enums_len]; exact hi⟩
  yld := fun {as ms H i x H'} m ⟨xs, h1, h2⟩ hy hi => by
    obtain ⟨T, y, rfl, hT, rfl, hy⟩ := hy
    obtain ⟨d, g1, g2⟩ := h2.get' (hy xs (hid_sub.seq h1))
    have hl := (List.getElem?_eq_some_iff.mp g1).1
    refine ⟨.tup [.int (i : Int), d], ?_, (m.new hT).1, (m.new hT).2, .tup (.inl (.inl (m.at_new hT))) (.cons (.int _) (.cons (g2.mono (m.new hT).2) .nil))⟩
    unfold enums
    simp [hl]
    rw [List.getElem?_eq_getElem hl] at g1
    exact (Option.some.inj g1)
def zips : List Dt → List Dt → List Dt
  | x :: xs, y :: ys => .tup [x, y] :: zips xs ys
  | _, _ => []
theorem zips_len : ∀ (xs ys : List Dt), (zips xs ys).length = min xs.length ys.length
  | [], _ => by simp [zips]
  | _ :: _, [] => by simp [zips]
  | _ :: xs, _ :: ys => by simp [zips, zips_len xs ys]
theorem zips_get : ∀ {xs ys : List Dt} {i : Nat} {x y : Dt}, xs[i]? = some x → ys[i]? = some y → (zips xs ys)[i]? = some (.tup [x, y])
  | [], _, _, _, _, h, _ => by simp at h
  | _ :: _, [], _, _, _, _, h => by simp at h
  | _ :: _, _ :: _, 0, _, _, h, g => by
    simp at h g
    subst h
    subst g
    rfl
  | _ :: xs, _ :: ys, i + 1, x, y, h, g => by
    have := zips_get (xs := xs) (ys := ys) (i := i) (x := x) (y := y) (by simpa using h) (by simpa using g)
    simpa [zips] using this
theorem zips_at {xs ys : List Dt} {i : Nat} {d : Dt} (h : (zips xs ys)[i]? = some d) : ∃ x y, xs[i]? = some x ∧ ys[i]? = some y ∧ d = .tup [x, y] := by
  have hl := (List.getElem?_eq_some_iff.mp h).1
  rw [zips_len] at hl
  have h1 : i < xs.length := by omega
  have h2 : i < ys.length := by omega
  rw [zips_get (List.getElem?_eq_getElem h1) (List.getElem?_eq_getElem h2)] at h
  exact ⟨_, _, List.getElem?_eq_getElem h1, List.getElem?_eq_getElem h2, (Option.some.inj h).symm⟩
theorem src_zip {K : PySem.W.Frag} {q r : Addr} {cs : List Dt} : Src K (Itz K q r) (fun G => ∃ xs ys, SqL K G q xs ∧ SqL K G r ys ∧ RpA K G xs ds ∧ RpA K G ys cs) (zips ds cs) where
  mono := fun e ⟨xs, ys, h1, h2, h3, h4⟩ => ⟨xs, ys, e.seq h1, e.seq h2, h3.mono e, h4.mono e⟩
  go := fun {as ms H i} m ⟨xs, ys, h1, h2, h3, h4⟩ hi => by
    rw [zips_len] at hi
    have hl : i < xs.length := by rw [h3.len]; omega
    have hl2 : i < ys.length := by rw [h4.len]; omega
    exact ⟨xs, ys, xs[i], ys[i], hid_sub.seq h1, hid_sub.seq h2, List.getElem?_eq_getElem hl, List.getElem?_eq_getElem hl2⟩
  stop := fun {as ms H i} m ⟨xs, ys, h1, h2, h3, h4⟩ hi => ⟨xs, ys, hid_sub.seq h1, hid_sub.seq h2, by rw [h3.len, h4.len]; rw [zips_len] at hi; omega⟩
  yld := fun {as ms H i x H'} m ⟨xs, ys, h1, h2, h3, h4⟩ hy hi => by
    obtain ⟨T, x, y, rfl, hT, rfl, hx, hy⟩ := hy
    obtain ⟨d, g1, g2⟩ := h3.get' (hx xs (hid_sub.seq h1))
    obtain ⟨d2, f1, f2⟩ := h4.get' (hy ys (hid_sub.seq h2))
    exact ⟨.tup [d, d2], zips_get g1 f1, (m.new hT).1, (m.new hT).2, .tup (.inl (.inl (m.at_new hT))) (.cons (g2.mono (m.new hT).2) (.cons (f2.mono (m.new hT).2) .nil))⟩
theorem i_list (h : PE X e (tD X.K es ms (.d (.lst ds)) ms1)) : PI X tg e (iD X.K es ms ds ms1) := pi_w (pi_list h) fun σ H R ⟨as, s, k⟩ => ⟨as, s, fun v H1 m1 e1 r1 => by
  cases r1 with | lst hs hx => exact ⟨_, rfl, ⟨_, hid_sub.seq hs⟩, k _ _ H1 src_list ⟨_, hs, hx⟩ m1 e1⟩⟩
theorem i_tup (h : PE X e (tD X.K es ms (.d (.tup ds)) ms1)) : PI X tg e (iD X.K es ms ds ms1) := pi_w (pi_tup h) fun σ H R ⟨as, s, k⟩ => ⟨as, s, fun v H1 m1 e1 r1 => by
  cases r1 with | tup hs hx => exact ⟨_, rfl, ⟨_, sqT_same hid_sub hs⟩, k _ _ H1 src_tup ⟨_, hs, hx⟩ m1 e1⟩⟩
theorem i_rng {j : Int} (hg : Gl X "range") (hm : X.mg "range" = none) (h : PE X a (tD X.K es ms (.d (.int j)) ms1)) (hj : -(2 ^ 62) ≤ j ∧ j < 2 ^ 62) (he : starEach [a] X.env = [(false, eval a X.env)] := by rfl) :
    PI X tg (.Call (.Name "range" p) [a] [] pos) (iD X.K es ms (irange 0 j.toNat) ms1) := pi_w (pi_range1 hg hm (a_cons h a_nil he) he) fun σ H R ⟨as, s, k⟩ => ⟨as, s, fun v H1 m1 e1 r1 => by
  cases r1 with | cons r1 r2 => cases r2; cases r1; exact ⟨j, rfl, hj.1, hj.2, k _ _ H1 src_rng trivial m1 e1⟩⟩
theorem i_rng2 {i j : Int} (hg : Gl X "range") (hm : X.mg "range" = none) (h : PE X a (tD X.K es ms (.d (.int i)) ms1)) (h2 : PE X b (tD X.K es ms1 (.d (.int j)) ms2)) (hj : -(2 ^ 62) ≤ i ∧ i < 2 ^ 62 ∧ -(2 ^ 62) ≤ j ∧ j < 2 ^ 62) (he : starEach [a, b] X.env = [(false, eval a X.env), (false, eval b X.env)] := by rfl) (he2 : starEach [b] X.env = [(false, eval b X.env)] := by rfl) :
    PI X tg (.Call (.Name "range" p) [a, b] [] pos) (iD X.K es ms (irange i (j - i).toNat) ms2) := pi_w (pi_range2 hg hm (a_cons h (a_cons h2 a_nil he2) (by rw [he, he2])) he he2) fun σ H R ⟨as, s, k⟩ => ⟨as, s, fun v H1 m1 e1 r1 => by
  cases r1 with | cons r1 r2 => cases r2 with | cons r2 r3 => cases r3; cases r1; cases r2; exact ⟨i, j, rfl, hj, k _ _ H1 src_rng trivial m1 e1⟩⟩
theorem i_enum {tpos : Pos} {elts : List Expr} {kk : Nat} (hg : Gl X "enumerate") (hm : X.mg "enumerate" = none) (h : PE X e (tD X.K es ms (.d (.lst ds)) ms1)) (he : starEach [e] X.env = [(false, eval e X.env)] := by rfl) :
    PI X (.Tuple elts kk tpos) (.Call (.Name "enumerate" p) [e] [] pos) (iD X.K es ms (enums ds) ms1) := pi_w (pi_enum hg hm (a_cons h a_nil he) he) fun σ H R ⟨as, s, k⟩ => ⟨as, s, fun v H1 m1 e1 r1 => by
  cases r1 with | cons r1 r2 => cases r2; cases r1 with | lst hs hx => exact ⟨_, _, rfl, hid_sub.seq hs, k _ _ H1 src_enum ⟨_, hs, hx⟩ m1 e1⟩⟩
theorem i_zip {tpos : Pos} {elts : List Expr} {kk : Nat} {cs : List Dt} (hg : Gl X "zip") (hm : X.mg "zip" = none) (h : PE X a (tD X.K es ms (.d (.lst ds)) ms1)) (h2 : PE X b (tD X.K es ms1 (.d (.lst cs)) ms2))
    (he : starEach [a, b] X.env = (false, eval a X.env) :: starEach [b] X.env := by rfl) (he2 : starEach [b] X.env = (false, eval b X.env) :: starEach [] X.env := by rfl) (hpl : (backTo pos (starEach [b] X.env)).any (·.1) = false := by rfl) :
    PI X (.Tuple elts kk tpos) (.Call (.Name "zip" p) [a, b] [] pos) (iD X.K es ms (zips ds cs) ms2) := pi_w (pi_zip hg hm (a_cons h (a_cons h2 a_nil he2) he) he hpl) fun σ H R ⟨as, s, k⟩ => ⟨as, s, fun v H1 m1 e1 r1 => by
  cases r1 with | cons r1 r2 => cases r2 with | cons r2 r3 =>
    cases r3
    cases r1 with | lst hs hx => cases r2 with | lst hs2 hx2 => exact ⟨_, _, _, _, rfl, hid_sub.seq hs, hid_sub.seq hs2, k _ _ H1 src_zip ⟨_, _, hs, hs2, hx, hx2⟩ m1 e1⟩⟩
/-! ### targets -/
def TgS (X : Cx) (g : TG) (B : Dt → Es → Es → Prop) : Prop := ∀ as es ms σ H v d es' (Q : St → Hp → Prop), Sr X.K as es ms σ H → Rp X.K (hid as H) v d → B d es es' → (∀ σ', Sr X.K as es' ms σ' H → Q σ' H) → g v σ H Q
def TgOk (X : Cx) (tg : Expr) (B : Dt → Es → Es → Prop) : Prop := ∃ g, PG X tg g ∧ TgS X g B
def B1 (N : List Str) (x : Str) : Dt → Es → Es → Prop := fun d es es' => Put N es x (.d d) es'
def B2 (N : List Str) (x y : Str) : Dt → Es → Es → Prop := fun d es es' => ∃ d1 d2 e1, d = .tup [d1, d2] ∧ Put N es x (.d d1) e1 ∧ Put N e1 y (.d d2) es'
theorem tg_name {x : Str} (hN : X.N = N) (nd : N.Nodup) (hin : x ∈ N) (hl : Loc X.env.scope x := by first | exact Or.inl rfl | exact Or.inr rfl) (hf : X.fn x = true ∨ X.env.scope.names.lookup x = some .local := by first | exact .inl rfl | exact .inr rfl) : TgOk X (.Name x pos) (B1 N x) := by
  obtain ⟨i, hi⟩ := List.getElem?_of_mem hin
  refine ⟨gName i, pg_name (hN ▸ nd) (by rw [hN]; exact hi) hl hf, fun as es ms σ H v d es' Q s r hb k => ?_⟩
  obtain ⟨j, h1, h2⟩ := hb.ix
  have : i = j := nodup_ix nd hi h1
  subst this
  exact k _ (s.put (sv := .d d) r h2)
theorem tg_two {x y : Str} {p1 p2 : Pos} {kk : Nat} (hN : X.N = N) (nd : N.Nodup) (hin : x ∈ N) (hin2 : y ∈ N) (hc : X.calm = true) (hl : Loc X.env.scope x := by first | exact Or.inl rfl | exact Or.inr rfl) (hf : X.fn x = true ∨ X.env.scope.names.lookup x = some .local := by first | exact .inl rfl | exact .inr rfl)
    (hl2 : Loc X.env.scope y := by first | exact Or.inl rfl | exact Or.inr rfl) (hf2 : X.fn y = true ∨ X.env.scope.names.lookup y = some .local := by first | exact .inl rfl | exact .inr rfl)
    (h1 : (assignEach [.Name x p1, .Name y p2] X.env).length = 2 := by rfl) (h2 : (assignEach [.Name x p1, .Name y p2] X.env).findIdx? (·.1) = none := by rfl)
    (h3 : (assignEach [.Name x p1, .Name y p2] X.env).map (·.2) = assign (.Name x p1) X.env :: (assignEach [.Name y p2] X.env).map (·.2) := by rfl) (h4 : (assignEach [.Name y p2] X.env).map (·.2) = assign (.Name y p2) X.env :: (assignEach [] X.env).map (·.2) := by rfl) : TgOk X (.Tuple [.Name x p1, .Name y p2] kk pos) (B2 N x y) := by
  obtain ⟨g1, hg1, q1⟩ := tg_name (pos := p1) hN nd hin hl hf
  obtain ⟨g2, hg2, q2⟩ := tg_name (pos := p2) hN nd hin2 hl2 hf2
  refine ⟨_, pg_tup (n := 2) hc (pgs_cons hg1 (pgs_cons hg2 pgs_nil h4) h3) h1 h2, fun as es ms σ H v d es' Q s r hb k => ?_⟩
  obtain ⟨d1, d2, e1, rfl, b1, b2⟩ := hb
  cases r with | tup hs hx =>
    cases hx with | cons r1 hx => cases hx with | cons r2 hx =>
      cases hx
      exact ⟨_, _, rfl, sqT_same hid_sub hs, rfl, _, _, rfl, q1 as es ms σ H _ _ _ _ s r1 b1 fun σ1 s1 => ⟨_, _, rfl, q2 as e1 ms σ1 H _ _ _ _ s1 r2 b2 fun σ2 s2 => ⟨rfl, k σ2 s2⟩⟩⟩
/-! ### unpacking -/
theorem s_unpack {d : Dt} {B : Dt → Es → Es → Prop} (he : PE X e (tD X.K es ms (.d d) ms1)) (ht : TgOk X tg B) (hb : B d es es1) (k : PSs X rest (tS X.K n W es1 ms1 P))
    (hs : swapsWithSole [tg] e pos.line X.env = pure false := by rfl) (hs2 : swappedStores [tg] e X.env = pure none := by rfl) (hs3 : (assignEach [tg] X.env).map (·.2) = [assign tg X.env] := by rfl) : PSs X (.Assign [tg] e pos :: rest) (tS X.K n W es ms P) := by
  obtain ⟨g, hg, q⟩ := ht
  exact s_cons (P' := fun o => o = .nx es1 ms1) (ps_asg he hg hs hs2 hs3) (fun D σ H as s l kk => ⟨as, s, fun v H1 m1 e1 r1 => q as es ms1 σ H1 v d es1 _ (s.step m1 e1) r1 hb fun σ' s' => kk _ rfl as H1 (Stp.of l e1) σ' s'⟩) (fun o ho => by subst ho; exact k)
theorem s_unpackX {x : Xc} {B : Dt → Es → Es → Prop} (he : PE X e (tX X.K W es ms x ms1)) (ht : TgOk X tg B) (kk : P (.rs x es ms1))
    (hs : swapsWithSole [tg] e pos.line X.env = pure false := by rfl) (hs2 : swappedStores [tg] e X.env = pure none := by rfl) (hs3 : (assignEach [tg] X.env).map (·.2) = [assign tg X.env] := by rfl) : PSs X (.Assign [tg] e pos :: rest) (tS X.K n W es ms P) := by
  obtain ⟨g, hg, q⟩ := ht
  exact s_cons (P' := fun o => o = .rs x es ms1) (ps_asg he hg hs hs2 hs3) (fun D σ H as s l kk => ⟨as, s, fun cls d H1 m1 e1 r1 => kk _ rfl as H1 (Stp.of l e1) σ cls d (s.step m1 e1) r1⟩) (fun o ho => by subst ho; exact kk)
/-! ### loops -/
theorem pss_self : PSs X body (fun D σ H => ∃ t, PSs X body t ∧ t D σ H) := ⟨fun p s σ H D I ⟨t, h, q⟩ => h.run p s σ H D I q⟩
theorem pt_self : PT X c (fun σ H Q => ∃ t, PT X c t ∧ t σ H Q) := ⟨fun p s σ H Q I ⟨t, h, q⟩ => h.run p s σ H Q I q⟩
def Lp (X : Cx) (n : Nat) (W : WX) (rest : List Stmt) (P : Out → Prop) (I : Es → Ms → Prop) : Out → Prop
  | .nx es ms => I es ms
  | .ct es ms => I es ms
  | .bk es ms => PSs X rest (tS X.K n W es ms P)
  | .rt d ms => P (.rt d ms)
  | .rn d ms => P (.rn d ms)
  | .rs x es ms => P (.rs x es ms)
/-- the ways out of a loop -/
def LpO (X : Cx) (n : Nat) (W : WX) (rest : List Stmt) (P : Out → Prop) : Out → Prop
  | .nx es ms => PSs X rest (tS X.K n W es ms P)
  | .rt d ms => P (.rt d ms)
  | .rn d ms => P (.rn d ms)
  | .rs x es ms => P (.rs x es ms)
  | _ => False
theorem LpO.then : ∀ o, LpO X n W rest P o → Then X n W rest P o
  | .nx _ _, h => h
  | .rt _ _, h => h
  | .rn _ _, h => h
  | .rs _ _ _, h => h
  | .bk _ _, h => h.elim
  | .ct _ _, h => h.elim
theorem s_for {iter : Expr} {B : Dt → Es → Es → Prop} (hi : PI X tg iter (iD X.K es ms ds ms1)) (ht : TgOk X tg B) (I : Nat → Es → Ms → Prop) (h0 : I 0 es ms1)
    (hs : ∀ i d es' ms', ds[i]? = some d → I i es' ms' → ∃ es2, B d es' es2 ∧ PSs X body (tS X.K n W es2 ms' (Lp X n W rest P (I (i + 1)))))
    (hd : ∀ es' ms', I ds.length es' ms' → PSs X rest (tS X.K n W es' ms' P)) (hpo : PassesOwn (model X.prog X.w) X.A X.env X.xe) (hc : X.calm = true) (hset : ∀ x, foldedSetIterable iter X.env x = pure x := by intro _; rfl) :
    PSs X (.For tg iter body [] pos :: rest) (tS X.K n W es ms P) := by
  obtain ⟨g, hg, q⟩ := ht
  refine s_cons (P' := LpO X n W rest P) (ps_for hpo hc hi hg pss_self hset) (fun D σ H as s l kk => ⟨as, s, fun J B' H1 src hB m1 e1 => ?_⟩) LpO.then
  let Wd : Nat → Nat → St → Hp → Prop := fun i m σ' H' => m + i = ds.length ∧ ∃ as' es' ms', I i es' ms' ∧ Sr X.K as' es' ms' σ' H' ∧ Stp n as H as' H' ∧ B' (hid as' H')
  refine ⟨Wd, ⟨ds.length, by simp, as, es, ms1, h0, s.step m1 e1, Stp.of l e1, hB⟩, fun i m σ' H' ⟨hm, as', es', ms', hI, s', st, hB'⟩ => ?_⟩
  by_cases c : i < ds.length
  · refine .inr ⟨src.go s'.mem hB' c, fun σ2 H2 => ∃ m', m' < m ∧ Wd (i + 1) m' σ2 H2, fun σ2 H2 h => h, fun x H2 hy => ?_⟩
    obtain ⟨d, hd1, m2, e2, r2⟩ := src.yld s'.mem hB' hy c
    obtain ⟨es2, b2, hbody⟩ := hs i d es' ms' hd1 hI
    have st2 : Stp n as H as' H2 := st.trans (Stp.of st.len e2)
    refine q as' es' ms' σ' H2 x d es2 _ (s'.step m2 e2) r2 b2 fun σ3 s3 => ⟨_, hbody, as', s3, st.len, fun o po as4 H4 st4 => ?_⟩
    have st5 : Stp n as H as4 H4 := st2.trans st4
    have bb : B' (hid as4 H4) := src.mono (e2.trans st4.same) hB'
    cases o with
    | nx es4 ms4 => exact fun σ4 s4 => ⟨m - 1, by omega, by omega, as4, es4, ms4, po, s4, st5, bb⟩
    | ct es4 ms4 => exact fun σ4 s4 => ⟨m - 1, by omega, by omega, as4, es4, ms4, po, s4, st5, bb⟩
    | bk es4 ms4 => exact fun σ4 s4 => kk (.nx es4 ms4) po as4 H4 st5 σ4 s4
    | rt d4 ms4 => exact kk (.rt d4 ms4) po as4 H4 st5
    | rn d4 ms4 => exact kk (.rn d4 ms4) po as4 H4 st5
    | rs x4 es4 ms4 => exact kk (.rs x4 es4 ms4) po as4 H4 st5
  · have e : i = ds.length := by omega
    subst e
    exact .inl ⟨src.stop s'.mem hB' (Nat.le_refl _), kk (.nx es' ms') (hd es' ms' hI) as' H' st σ' s'⟩
theorem s_while (I : Nat → Es → Ms → Prop) {m0 : Nat} (h0 : I m0 es ms)
    (hs : ∀ m es' ms', I m es' ms' → ∃ b ms2, PT X c (tBo X.K es' ms' b ms2) ∧ (b = true → PSs X body (tS X.K n W es' ms2 (Lp X n W rest P fun es3 ms3 => ∃ m', m' < m ∧ I m' es3 ms3))) ∧ (b = false → PSs X rest (tS X.K n W es' ms2 P)))
    (hpo : PassesOwn (model X.prog X.w) X.A X.env X.xe) : PSs X (.While c body [] pos :: rest) (tS X.K n W es ms P) := by
  refine s_cons (P' := LpO X n W rest P) (ps_while hpo pt_self pss_self) (fun D σ H as s l kk => ?_) LpO.then
  let Wd : Nat → St → Hp → Prop := fun m σ' H' => ∃ as' es' ms', I m es' ms' ∧ Sr X.K as' es' ms' σ' H' ∧ Stp n as H as' H'
  refine ⟨Wd, ⟨m0, as, es, ms, h0, s, Stp.refl l⟩, fun m σ' H' ⟨as', es', ms', hI, s', st⟩ => ?_⟩
  obtain ⟨b, ms2, hc, hT, hF⟩ := hs m es' ms' hI
  refine ⟨_, hc, as', s', fun H2 m2 e2 => ?_⟩
  have st2 : Stp n as H as' H2 := st.trans (Stp.of st.len e2)
  cases b with
  | true =>
    refine iteT ⟨fun σ2 H2 => ∃ m', m' < m ∧ Wd m' σ2 H2, fun σ2 H2 h => h, _, hT rfl, as', s'.step m2 e2, st.len, fun o po as4 H4 st4 => ?_⟩
    have st5 : Stp n as H as4 H4 := st2.trans st4
    cases o with
    | nx es4 ms4 =>
      obtain ⟨m', hm', hI'⟩ := po
      exact fun σ4 s4 => ⟨m', hm', as4, es4, ms4, hI', s4, st5⟩
    | ct es4 ms4 =>
      obtain ⟨m', hm', hI'⟩ := po
      exact fun σ4 s4 => ⟨m', hm', as4, es4, ms4, hI', s4, st5⟩
    | bk es4 ms4 => exact fun σ4 s4 => kk (.nx es4 ms4) po as4 H4 st5 σ4 s4
    | rt d4 ms4 => exact kk (.rt d4 ms4) po as4 H4 st5
    | rn d4 ms4 => exact kk (.rn d4 ms4) po as4 H4 st5
    | rs x4 es4 ms4 => exact kk (.rs x4 es4 ms4) po as4 H4 st5
  | false => exact iteF (kk (.nx es' ms2) (hF rfl) as' H2 st2 σ' (s'.step m2 e2))
end
end Dv
/-! # Dv4: list comprehensions -/
namespace Dv
open PySem PySem.Spec L2
def wipeE : Es → List Nat → Es
  | es, [] => es
  | es, v :: vs => (wipeE es vs).set v none
theorem wipe_get {σ : St} {j : Nat} : ∀ {vs : List Nat}, j ∉ vs → (wipe σ vs)[j]? = σ[j]?
  | [], _ => rfl
  | v :: vs, h => by
    unfold wipe
    rw [List.getElem?_set_ne (fun e => h (by rw [e]; exact List.mem_cons_self)), wipe_get (fun e => h (List.mem_cons_of_mem _ e))]
theorem wipeE_get {es : Es} {j : Nat} {sv : Sv} : ∀ {vs : List Nat}, (wipeE es vs)[j]? = some (some sv) → es[j]? = some (some sv) ∧ j ∉ vs
  | [], h => ⟨h, by simp⟩
  | v :: vs, h => by
    unfold wipeE at h
    by_cases c : v = j
    · subst c
      have hl := (List.getElem?_eq_some_iff.mp h).1
      rw [List.length_set] at hl
      rw [List.getElem?_set_self hl] at h
      cases h
    · rw [List.getElem?_set_ne c] at h
      obtain ⟨h1, h2⟩ := wipeE_get h
      exact ⟨h1, fun z => by
        rcases List.mem_cons.mp z with z | z
        · exact c z.symm
        · exact h2 z⟩
theorem wipeE_len (es : Es) : ∀ vs : List Nat, (wipeE es vs).length = es.length
  | [] => rfl
  | v :: vs => by unfold wipeE; rw [List.length_set, wipeE_len es vs]
theorem Sr.wipe {K : PySem.W.Frag} {as : As} {es : Es} {ms : Ms} {σ : St} {H : Hp} (s : Sr K as es ms σ H) (vs : List Nat) : Sr K as (wipeE es vs) ms (L2.wipe σ vs) H :=
  ⟨by rw [wipeE_len, wipe_length]; exact s.len, fun i sv h => by
    obtain ⟨h1, h2⟩ := wipeE_get h
    obtain ⟨v, g1, g2⟩ := s.env i sv h1
    exact ⟨v, by rw [wipe_get h2]; exact g1, g2⟩, s.mem⟩
theorem wipe_set {σ : St} {j : Nat} {x : Option V} : ∀ {vs : List Nat}, j ∈ vs → L2.wipe (σ.set j x) vs = L2.wipe σ vs
  | v :: vs, h => by
    unfold L2.wipe
    by_cases c : j ∈ vs
    · rw [wipe_set c]
    · have e : j = v := by
        rcases List.mem_cons.mp h with h | h
        · exact h
        · exact absurd h c
      subst e
      have : ∀ {vs : List Nat}, j ∉ vs → L2.wipe (σ.set j x) vs = (L2.wipe σ vs).set j x := by
        intro vs
        induction vs with
        | nil => intro _; rfl
        | cons w ws ih =>
          intro hn
          unfold L2.wipe
          rw [ih (fun z => hn (List.mem_cons_of_mem _ z))]
          exact List.set_comm _ _ (fun z => hn (by rw [z]; exact List.mem_cons_self))
      rw [this c, List.set_set]
theorem wipe_wipe {σ : St} : ∀ {vs ws : List Nat}, (∀ v ∈ vs, v ∈ ws) → L2.wipe (L2.wipe σ vs) ws = L2.wipe σ ws
  | [], _, _ => rfl
  | v :: vs, ws, h => by
    show L2.wipe ((L2.wipe σ vs).set v none) ws = L2.wipe σ ws
    rw [wipe_set (h v List.mem_cons_self), wipe_wipe fun u hu => h u (List.mem_cons_of_mem _ hu)]
/-- the target of a comprehension: it stores into the comprehension's own slots alone -/
def TgL (K : PySem.W.Frag) (g : TG) (vs : List Nat) (B : Dt → Es → Es → Prop) : Prop := ∀ as es ms σ H v d es' (Q : St → Hp → Prop), Sr K as es ms σ H → Rp K (hid as H) v d → B d es es' →
  (∀ σ', Sr K as es' ms σ' H → L2.wipe σ' vs = L2.wipe σ vs → Q σ' H) → g v σ H Q
/-- all blocks of a comprehension -/
abbrev Blk (X : Cx) (scope : Scope) (p : Cx → Prop) : Prop := ∀ (s : Shared) (H : Hp) (C : Addr) (cl : List (Str × Addr)) (fp : List Addr), p (X.blk s H scope (compEnvC scope cl C X.env) fp)
section
variable {X : Cx} {n : Nat} {W : WX} {es es0 es1 es2 : Es} {ms ms1 ms2 ms3 : Ms} {P P' : Out → Prop} {rest body l : List Stmt} {e a b c tg elt iter : Expr} {p pos : Pos} {N : List Str} {ds : List Dt} {res : List Sv} {scope : Scope} {own : List (Str × Nat)} {vs : List Nat} {ifs : List Expr}
/-- what a comprehension asks -/
structure LcH (X : Cx) (scope : Scope) (tg elt : Expr) (ifs : List Expr) (vs : List Nat) (es0 : Es) (ms1 : Ms) (ds : List Dt) (res : List Sv) (ms2 : Ms) (B : Dt → Es → Es → Prop) : Prop where
  inv : ∃ I : Nat → List Sv → Ms → Prop, I 0 [] ms1 ∧ (∀ i d acc ms', ds[i]? = some d → I i acc ms' → ∃ es2, B d es0 es2 ∧ ∃ b msb, Blk X scope (fun Y => PTs Y ifs (tBo X.K es2 (ms' ++ [some (.l acc)]) b (msb ++ [some (.l acc)]))) ∧
      (b = true → ∃ y ms3, Blk X scope (fun Y => PE Y elt (tD X.K es2 (msb ++ [some (.l acc)]) y (ms3 ++ [some (.l acc)]))) ∧ I (i + 1) (acc ++ [y]) ms3) ∧ (b = false → I (i + 1) acc msb)) ∧
    (∀ acc ms', I ds.length acc ms' → acc = res ∧ ms' = ms2) ∧ ∀ i acc ms', Lows ms1.length ms1 → I i acc ms' → Low ms1.length acc ∧ Lows ms1.length ms'
theorem lc_read {g : TG} {B : Dt → Es → Es → Prop} (hz : ds.length ≤ 100000) (hg : TgL X.K g vs B) (h : LcH X scope tg elt ifs vs (wipeE es vs) ms1 ds res ms2 B) (σ : St) (H : Hp) (Q : VK) (t : tN X.K es ms res ms2 σ H Q) :
    tLc (iD X.K es ms ds ms1) g (fun σ H Q => ∃ t, Blk X scope (fun Y => PTs Y ifs t) ∧ t σ H Q) (fun σ H Q => ∃ t, Blk X scope (fun Y => PE Y elt t) ∧ t σ H Q) vs σ H Q := by
  obtain ⟨as, s, k⟩ := t
  obtain ⟨I, i0, is, id, il⟩ := h.inv
  refine ⟨as, s, fun J B' H1 src hB m1 e1 D hD => ?_⟩
  have hDH : H D = none := old_of e1 m1 hD
  have low : ∀ {i : Nat} {acc : List Sv} {ms' : Ms}, I i acc ms' → Low as.length acc ∧ Lows as.length ms' := fun {i acc ms'} q => by
    have z := il i acc ms' (by rw [m1.len]; exact m1.lows) q
    rw [m1.len] at z
    exact z
  let as1 : As := as ++ [some D]
  have hget : as1[as.length]? = some (some D) := by show (as ++ [some D])[as.length]? = _; simp
  let Wd : Nat → Nat → Hp → Prop := fun i m H' => m + i = ds.length ∧ ∃ acc ms', I i acc ms' ∧ acc.length ≤ i ∧ New X.K as H acc ms' D H' ∧ B' (hid as1 H')
  have z0 := m1.more (vs := []) (ss := []) hD .nil
  refine ⟨Wd, ⟨ds.length, by simp, [], ms1, i0, Nat.le_refl _, z0.of e1 hDH, src.mono z0.same hB⟩, fun i m H' ⟨hm, acc, ms', hI, hal, nw, hB'⟩ => ?_⟩
  have m' := nw.mem
  have e' := nw.same
  have hlen : ∀ {ms' : Ms} {acc : List Sv} {H' : Hp}, MsR X.K as1 (ms' ++ [some (.l acc)]) H' → ms'.length = as.length := fun {ms' acc H'} m => by
    have := m.len
    simp [as1] at this
    exact this
  have sr : ∀ {ms' : Ms} {acc : List Sv} {H' : Hp}, MsR X.K as1 (ms' ++ [some (.l acc)]) H' → Same (hid as H) (hid as1 H') → Sr X.K as1 es (ms' ++ [some (.l acc)]) σ H' := fun {ms' acc H'} m e => ⟨s.len, fun i sv h => by
    obtain ⟨v, q1, q2⟩ := s.env i sv h
    exact ⟨v, q1, q2.grow e as_more⟩, m⟩
  by_cases c : i < ds.length
  · refine .inr ⟨src.go m' hB' c, fun H2 => ∃ m2, m2 < m ∧ Wd (i + 1) m2 H2, fun H2 h => h, fun x H2 hy => ?_⟩
    obtain ⟨d, hd1, m2, e2, r2⟩ := src.yld m' hB' hy c
    obtain ⟨es2, b2, b, msb, hT, hy1, hy0⟩ := is i d acc ms' hd1 hI
    have s2 := (sr m2 (e'.trans e2)).wipe vs
    refine hg as1 _ _ _ H2 x d es2 _ s2 r2 b2 fun σ3 s3 hw => ⟨hw.trans (wipe_wipe fun v hv => hv), _, hT, as1, s3, fun H4 m4 e4 => ?_⟩
    have e5 : Same (hid as H) (hid as1 H4) := (e'.trans e2).trans e4
    have bb : B' (hid as1 H4) := src.mono (e2.trans e4) hB'
    cases b with
    | true =>
      obtain ⟨y, ms3, hE, hI'⟩ := hy1 rfl
      refine iteT ⟨_, hE, as1, s3.step m4 e4, fun v H5 m5 e6 r5 => ?_⟩
      have hl5 := hlen m5
      obtain ⟨vs', k2, k3⟩ := m5.list (ss := acc) hget (by rw [← hl5]; simp)
      refine ⟨vs', k2, by rw [k3.len]; exact Nat.lt_of_le_of_lt hal (Nat.lt_of_lt_of_le c (Nat.le_trans hz (by decide))), m - 1, by omega, by omega, acc ++ [y], ms3, hI', by simp; omega, ?_⟩
      have z := m5.put hget (k3.app (.cons r5 .nil))
      rw [← hl5, List.set_append_right _ _ (Nat.le_refl _)] at z
      simp at z
      exact ⟨⟨hDH, z.1, (e5.trans e6).trans z.2, (low hI').2, (low hI').1⟩, src.mono (e6.trans z.2) bb⟩
    | false => exact iteF ⟨m - 1, by omega, by omega, acc, msb, hy0 rfl, by omega, ⟨hDH, m4, e5, (low (hy0 rfl)).2, (low (hy0 rfl)).1⟩, bb⟩
  · have e : i = ds.length := by omega
    subst e
    obtain ⟨rfl, rfl⟩ := id acc ms' hI
    exact .inl ⟨src.stop m' hB' (Nat.le_refl _), k D H' nw⟩
theorem pts_self : Blk X scope (fun Y => PTs Y ifs (fun σ H Q => ∃ t, Blk X scope (fun Y => PTs Y ifs t) ∧ t σ H Q)) := fun s H C cl fp => ⟨fun p s' σ H' Q I ⟨t, h, q⟩ => (h s H C cl fp).run p s' σ H' Q I q⟩
theorem pe_self : Blk X scope (fun Y => PE Y e (fun σ H Q => ∃ t, Blk X scope (fun Y => PE Y e t) ∧ t σ H Q)) := fun s H C cl fp => ⟨fun p s' σ H' Q I ⟨t, h, q⟩ => (h s H C cl fp).run p s' σ H' Q I q⟩
def TgB (X : Cx) (scope : Scope) (tg : Expr) (vs : List Nat) (B : Dt → Es → Es → Prop) : Prop := ∃ g, Blk X scope (fun Y => PG Y tg g) ∧ TgL X.K g vs B
theorem n_lc {B : Dt → Es → Es → Prop} (hc : X.calm = true) (nd : X.N.Nodup) (hi : PI X tg iter (iD X.K es ms ds ms1)) (ok : BlkOk X.N X.env.scope scope own) (hz : ds.length ≤ 100000) (ht : TgB X scope tg (own.map (·.2)) B)
    (h : LcH X scope tg elt ifs (own.map (·.2)) (wipeE es (own.map (·.2))) ms1 ds res ms2 B) (hs : ∀ x, foldedSetIterable iter X.env x = pure x := by intro _; rfl) : PE X (.ListComp elt [⟨tg, iter, ifs, 0⟩] scope pos) (tN X.K es ms res ms2) := by
  obtain ⟨g, hg, q⟩ := ht
  exact pe_w (pe_lc (own := own) hc nd hi ok hg pts_self pe_self hs) (lc_read hz q h)
/-- x = [.. for ..] -/
theorem s_asgLc {B : Dt → Es → Es → Prop} {y : Str} {py spos : Pos} (hc : X.calm = true) (hN : X.N = N) (nd : N.Nodup) (hi : PI X tg iter (iD X.K es ms ds ms1)) (ok : BlkOk X.N X.env.scope scope own) (hz : ds.length ≤ 100000) (ht : TgB X scope tg (own.map (·.2)) B)
    {rd : List Dt} (h : LcH X scope tg elt ifs (own.map (·.2)) (wipeE es (own.map (·.2))) ms1 ds (rd.map Sv.d) ms2 B) (hput : Put N es y (.d (.lst rd)) es1) (kk : PSs X rest (tS X.K n W es1 ms2 P)) (hyl : X.env.scope.names.lookup y = some .local)
    (hsw : swapsWith (.ListComp elt [⟨tg, iter, ifs, 0⟩] scope pos) (some (.Name y py)) spos.line X.env = pure true) (hs : ∀ x, foldedSetIterable iter X.env x = pure x := by intro _; rfl) :
    PSs X (.Assign [.Name y py] (.ListComp elt [⟨tg, iter, ifs, 0⟩] scope pos) spos :: rest) (tS X.K n W es ms P) := by
  obtain ⟨g, hg, q⟩ := ht
  obtain ⟨i, h1, h2⟩ := hput.ix
  refine s_cons (P' := fun o => o = .nx es1 ms2) (ps_setLc (i := i) (own := own) hc (hN ▸ nd) (by rw [hN]; exact h1) hyl hsw hi ok hg pts_self pe_self hs) (fun D σ H as s l kk => ?_) (fun o ho => by subst ho; exact kk)
  exact lc_read hz q h σ H _ ⟨as, s, fun p H1 nw => by
    obtain ⟨m1, e1, vs, hv, r⟩ := nw.back
    exact kk _ rfl as H1 (Stp.of l (nw.same.trans e1)) _ ((s.step m1 (nw.same.trans e1)).put (sv := .d (.lst rd)) (.lst (.inl (.inl hv)) r.data) h2)⟩
/-! ### the targets of comprehensions -/
theorem tb_name {x : Str} {i : Nat} (hN : X.N = N) (nd : N.Nodup) (hi : N[i]? = some x) (hl : Blk X scope fun Y => Loc Y.env.scope x) (hf : Blk X scope fun Y => Y.fn x = true ∨ Y.env.scope.names.lookup x = some .local) : TgB X scope (.Name x pos) [i] (B1 N x) := by
  refine ⟨gName i, fun s H C cl fp => pg_name (X := X.blk s H scope (compEnvC scope cl C X.env) fp) (show X.N.Nodup from hN ▸ nd) (show X.N[i]? = some x by rw [hN]; exact hi) (hl s H C cl fp) (hf s H C cl fp), fun as es ms σ H v d es' Q s r hb k => ?_⟩
  obtain ⟨j, h1, h2⟩ := hb.ix
  have : i = j := nodup_ix nd hi h1
  subst this
  exact k _ (s.put (sv := .d d) r h2) (wipe_set (List.mem_singleton.mpr rfl))
theorem tb_two {x y : Str} {i j : Nat} {p1 p2 : Pos} {kk : Nat} (hN : X.N = N) (nd : N.Nodup) (hi : N[i]? = some x) (hj : N[j]? = some y) (hc : X.calm = true) (hl : Blk X scope fun Y => Loc Y.env.scope x) (hf : Blk X scope fun Y => Y.fn x = true ∨ Y.env.scope.names.lookup x = some .local)
    (hl2 : Blk X scope fun Y => Loc Y.env.scope y) (hf2 : Blk X scope fun Y => Y.fn y = true ∨ Y.env.scope.names.lookup y = some .local)
    (h1 : Blk X scope fun Y => (assignEach [.Name x p1, .Name y p2] Y.env).length = 2) (h2 : Blk X scope fun Y => (assignEach [.Name x p1, .Name y p2] Y.env).findIdx? (·.1) = none)
    (h3 : Blk X scope fun Y => (assignEach [.Name x p1, .Name y p2] Y.env).map (·.2) = assign (.Name x p1) Y.env :: (assignEach [.Name y p2] Y.env).map (·.2)) (h4 : Blk X scope fun Y => (assignEach [.Name y p2] Y.env).map (·.2) = assign (.Name y p2) Y.env :: (assignEach [] Y.env).map (·.2)) :
    TgB X scope (.Tuple [.Name x p1, .Name y p2] kk pos) [i, j] (B2 N x y) := by
  have nd' : X.N.Nodup := hN ▸ nd
  have hi' : X.N[i]? = some x := by rw [hN]; exact hi
  have hj' : X.N[j]? = some y := by rw [hN]; exact hj
  refine ⟨gTup X.K 2 (gCons (gName i) (gCons (gName j) gNil)), fun s H C cl fp => pg_tup (X := X.blk s H scope (compEnvC scope cl C X.env) fp) (n := 2) hc (pgs_cons (pg_name (i := i) nd' hi' (hl s H C cl fp) (hf s H C cl fp)) (pgs_cons (pg_name (i := j) nd' hj' (hl2 s H C cl fp) (hf2 s H C cl fp)) pgs_nil (h4 s H C cl fp)) (h3 s H C cl fp)) (h1 s H C cl fp) (h2 s H C cl fp), fun as es ms σ H v d es' Q s r hb k => ?_⟩
  obtain ⟨d1, d2, e1, rfl, b1, b2⟩ := hb
  cases r with | tup hs hx =>
    cases hx with | cons r1 hx => cases hx with | cons r2 hx =>
      cases hx
      obtain ⟨i', g1, g2⟩ := b1.ix
      obtain ⟨j', g3, g4⟩ := b2.ix
      have ei : i = i' := nodup_ix nd hi g1
      have ej : j = j' := nodup_ix nd hj g3
      subst ei
      subst ej
      refine ⟨_, _, rfl, sqT_same hid_sub hs, rfl, _, _, rfl, _, _, rfl, rfl, k _ ((s.put (sv := .d d1) r1 g2).put (sv := .d d2) r2 g4) ?_⟩
      rw [wipe_set (by simp), wipe_set (by simp)]
end
end Dv
/-! # Dv5: small things for the walk -/
namespace Dv
open PySem PySem.Spec L2
theorem atI0 {α : Type} {a : α} {l : List α} : L2.atI (a :: l) 0 = some a := atI_nat (j := 0) rfl
theorem atI1 {α : Type} {a b : α} {l : List α} : L2.atI (a :: b :: l) 1 = some b := atI_nat (j := 1) rfl
theorem atI2 {α : Type} {a b c : α} {l : List α} : L2.atI (a :: b :: c :: l) 2 = some c := atI_nat (j := 2) rfl
theorem atI3 {α : Type} {a b c d : α} {l : List α} : L2.atI (a :: b :: c :: d :: l) 3 = some d := atI_nat (j := 3) rfl
theorem atI_map {α : Type} {f : α → Dt} {l : List α} {i : Int} {x : α} (h0 : 0 ≤ i) (h : l[i.toNat]? = some x) : L2.atI (l.map f) i = some (f x) := by
  have e : i = ((i.toNat : Nat) : Int) := by omega
  rw [e]
  exact atI_nat (by rw [List.getElem?_map, h]; rfl)
theorem atI_ge {α : Type} {l : List α} {i : Int} {x : α} (h0 : 0 ≤ i) (h : l[i.toNat]? = some x) : L2.atI l i = some x := by
  have e : i = ((i.toNat : Nat) : Int) := by omega
  rw [e]
  exact atI_nat h
theorem lenL {ds : List Dt} : ∃ cs, ((Dt.lst ds) = .lst cs ∨ (Dt.lst ds) = .tup cs) ∧ cs.length = ds.length := ⟨ds, .inl rfl, rfl⟩
theorem lenT {ds : List Dt} : ∃ cs, ((Dt.tup ds) = .lst cs ∨ (Dt.tup ds) = .tup cs) ∧ cs.length = ds.length := ⟨ds, .inr rfl, rfl⟩
theorem cdivW {i j : Int} (h0 : 0 < j) (h : j.natAbs.log2 < 9000) : CDivW i j := ⟨h0, h⟩
theorem mulS {i j : Int} (h0 : -(2 ^ 64) < i ∧ i < 2 ^ 64) (h : -(2 ^ 64) < j ∧ j < 2 ^ 64) : CMulW i j := wide_mul (a := 64) (b := 64) (by omega) (by omega) (by decide) (by decide) (by decide)
theorem ixL4_0 {a b c d : Sv} : ixN [a, b, c, d].length 0 = some 0 := rfl
theorem ixL4_1 {a b c d : Sv} : ixN [a, b, c, d].length 1 = some 1 := rfl
theorem ixL4_2 {a b c d : Sv} : ixN [a, b, c, d].length 2 = some 2 := rfl
theorem ixL4_3 {a b c d : Sv} : ixN [a, b, c, d].length 3 = some 3 := rfl
theorem ms_set {ms : Ms} {k : Nat} {y z : Option Cell} (h : ms[k]? = some y) : (ms.set k z)[k]? = some z := List.getElem?_set_self (List.getElem?_eq_some_iff.mp h).1
theorem ms_ne {ms : Ms} {k j : Nat} {y : Option Cell} {z : Option Cell} (h : ms[k]? = some y) (hj : j ≠ k) : (ms.set j z)[k]? = some y := by rw [List.getElem?_set_ne hj]; exact h
theorem ms_app {ms ns : Ms} {k : Nat} {y : Option Cell} (h : ms[k]? = some y) : (ms ++ ns)[k]? = some y := by rw [List.getElem?_append_left (List.getElem?_eq_some_iff.mp h).1]; exact h
theorem ms_new {ms : Ms} {y : Option Cell} : (ms ++ [y])[ms.length]? = some y := by simp
theorem ms_new' {ms : Ms} {k : Nat} {x y : Option Cell} : (ms.set k x ++ [y])[ms.length]? = some y := by simp
theorem ms_lt {ms : Ms} {k : Nat} {y : Option Cell} (h : ms[k]? = some y) : k < ms.length := (List.getElem?_eq_some_iff.mp h).1
theorem ms_same {ms : Ms} {k : Nat} {y : Option Cell} (h : ms[k]? = some y) : ms.set k y = ms := by
  apply List.ext_getElem?
  intro i
  by_cases c : k = i
  · subst c
    rw [List.getElem?_set_self (ms_lt h), h]
  · rw [List.getElem?_set_ne c]
theorem ms_twice {ms : Ms} {k : Nat} {x y : Option Cell} : (ms.set k x).set k y = ms.set k y := List.set_set ..
section
variable {X : Cx} {n : Nat} {W : WX} {es : Es} {ms ms1 : Ms} {P : Out → Prop} {rest u v : List Stmt} {c : Expr} {pos : Pos} {b : Bool}
def ThenM (M : Es → Ms → Prop) (P : Out → Prop) : Out → Prop
  | .nx es ms => M es ms
  | o => P o
/-- an if, then what holds behind both ways -/
theorem s_ifM (M : Es → Ms → Prop) (hc : PT X c (tBo X.K es ms b ms1)) (h1 : b = true → PSs X u (tS X.K n W es ms1 (ThenM M P))) (h2 : b = false → PSs X v (tS X.K n W es ms1 (ThenM M P))) (h3 : ∀ es' ms', M es' ms' → PSs X rest (tS X.K n W es' ms' P)) :
    PSs X (.If c u v pos :: rest) (tS X.K n W es ms P) := by
  have w : ∀ o, ThenM M P o → Then X n W rest P o := fun o h => by
    cases o with
    | nx es ms => exact h3 es ms h
    | rt d ms => exact h
    | rn d ms => exact h
    | bk es ms => exact h
    | ct es ms => exact h
    | rs x es ms => exact h
  exact s_if hc (fun hb => s_imp w (h1 hb)) (fun hb => s_imp w (h2 hb))
end
end Dv
/-! # Dv6: errors of the package: classes over a class over ArithmeticError, with an __init__ of their own that calls the base's -/
namespace PySem
namespace Exn
open PySem.W PySem.Calls PySem.HandSPX
abbrev amro : List Value := [.type "ArithmeticError", .type "Exception", .type "BaseException", .type "object"]
section
open Builtin Builtin.ObjectAttr
variable {prog : Program} {w : World} {A : Around} {R : Result → Shared → Prop} {hp : Heap} {g : Array GenState} {d : Drawn} {t : Nat} {os : OsState}
/-- the first field of an error -/
theorem osa_new {K : W.Frag} {name : Str} {tk : Tok} {v : Value} {x C : Addr} {fv : Array Value} {cd : ClassData} (X : K.In hp) (hx : hp.get? x = some { cls := .ref C, data := .fields fv })
    (hov : W.excOver K C amro = true) (hcd : W.clsIn K C = some cd) (hh : cd.hasDict = true) (ha : W.findIn K (.ref C) name = some none)
    (hq : ∀ (h' : Heap) (tk' : Nat) (dx : Addr), (∀ b o, b ≠ x → hp.get? b = some o → h'.get? b = some o) → hp.objs.size ≤ dx → dx ≠ x → h'.get? x = some { cls := .ref C, dict := some dx, data := .fields fv } →
      h'.Ns1 dx (fun y => if y = name then some v else none) → R (.ok (.ret .none)) ⟨h', g, d, tk', os⟩) :
    codeAny (model prog w) A (.call (.builtin "object.__setattr__") ⟨[.ref x, .str name tk, v], []⟩) R ⟨hp, g, d, t, os⟩ := by
  have hne : x ≠ hp.objs.size := Nat.ne_of_lt (Heap.lt_size hx)
  have hcls : W.Looks (model prog w) hp (classData C) cd := W.looks_clsIn X hcd
  refine W.osa_openX (r := none) PySem.F.store_ArithmeticError X (od := none) ⟨hx, rfl, rfl, trivial⟩ hov (by unfold W.takerIn; rw [ha]; rfl) fun bb => ?_
  obtain ⟨nm, bs, mro, ns, qn, hd, sn, sb, ab, col, del⟩ := cd
  dsimp only at hh
  subst hh
  dsimp only
  unfold storeInOwnDict
  unfold ownDictForStores
  repeat (first
    | with_reducible refine store_in_new ?_ ?_
    | with_reducible refine wpAny_loadPart_at hx ?_
    | with_reducible refine hcls.at ?_
    | wp_step)
  · refine ⟨_, #[], _, (Heap.get?_update_ne _ _ _ _ hne.symm).trans (Heap.get?_push_at rfl rfl), rfl, ?_, fun _ => rfl⟩
    exact fun e he => absurd he (by simp)
  · intro h' tk' hn' hs
    have h2 : (hp.push { cls := .type "dict", data := .dict #[] }).get? x = some { cls := .ref C, data := .fields fv } := Heap.get?_push_of_some _ hx
    refine hq h' tk' hp.objs.size (fun b o hb ho => ?_) (Nat.le_refl _) hne.symm ?_ hn'
    · refine (hs.2 b (Nat.ne_of_lt (Heap.lt_size ho))).trans ?_
      exact (Heap.get?_update_ne _ _ _ _ hb).trans (Heap.get?_push_of_some _ ho)
    · exact (hs.2 x hne).trans (Heap.get?_update_self _ h2 rfl)
/-- a further field -/
theorem osa_more {K : W.Frag} {name : Str} {tk : Tok} {v : Value} {x C dx : Addr} {fv : Array Value} {cd : ClassData} {m0 : Str → Option Value} {nl : List Str} (X : K.In hp) (hx : hp.get? x = some { cls := .ref C, dict := some dx, data := .fields fv })
    (hns : hp.Ns1 dx m0) (hw : Within m0 nl) (hz : nl.length ≤ 1000) (hov : W.excOver K C amro = true) (hcd : W.clsIn K C = some cd) (hh : cd.hasDict = true) (ha : W.findIn K (.ref C) name = some none)
    (hq : ∀ (h' : Heap) (tk' : Nat), (∀ b o, b ≠ dx → hp.get? b = some o → h'.get? b = some o) → h'.Ns1 dx (fun y => if y = name then some v else m0 y) → R (.ok (.ret .none)) ⟨h', g, d, tk', os⟩) :
    codeAny (model prog w) A (.call (.builtin "object.__setattr__") ⟨[.ref x, .str name tk, v], []⟩) R ⟨hp, g, d, t, os⟩ := by
  obtain ⟨oD, esD, epD, hoD, hdD, _⟩ := hns.count hw
  have hcls : W.Looks (model prog w) hp (classData C) cd := W.looks_clsIn X hcd
  refine W.osa_openX (r := none) PySem.F.store_ArithmeticError X (od := some oD) ⟨hx, rfl, rfl, hoD⟩ hov (by unfold W.takerIn; rw [ha]; rfl) fun bb => ?_
  obtain ⟨nm, bs, mro, ns, qn, hd, sn, sb, ab, col, del⟩ := cd
  dsimp only at hh
  subst hh
  dsimp only
  unfold storeInOwnDict
  unfold ownDictForStores
  repeat (first
    | with_reducible refine PySem.OEX.store_in_old hns hw hz ?_
    | with_reducible refine wpAny_loadPart_at hx ?_
    | with_reducible refine hcls.at ?_
    | wp_step)
  intro h' tk' hn' hs
  exact hq h' tk' (fun b o hb ho => (hs.2 b hb).trans ho) hn'
end
end Exn
end PySem
namespace L2
open PySem PySem.Spec
/-- what the written part says of an error's class -/
structure ExnC (K : PySem.W.Frag) (C : Addr) : Prop where
  cls : ∃ nm q N bs bm sn sub ab col dd k0 k1 k2 k3 k5, K.lookup C = some (excClassObj nm q C N bs bm true sn sub ab col dd k0 k1 k2 k3 k5 "ArithmeticError.__new__") ∧ PySem.W.excTail PySem.Exn.amro bm = true
  sa : PySem.W.findIn K (.ref C) "__setattr__" = some (some (.builtin "object.__setattr__"))
  exC : PySem.W.subIn K (.ref C) (.type "BaseException") = some true
  tyC : PySem.W.typeIn K (.ref C) = some (.type "type")
  kC : PySem.W.keepIn K (.ref C) = true
theorem ExnC.data {K : PySem.W.Frag} {C : Addr} (T : ExnC K C) : ∃ cd, PySem.W.clsIn K C = some cd ∧ cd.hasDict = true ∧ PySem.W.excOver K C PySem.Exn.amro = true := by
  obtain ⟨nm, q, N, bs, bm, sn, sub, ab, col, dd, k0, k1, k2, k3, k5, hC, hbm⟩ := T.cls
  have e : PySem.W.clsIn K C = some { name := nm, bases := bs, mro := .ref C :: bm, ns := N, qualname := q, hasDict := true, slotNames := sn, subclasses := sub, abstract := ab, collection := col, hasDel := false } := by
    unfold PySem.W.clsIn
    rw [hC]
  refine ⟨_, e, rfl, ?_⟩
  unfold PySem.W.excOver
  rw [e]
  show (C == C && PySem.W.excTail PySem.Exn.amro bm) = true
  rw [hbm]
  simp only [beq_self_eq_true, Bool.and_self]
section
variable {X : Cx} {pins : List (Addr × Obj)} {σ : St} {H : Hp} {s : Shared} {a C dx : Addr} {f : Str} {y : V} {u : Value} {fs : List (Str × V)} {Q : Unit → Shared → Prop} {E : Value → Shared → Prop} {A : Around}
theorem exn_new (T : ExnC X.K C) (I : Inv X pins σ H s) (e : H a = some (exo a C none)) (hno : PySem.W.findIn X.K (.ref C) f = some none) (ry : RelV y u)
    (h : ∀ dx s', H dx = none → dx ≠ a → Inv X pins σ (upd (upd H dx (exd dx [(f, y)])) a (exo a C (some dx))) s' → Q () s') : wpAny (model X.prog X.w) A (setAttr (.ref a) f u) Q E s := by
  obtain ⟨cd, hcd, hh, hov⟩ := T.data
  obtain ⟨t1, ho⟩ := exo_at I.hok e
  obtain ⟨hp, g, d, t, os⟩ := s
  refine PySem.W.set_plain I.kIn (od := none) (ox := { cls := .ref C, dict := none, data := .fields #[.ref t1, .none, .none, .none, .bool false, .none] }) ⟨ho, rfl, rfl, trivial⟩ T.sa ?_
  refine PySem.Exn.osa_new I.kIn ho hov hcd hh hno fun h' tk' dx k dn dne hx hn => ?_
  have hnd : H dx = none := I.hok.fresh dn
  have nd : ∀ {b : Addr} {o : Obj}, hp.get? b = some o → b ≠ dx := fun {b o} q z => by
    subst z
    exact absurd (Heap.lt_size q) (Nat.not_lt.mpr dn)
  have na : ∀ {b : Addr}, H b = none → b ≠ a := fun {b} n z => by
    subst z
    rw [e] at n
    exact nomatch n
  refine h dx _ hnd dne (I.un (t' := tk') ?un fun b o q => ?_)
  case un => exact {
    keep := fun b o q n _ _ => k b o (na n) q
    slot := fun b o q n _ _ => ⟨o.slots, k b o (na n) q⟩
    free := fun b o q n _ => by
      rw [upd_ne (na n), upd_ne (nd q)]
      exact n
    there := fun b o q _ => by
      by_cases c : b = a
      · exact ⟨_, c ▸ hx⟩
      · exact ⟨o, k b o c q⟩
    tups := fun b xs q => by
      rw [upd_ne (at_ne e q exo_tup), upd_ne (ne_of_none q hnd)]
      exact q
    frzs := fun b o v q => by
      rw [upd_ne (at_ne e q exo_frz), upd_ne (ne_of_none q hnd)]
      exact q
    tbls := fun b ps q => ⟨#[], by
      rw [upd_ne (at_ne e q exo_tbl), upd_ne (ne_of_none q hnd), q]
      simp⟩ }
  by_cases c : b = a
  · subst c
    rw [upd_same] at q
    cases q
    exact exo_ok hx
  · rw [upd_ne c] at q
    by_cases c2 : b = dx
    · subst c2
      rw [upd_same] at q
      cases q
      exact exd_ok hn (relO_put (fs := []) ry fun g => True.intro)
    · rw [upd_ne c2] at q
      refine (I.hok b o q).stay (fun z v hz r => k z v ?_ r) (fun z hz => ?_) (fun z xs hz => ?_)
      · rcases hz with hz | hz
        · exact hz ▸ c
        · exact at_ne e hz exo_own
      · rw [upd_ne (at_ne e hz exo_own), upd_ne (ne_of_none hz hnd)]
        exact hz
      · rw [upd_ne (at_ne e hz exo_tup), upd_ne (ne_of_none hz hnd)]
        exact hz
theorem exn_more (T : ExnC X.K C) (I : Inv X pins σ H s) (e : H a = some (exo a C (some dx))) (ed : H dx = some (exd dx fs)) (hl : fs.length ≤ 900) (hno : PySem.W.findIn X.K (.ref C) f = some none) (ry : RelV y u)
    (h : ∀ s', Inv X pins σ (upd H dx (exd dx ((f, y) :: fs))) s' → Q () s') : wpAny (model X.prog X.w) A (setAttr (.ref a) f u) Q E s := by
  obtain ⟨cd, hcd, hh, hov⟩ := T.data
  obtain ⟨t1, ho⟩ := exo_at I.hok e
  obtain ⟨mA, hns, rel⟩ := exd_at I.hok ed
  have hw := within_of rel
  obtain ⟨hp, g, d, t, os⟩ := s
  obtain ⟨oD, _, _, hoD, _, _⟩ := hns.count hw
  refine PySem.W.set_plain I.kIn (od := some oD) (ox := { cls := .ref C, dict := some dx, data := .fields #[.ref t1, .none, .none, .none, .bool false, .none] }) ⟨ho, rfl, rfl, hoD⟩ T.sa ?_
  refine PySem.Exn.osa_more I.kIn ho hns hw (by rw [List.length_map]; omega) hov hcd hh hno fun h' tk' k hn => ?_
  have hd : ∃ o, h'.get? dx = some o := by
    obtain ⟨o, _, _, e', _⟩ := hn
    exact ⟨o, e'⟩
  exact h _ (I.write (t' := tk') (x := dx) (e := dx) (o := exd dx ((f, y) :: fs)) (by rw [ed]; exact True.intro) (.inl rfl) k hd (exd_ok hn (relO_put ry rel)))
/-- the base's __init__: nothing of it is told -/
theorem exn_base {us : List Value} {Q : Value → Shared → Prop} (T : ExnC X.K C) (I : Inv X pins σ H s) (e : H a = some (exo a C none)) (hl : us.length ≤ sizeLine) (h : ∀ s', Inv X pins σ H s' → Q .none s') :
    wpAny (model X.prog X.w) A (call (.builtin "ArithmeticError.__init__") (.ref a :: us)) Q E s := by
  obtain ⟨nm, q, N, bs, bm, sn, sub, ab, col, dd, k0, k1, k2, k3, k5, hC, hbm⟩ := T.cls
  obtain ⟨t1, ho⟩ := exo_at I.hok e
  obtain ⟨hp, g, d, t, os⟩ := s
  refine wpAny_call (PySem.HandSPX.init_base PySem.F.excBase_ArithmeticError (fun Y => PySem.W.excTail_contains Y bm hbm) (I.kIn _ _ hC) ho hl fun h' t2 k hx => ?_)
  have J := I.write (t' := t) (x := a) (e := a) (o := exo a C none) (by rw [e]; exact True.intro) (.inl rfl) k ⟨_, hx⟩ (exo_ok hx)
  have eu : upd H a (exo a C none) = H := by
    funext b
    by_cases c : b = a
    · rw [c, upd_same, e]
    · exact upd_ne c
  exact h _ (eu ▸ J)
end
/-- B.__init__(self, ..), B an own class over ArithmeticError without an __init__ -/
def tBase (K : PySem.W.Frag) (ta : TA) : TE := fun σ H Q => ta σ H fun vs H1 => ∃ (a C : Addr) (ws : List V), vs = .ref a :: ws ∧ ws.length ≤ 1000 ∧ ExnC K C ∧ H1 a = some (exo a C none) ∧ Q .non H1
def tSto (K : PySem.W.Frag) (f : Str) (to te : TE) : TS := fun D σ H => te σ H fun y H1 => to σ H1 fun x H2 => ∃ a C : Addr, x = .ref a ∧ ExnC K C ∧ PySem.W.findIn K (.ref C) f = some none ∧
  ((H2 a = some (exo a C none) ∧ ∀ dx, H2 dx = none → dx ≠ a → D.nx σ (upd (upd H2 dx (exd dx [(f, y)])) a (exo a C (some dx)))) ∨
    ∃ (dx : Addr) (fs : List (Str × V)), H2 a = some (exo a C (some dx)) ∧ H2 dx = some (exd dx fs) ∧ fs.length ≤ 900 ∧ D.nx σ (upd H2 dx (exd dx ((f, y) :: fs))))
def tMkE (C : Addr) (sp : Sp) (ta : TA) : St → Hp → XK → Prop := fun σ H Q => ta σ H fun vs H1 => vs.length ≤ 1000 ∧ ∀ a, H1 a = none → sp (.ref a :: vs) (upd H1 a (exo a C none))
  (fun v H2 => v = .non ∧ ∃ (d : Addr) (fs : List (Str × V)), H2 a = some (exo a C (some d)) ∧ H2 d = some (exd d fs) ∧ H1 d = none ∧ Q (.ref C) (some d) (upd (del H2 a) d (.xd fs))) (fun _ _ _ => False)
section
variable {X : Cx} {o e : Expr} {es : List Expr} {to te : TE} {ta : TA} {f : Str} {p p' p1 p2 pos : Pos} {bn : Str} {CB : Addr}
theorem pe_base {pl : Sem Bool} (hg : Gl X bn) (hm : X.mg bn = some (.ref CB)) (hga : PySem.W.specialIn X.K (.ref CB) "__getattribute__" = some (some (.builtin "type.__getattribute__"))) (hrd : PySem.W.readsIn X.K CB (.type "type") = true)
    (hfc : PySem.W.findCls X.K (.ref CB) (.type "type") "__init__" = some (.val (.builtin "ArithmeticError.__init__"))) (ha : PA X (e :: es) ta) (hdb : (bn == ("__debug__" : Str)) = false := by decide)
    (hc : eval (.Call (.Attribute (.Name bn p1) "__init__" p2) (e :: es) [] pos) X.env = (do
      let ov ← eval (.Name bn p1) X.env
      standAt p2.atName
      let (f, first) ← holding [ov] (getMethod ov "__init__" pl)
      callWith pos f first (backTo pos (starEach (e :: es) X.env)) (backToKw pos (keywordEach [] X.env))) := by rfl)
    (he : starEach (e :: es) X.env = (false, eval e X.env) :: starEach es X.env := by rfl) (hpl : (backTo pos (starEach es X.env)).any (·.1) = false := by rfl) :
    PE X (.Call (.Attribute (.Name bn p1) "__init__" p2) (e :: es) [] pos) (tBase X.K ta) := by
  refine ⟨fun pins s σ H Q I h => ?_⟩
  refine PySem.W.methodCall_KW (ld_glob I hg hm ?_ hdb) hc
  refine PySem.W.method_cls (PySem.W.Frag.In.keeps I.kIn fun _ _ z => z) hga ?_
  refine PySem.W.cls_value (mc := .type "type") (PySem.W.Frag.In.keeps I.kIn fun _ _ z => z) hrd hfc (by decide +kernel) ?_
  show wpAny _ _ (callWith pos (Value.builtin "ArithmeticError.__init__") [] (backTo pos (starEach (e :: es) X.env)) []) _ _ _
  refine PyProof.Rows.callWith_method1 (thn (ha.run pos pins _ σ H _ (I.tok _) h) fun us s1 ⟨vs, H1, I1, r1, a, C, ws, ev, hl, T, ea, q⟩ => ?_) he hpl
  subst ev
  cases r1 with
  | @cons _ u0 _ ur ra rw' =>
    obtain rfl : u0 = Value.ref a := ra
    refine exn_base T I1 ea ?_ fun s' J => ⟨.non, H1, J, rfl, q⟩
    rw [← Paired.length rw', sizeLine_eq]
    omega
theorem ps_sto (ho : PE X o to) (he : PE X e te) (hs : swapsWith e (some (.Attribute o f p')) pos.line X.env = pure false := by rfl) : PS X (.Assign [.Attribute o f p'] e pos) (tSto X.K f to te) := by
  refine ⟨fun pins s σ H D I h => ?_⟩
  refine plainObj_wpAny_Assign_Attribute (thn (he.run pins s σ H _ I h) fun v s1 ⟨y, H1, I1, r1, q1⟩ => thn (ho.run pins s1 σ H1 _ I1 q1) fun u s2 ⟨x, H2, I2, r2, a, C, ex, T, hno, q⟩ => ?_) hs
  subst ex
  obtain rfl : u = Value.ref a := r2
  rcases q with ⟨ea, q⟩ | ⟨dx, fs, ea, ed, hl, q⟩
  · refine exn_new T I2 ea hno r1 fun dx s' n ne J => ?_
    exact ⟨σ, _, J, q dx n ne⟩
  · refine exn_more T I2 ea ed hl hno r1 fun s' J => ?_
    exact ⟨σ, _, J, q⟩
theorem pmk_exn {CX : CXT} {x : Str} {C fI : Addr} {k : Nat} {fd : FuncData} {ps : List Str} {sp : Sp} (T : ExnC X.K C) (iC : PySem.W.findIn X.K (.ref C) "__init__" = some (some (.ref fI))) (tI : PySem.W.typeIn X.K (.ref fI) = some (.type "function"))
    (F1 : FnOk X.prog X.w X.K X.mg X.base CX k fI fd ps sp) (hr : Room (k + 1) X.A) (hb : Binds X.K fd ps []) (hx : Passes CX X (fun _ _ _ => False)) (hg : Gl X x) (hm : X.mg x = some (.ref C)) (ha : PA X (e :: es) ta)
    (hdb : (x == ("__debug__" : Str)) = false := by decide) (he : starEach (e :: es) X.env = (false, eval e X.env) :: starEach es X.env := by rfl) (hpl : (backTo pos (starEach es X.env)).any (·.1) = false := by rfl) :
    PMk X (.Call (.Name x p) (e :: es) [] pos) (tMkE C sp ta) := by
  intro pins s σ H Q I h
  obtain ⟨nm, q, N, bs, bm, sn, sub, ab, col, dd, k0, k1, k2, k3, k5, hC, hbm⟩ := T.cls
  refine wpAny_Call_Name_kw (ld_glob I hg hm ?_ hdb)
  refine PySem.W.callWith_K (h₀ := X.base) I.ok.mod.kin T.kC (thn (ha.run pos pins s σ H _ I h) fun us s1 ⟨vs, H1, I1, r1, hz, q1⟩ => ⟨I1.kIn, ?_⟩) he hpl
  show wpAny _ _ (call (.ref C) us) _ _ _
  obtain ⟨hp, g, dr, tk, os⟩ := s1
  have hsz : hp.objs.size ≤ hp.objs.size + 1 := Nat.le_succ _
  have hq := q1 (hp.objs.size + 1) (I1.hok.fresh hsz)
  have up : ∀ b o, hp.get? b = some o → ((hp.push (PySem.W.kdv_tup us)).push (PySem.HandSPX.excO C hp.objs.size)).get? b = some o := fun b o e => Heap.get?_push_of_some _ (Heap.get?_push_of_some _ e)
  have new : ((hp.push (PySem.W.kdv_tup us)).push (PySem.HandSPX.excO C hp.objs.size)).get? (hp.objs.size + 1) = some (PySem.HandSPX.excO C hp.objs.size) := by heap_get
  have I2 : Inv X pins σ (upd H1 (hp.objs.size + 1) (exo (hp.objs.size + 1) C none)) ⟨(hp.push (PySem.W.kdv_tup us)).push (PySem.HandSPX.excO C hp.objs.size), g, dr, tk, os⟩ :=
    I1.laid (t' := tk) (a := hp.objs.size + 1) (o := exo (hp.objs.size + 1) C none) up hsz (exo_ok new)
  have r2 : Vals (V.ref (hp.objs.size + 1) :: vs) (Value.ref (hp.objs.size + 1) :: us) := .cons rfl r1
  have hl : (Value.ref (hp.objs.size + 1) :: us).length = ps.length := by
    rw [← r2.length]
    exact F1.len _ _ _ _ hq
  have hus : us.length ≤ sizeLine := by
    rw [← Paired.length r1, sizeLine_eq]
    omega
  have bnd := hb ⟨(hp.push (PySem.W.kdv_tup us)).push (PySem.HandSPX.excO C hp.objs.size), g, dr, tk, os⟩ (Value.ref (hp.objs.size + 1) :: us) I2.kIn (by rw [List.append_nil]; exact hl)
  rw [List.append_nil] at bnd
  refine wpAny_call (PySem.HandSPX.call_own PySem.F.excBase_ArithmeticError (fun Y => PySem.W.excTail_contains Y bm hbm) (I1.kIn _ _ hC) (PySem.W.looks_findIn I1.kIn iC) (fun self => PySem.W.bind_fn I1.kIn self tI) hus ?_)
  refine codeAny_mono (F1.run _ X.stack _ _ ⟨Value.ref (hp.objs.size + 1) :: us, []⟩ (Value.ref (hp.objs.size + 1) :: us) _ _ (fun _ _ _ => False) (hr.make C us []) (I2.env0.make C us []) bnd r2 hq) fun r s' hq' => ?_
  cases r with
  | error er => exact hx pins σ _ _ er s' I2 hq'
  | ok fl =>
    cases fl with
    | ret u =>
      obtain ⟨v, H2, os2, bare2, un2, hok2, rv, ev, d, fs, ea, ed, hd1, q2⟩ := hq'
      subst ev
      obtain ⟨h2, g2, d2, t2, os'⟩ := s'
      exact ⟨rv, mk_end (raises_own T.exC T.tyC) I1 hsz up un2 hok2 os2 bare2 ea ed hd1 q2⟩
    | next => exact False.elim hq'
    | brk => exact False.elim hq'
    | cont => exact False.elim hq'
end
end L2
/-! # Dv7: raise, try; calls by a package of facts; isinstance by the datum -/
namespace Dv
open PySem PySem.Spec L2
theorem MsR.ext {K : PySem.W.Frag} {as : As} {ms : Ms} {H H' : Hp} (m : MsR K as ms H) (e : Same H H') : MsR K as ms H' ∧ Same (hid as H) (hid as H') := by
  have q : Same (hid as H) (hid as H') := fun a o h => hid_to (e _ _ (hid_of h).1) (hid_of h).2
  refine ⟨⟨m.len, m.uniq, fun i a hi => ?_, m.no⟩, q⟩
  obtain ⟨c, o, h1, h2, h3⟩ := m.is i a hi
  exact ⟨c, o, h1, e _ _ h2, h3.mono q⟩
theorem RpF.zip {K : PySem.W.Frag} {H : Hp} : ∀ {fs : List Str} {vs : List V} {ds : List Dt}, RpA K H vs ds → RpF K H (fs.zip vs) (fs.zip ds)
  | [], _, _, _ => by simp; exact .nil
  | _ :: _, _, _, .nil => by simp; exact .nil
  | f :: fs, _, _, .cons h r => .cons h (RpF.zip r)
theorem RpF.app {K : PySem.W.Frag} {H : Hp} : ∀ {fs gs : List (Str × V)} {cs ds : List (Str × Dt)}, RpF K H fs cs → RpF K H gs ds → RpF K H (fs ++ gs) (cs ++ ds)
  | _, _, _, _, .nil, s => s
  | _, _, _, _, .cons h r, s => .cons h (RpF.app r s)
theorem RpF.rev {K : PySem.W.Frag} {H : Hp} : ∀ {fs : List (Str × V)} {ds : List (Str × Dt)}, RpF K H fs ds → RpF K H fs.reverse ds.reverse
  | _, _, .nil => .nil
  | _, _, .cons h r => by
    rw [List.reverse_cons, List.reverse_cons]
    exact RpF.app (RpF.rev r) (.cons h .nil)
theorem RpF.look {K : PySem.W.Frag} {H : Hp} {f : Str} {d : Dt} : ∀ {fs : List (Str × V)} {ds : List (Str × Dt)}, RpF K H fs ds → ds.lookup f = some d → ∃ v, fs.lookup f = some v ∧ Rp K H v d
  | _, _, .nil, h => by simp at h
  | _, _, .cons (f := g) (v := v) h r, e => by
    rw [List.lookup_cons] at e
    rw [List.lookup_cons]
    split at e
    · cases e
      exact ⟨v, rfl, h⟩
    · exact RpF.look r e
/-- what the __init__ of an error promises: its fields are its arguments -/
def spInit (C : Addr) (fs : List Str) (ok : Hp → List V → Prop) : Sp := fun vs H Q _ => ∃ a xs, vs = .ref a :: xs ∧ xs.length = fs.length ∧ ok H xs ∧ H a = some (exo a C none) ∧
  ∀ d H', H d = none → d ≠ a → H' a = some (exo a C (some d)) → H' d = some (exd d (fs.zip xs).reverse) → (∀ (b : Addr) (o : HO), b ≠ a → H b = some o → H' b = some o) → Q .non H'
/-- the facts of an error's class -/
structure Err (P : Program) (w : World) (K : PySem.W.Frag) (mg : Str → Option Value) (base : Heap) (lev : Nat) (nm : Str) (fs : List Str) (ok : Hp → List V → Prop) : Prop where
  T : ExnC K (clsA K nm)
  init : ∃ fI fd ps, PySem.W.findIn K (.ref (clsA K nm)) "__init__" = some (some (.ref fI)) ∧ PySem.W.typeIn K (.ref fI) = some (.type "function") ∧ FnOk P w K mg base (L2.CX P w) lev fI fd ps (spInit (clsA K nm) fs ok) ∧ Binds K fd ps []
  mg : mg nm = some (.ref (clsA K nm))
/-- the facts of a def -/
structure Callee (P : Program) (w : World) (K : PySem.W.Frag) (mg : Str → Option Value) (base : Heap) (nm : Str) (k : Nat) (S : Pre) : Prop where
  ok : ∃ f fd ps, FnOk P w K mg base (L2.CX P w) k f fd ps (Pr K S) ∧ mg nm = some (.ref f) ∧ PySem.W.keepIn K (.ref f) = true ∧ Binds K fd ps []
section
variable {X : Cx} {n k : Nat} {W : WX} {es es1 es2 : Es} {ms ms1 ms2 ms3 : Ms} {P P' : Out → Prop} {rest body suite l : List Stmt} {e a b c : Expr} {es0 : List Expr} {p pos : Pos} {N : List Str} {x0 : Str} {x : Xc} {C : Addr} {fs : List Str} {ok : Hp → List V → Prop}
variable {PP : Program} {w : World} {K : PySem.W.Frag} {mg : Str → Option Value} {base : Heap}
theorem passNone : Passes (L2.CX X.prog X.w) X (fun _ _ _ => False) := passL
theorem s_raise {ds : List Dt} (tk : Takes X W) {lev k' : Nat} (T : Err PP w K mg base lev x0 fs ok) (hX : PP = X.prog ∧ w = X.w ∧ K = X.K ∧ mg = X.mg ∧ base = X.base) (hr : Room k' X.A) (hk : lev + 1 ≤ k') (hc : X.calm = true) (hg : Gl X x0) (ha : PA X (e :: es0) (tAr X.K es ms (ds.map Sv.d) ms1)) (hl : ds.length = fs.length) (hz : ds.length ≤ 1000)
    (hok : ∀ H vs, RpA X.K H vs ds → ok H vs) (kk : P (.rs ⟨x0, (fs.zip ds).reverse⟩ es ms1)) (hdb : (x0 == ("__debug__" : Str)) = false := by decide)
    (he : starEach (e :: es0) X.env = (false, eval e X.env) :: starEach es0 X.env := by rfl) (hpl : (backTo p (starEach es0 X.env)).any (·.1) = false := by rfl) {p0 : Pos} :
    PSs X (.Raise (some (.Call (.Name x0 p0) (e :: es0) [] p)) none pos :: rest) (tS X.K n W es ms P) := by
  obtain ⟨rfl, rfl, rfl, rfl, rfl⟩ := hX
  obtain ⟨T, ⟨fI, fd, ps, h1, h2, h3, h4⟩, hm⟩ := T
  refine s_cons (P' := fun o => o = .rs ⟨x0, (fs.zip ds).reverse⟩ es ms1) (ps_raise hc tk (pmk_exn T h1 h2 h3 (hr.mono hk) h4 passNone hg hm ha hdb he hpl)) (fun D σ H as s l kk => ?_) (fun o ho => by subst ho; exact kk)
  refine ⟨as, s, fun vs H1 m1 e1 r1 => ⟨by rw [r1.len, List.length_map]; exact hz, fun a ha => ⟨a, vs, rfl, by rw [r1.len, List.length_map, hl], hok _ _ (r1.data.mono fun b o hb => by rw [upd_ne (ne_of_none (hid_of hb).1 ha)]; exact (hid_of hb).1), upd_same, fun d H' hd hda g1 g2 g3 => ?_⟩⟩⟩
  have hd1 : H1 d = none := by rw [upd_ne hda] at hd; exact hd
  refine ⟨rfl, d, _, g1, g2, hd1, ?_⟩
  have sm : Same H1 (upd (del H' a) d (.xd (fs.zip vs).reverse)) := fun b o hb => by
    have b1 : b ≠ d := ne_of_none hb hd1
    have b2 : b ≠ a := ne_of_none hb ha
    rw [upd_ne b1, del_ne b2]
    exact g3 b o b2 (by rw [upd_ne b2]; exact hb)
  have z := m1.ext sm
  have nd : some d ∉ as := m1.fresh hd1
  exact kk _ rfl as _ (Stp.of l (e1.trans z.2)) σ _ _ (s.step z.1 (e1.trans z.2)) ⟨rfl, d, _, rfl, hid_to upd_same nd, RpF.rev (RpF.zip (r1.data.mono z.2))⟩
theorem d_fn {S : Pre} {ss : List Sv} {d : Dt} {k' : Nat} (G : Callee PP w K mg base x0 k S) (hX : PP = X.prog ∧ w = X.w ∧ K = X.K ∧ mg = X.mg ∧ base = X.base) (hr : Room k' X.A) (hk : k ≤ k') (hg : Gl X x0)
    (ha : PA X (e :: es0) (tAr X.K es ms ss ms1)) (hS : S ss ms1 (fun o => o = .ret d ms2)) (hdb : (x0 == ("__debug__" : Str)) = false := by decide) (he : starEach (e :: es0) X.env = (false, eval e X.env) :: starEach es0 X.env := by rfl) (hpl : (backTo pos (starEach es0 X.env)).any (·.1) = false := by rfl) :
    PE X (.Call (.Name x0 p) (e :: es0) [] pos) (tD X.K es ms (.d d) ms2) := by
  obtain ⟨rfl, rfl, rfl, rfl, rfl⟩ := hX
  obtain ⟨f, fd, ps, h1, h2, h3, h4⟩ := G.ok
  exact d_call h1 (hr.mono hk) hg h2 h3 h4 ha hS hdb he hpl
theorem n_fn {S : Pre} {ss : List Sv} {ds : List Sv} {k' : Nat} (G : Callee PP w K mg base x0 k S) (hX : PP = X.prog ∧ w = X.w ∧ K = X.K ∧ mg = X.mg ∧ base = X.base) (hr : Room k' X.A) (hk : k ≤ k') (hg : Gl X x0)
    (ha : PA X (e :: es0) (tAr X.K es ms ss ms1)) (hS : S ss ms1 (fun o => o = .nw ds ms2)) (hdb : (x0 == ("__debug__" : Str)) = false := by decide) (he : starEach (e :: es0) X.env = (false, eval e X.env) :: starEach es0 X.env := by rfl) (hpl : (backTo pos (starEach es0 X.env)).any (·.1) = false := by rfl) :
    PE X (.Call (.Name x0 p) (e :: es0) [] pos) (tN X.K es ms ds ms2) := by
  obtain ⟨rfl, rfl, rfl, rfl, rfl⟩ := hX
  obtain ⟨f, fd, ps, h1, h2, h3, h4⟩ := G.ok
  exact n_call h1 (hr.mono hk) hg h2 h3 h4 ha hS hdb he hpl
theorem d_fnX {S : Pre} {ss : List Sv} {k' : Nat} (tk : Takes X W) (G : Callee PP w K mg base x0 k S) (hX : PP = X.prog ∧ w = X.w ∧ K = X.K ∧ mg = X.mg ∧ base = X.base) (hr : Room k' X.A) (hk : k ≤ k') (hg : Gl X x0)
    (ha : PA X (e :: es0) (tAr X.K es ms ss ms1)) (hS : S ss ms1 (fun o => o = .exc x ms2)) (hdb : (x0 == ("__debug__" : Str)) = false := by decide) (he : starEach (e :: es0) X.env = (false, eval e X.env) :: starEach es0 X.env := by rfl) (hpl : (backTo pos (starEach es0 X.env)).any (·.1) = false := by rfl) :
    PE X (.Call (.Name x0 p) (e :: es0) [] pos) (tX X.K W es ms x ms2) := by
  obtain ⟨rfl, rfl, rfl, rfl, rfl⟩ := hX
  obtain ⟨f, fd, ps, h1, h2, h3, h4⟩ := G.ok
  exact d_callX tk h1 (hr.mono hk) hg h2 h3 h4 ha hS hdb he hpl
/-! ### an expression whose part raises -/
def tAX (K : PySem.W.Frag) (W : WX) (es : Es) (ms : Ms) (x : Xc) (ms' : Ms) : TA := fun σ H _ => ∃ as, Sr K as es ms σ H ∧ ∀ cls d H', MsR K as ms' H' → Same (hid as H) (hid as H') → XcR K (hid as H') cls d x → W cls d σ H'
theorem pa_never {l : List Expr} : PA X l (fun _ _ _ => False) := ⟨fun _ _ _ _ _ _ _ h => h.elim⟩
theorem ax_here (h : PE X e (tX X.K W es ms x ms1)) (hs : starEach (e :: es0) X.env = (false, eval e X.env) :: starEach es0 X.env := by rfl) : PA X (e :: es0) (tAX X.K W es ms x ms1) :=
  pa_w (pa_cons h pa_never hs) fun σ H Q ⟨as, s, k⟩ => ⟨as, s, fun cls d H1 m1 e1 r1 => k cls d H1 m1 e1 r1⟩
theorem ax_next {sv : Sv} (h : PE X e (tD X.K es ms sv ms1)) (r : PA X es0 (tAX X.K W es ms1 x ms2)) (hs : starEach (e :: es0) X.env = (false, eval e X.env) :: starEach es0 X.env := by rfl) : PA X (e :: es0) (tAX X.K W es ms x ms2) :=
  pa_w (pa_cons h r hs) fun σ H Q ⟨as, s, k⟩ => ⟨as, s, fun v H1 m1 e1 r1 => ⟨as, s.step m1 e1, fun cls d H2 m2 e2 r2 => k cls d H2 m2 (e1.trans e2) r2⟩⟩
theorem dx_tup {x1} (h : PA X es0 (tAX X.K W es ms x ms1)) : PE X (.Tuple es0 x1 pos) (tX X.K W es ms x ms1) := pe_w (pe_tup h) fun σ H Q ⟨as, s, k⟩ => ⟨as, s, k⟩
/-! ### try .. except C as v -/
/-- where a try's body may go -/
def TryP (X : Cx) (n : Nat) (W : WX) (i : Nat) (c : Value) (b₀ : Stmt) (suite rest : List Stmt) (P : Out → Prop) : Out → Prop
  | .rs x es ms => ∃ b, PySem.W.exmOne X.K (.ref (clsA X.K x.C)) c = some b ∧ (b = false → P (.rs x es ms)) ∧ (b = true → ∀ (a : Addr) (d : Option Addr),
      ∀ (oe : Obj) (pn : List (Addr × Obj)), Zc (.ref (clsA X.K x.C)) d oe → (∃ vs, oe.data = .fields vs) → PSs (X.suite a ((a, oe) :: pn)) (b₀ :: suite) (tS X.K n W (es.set i (some (.x a (.ref (clsA X.K x.C)) d x))) ms fun o => match o with
        | .nx es ms => PSs X rest (tS X.K n W (es.set i none) ms P)
        | .rt d ms => P (.rt d ms)
        | .rn d ms => P (.rn d ms)
        | .bk es ms => P (.bk (es.set i none) ms)
        | .ct es ms => P (.ct (es.set i none) ms)
        | .rs _ _ _ => False))
  | o => Then X n W rest P o
theorem Sr.del {K : PySem.W.Frag} {as : As} {σ : St} {H : Hp} (s : Sr K as es ms σ H) (i : Nat) : Sr K as (es.set i none) ms (σ.set i none) H := by
  refine ⟨by rw [List.length_set, List.length_set]; exact s.len, fun j sv h => ?_, s.mem⟩
  by_cases c : i = j
  · subst c
    have hl := (List.getElem?_eq_some_iff.mp h).1
    rw [List.length_set] at hl
    rw [List.getElem?_set_self hl] at h
    cases h
  · rw [List.getElem?_set_ne c] at h
    rw [List.getElem?_set_ne c]
    exact s.env j sv h
theorem s_try {xn v : Str} {i : Nat} {cv : Value} {b₀ : Stmt} {np hp' pos' : Pos} {Pb : Out → Prop} (nd : X.N.Nodup) (hi : X.N[i]? = some v) (hs : X.stack = X.env :: X.outer) (hf : X.env.frame = some X.env.locals) (hln : X.env.kindOf v = some .local) (hnm : Names X xn cv) (tk : Takes X W)
    (hb : ∀ (W' : WX) (pn : List (Addr × Obj)) (xe : Value → Shared → Prop), Takes (X.tr pn xe) W' → PassesOwn (model X.prog X.w) X.A X.env xe → PSs (X.tr pn xe) body (tS X.K n W' es ms Pb))
    (hP : ∀ o, Pb o → TryP X n W i cv b₀ suite rest P o) : PSs X (.Try body [.ExceptHandler (some (.Name xn np)) (some v) (b₀ :: suite) pos'] [] [] pos :: rest) (tS X.K n W es ms P) := by
  let ts : Addr → Value → Option Addr → TS := fun a cls d D σ H => ∃ t, (∀ (oe : Obj) (pn : List (Addr × Obj)), Zc cls d oe → (∃ vs, oe.data = .fields vs) → PSs (X.suite a ((a, oe) :: pn)) (b₀ :: suite) t) ∧ t D σ H
  have R := ps_try_as (X := X) (x := xn) (n := v) (c := cv) (i := i) (body := body) (suite := suite) (b₀ := b₀) (np := np) (pos := pos) (pos' := pos') (tb := fun W' => tS X.K n W' es ms Pb) (ts := ts) (Wout := W) hs hf nd hi hln hnm tk hb
    (fun a oe cls d pn hz hv => ⟨fun pins s σ H D I ⟨t, h, q⟩ => (h oe pn hz hv).run pins s σ H D I q⟩)
  refine s_cons (P' := Then X n W rest P) R (fun D σ H as s l kk => ?_) (fun o h => h)
  refine ⟨as, s, l, fun o po as' H' st => ?_⟩
  have hp := hP o po
  cases o with
  | nx es' ms' => exact kk (.nx es' ms') hp as' H' st
  | rt d ms' => exact kk (.rt d ms') hp as' H' st
  | rn d ms' => exact kk (.rn d ms') hp as' H' st
  | bk es' ms' => exact kk (.bk es' ms') hp as' H' st
  | ct es' ms' => exact kk (.ct es' ms') hp as' H' st
  | rs x es' ms' =>
    obtain ⟨b, h1, h2, h3⟩ := hp
    refine fun σ' cls d s' r' => ?_
    have ec : cls = .ref (clsA X.K x.C) := r'.1
    subst ec
    refine ⟨b, h1, fun hbt a ha => ?_, fun hbf => kk (.rs x es' ms') (h2 hbf) as' H' st σ' _ d s' r'⟩
    have hsu := h3 hbt a d
    refine ⟨_, hsu, as', s'.put (sv := .x a (.ref (clsA X.K x.C)) d x) ⟨rfl, r'⟩ rfl, st.len, fun o2 p2 as2 H2 st2 => ?_⟩
    have st3 := st.trans st2
    cases o2 with
    | nx es2 ms2 => exact fun σ2 s2 => kk (.nx (es2.set i none) ms2) p2 as2 H2 st3 _ (s2.del i)
    | rt d2 ms2 => exact kk (.rt d2 ms2) p2 as2 H2 st3
    | rn d2 ms2 => exact kk (.rn d2 ms2) p2 as2 H2 st3
    | bk es2 ms2 => exact fun σ2 s2 => kk (.bk (es2.set i none) ms2) p2 as2 H2 st3 _ (s2.del i)
    | ct es2 ms2 => exact fun σ2 s2 => kk (.ct (es2.set i none) ms2) p2 as2 H2 st3 _ (s2.del i)
    | rs x2 es2 ms2 => exact False.elim p2
/-- e.f, e the handled error -/
theorem d_xf {a0 : Addr} {oe : Obj} {cls : Value} {dd : Option Addr} {pn : List (Addr × Obj)} {f : Str} {v : Dt} (T : XfC X.K (clsA X.K x.C)) (hno : PySem.W.findIn X.K (.ref (clsA X.K x.C)) f = some none) (hz : Zc cls dd oe) (hv : ∃ vs, oe.data = .fields vs)
    (he : PE (X.suite a0 ((a0, oe) :: pn)) e (tD X.K es ms (.x a0 cls dd x) ms1)) (hl : x.fs.lookup f = some v) (hb : attributeBase e f X.env (eval e X.env) = eval e X.env := by rfl) :
    PE (X.suite a0 ((a0, oe) :: pn)) (.Attribute e f pos) (tD X.K es ms (.d v) ms1) :=
  pe_w (pe_xf T hno hz hv he hb) fun σ H Q ⟨as, s, k⟩ => ⟨as, s, fun u H1 m1 e1 r1 => by
    obtain ⟨rfl, ec, a', fs', h2, h3, h4⟩ := r1
    obtain ⟨u, g1, g2⟩ := h4.look hl
    exact ⟨rfl, ec, a', fs', u, h2, (hid_of h3).1, g1, k u H1 m1 e1 g2⟩⟩
/-! ### isinstance by the datum -/
def isT (T : String) : Dt → Bool
  | .non => false
  | .bl _ => T == "bool" || T == "int"
  | .int _ => T == "int"
  | .str _ => T == "str"
  | .lst _ => T == "list"
  | .tup _ => T == "tuple"
  | .obj _ _ => false
def isTB (T n : String) : Bool := match n with
  | "bool" => T == "bool" || T == "int"
  | "int" => T == "int"
  | "str" => T == "str"
  | "list" => T == "list"
  | "tuple" => T == "tuple"
  | _ => false
theorem kit_all : ∀ T ∈ ["int", "bool", "str", "list", "tuple"], ∀ n ∈ ["NoneType", "bool", "int", "str", "list", "tuple"], kitB n T = some (isTB T n) := by decide +kernel
theorem isT_of {T n : String} {d : Dt} (h : tyName d = some n) : isT T d = isTB T n := by
  cases d <;> cases h <;> rfl
theorem ty_mem {n : String} {d : Dt} (h : tyName d = some n) : n ∈ ["NoneType", "bool", "int", "str", "list", "tuple"] := by
  cases d <;> cases h <;> simp
def plainD : Dt → Bool
  | .obj _ _ => false
  | _ => true
theorem d_isT {d : Dt} {T : String} {nm : Str} {pT : Pos} (hT : T ∈ ["int", "bool", "str", "list", "tuple"]) (hv : bootBuiltins nm = some (.type T)) (hg : Gl X "isinstance") (hm : X.mg "isinstance" = none) (hgT : Gl X nm) (hmT : X.mg nm = none) (ha : PE X e (tD X.K es ms (.d d) ms1)) (hd : plainD d = true)
    (hnn : nm ≠ "__name__" := by decide) (hdn : (nm == ("__debug__" : Str)) = false := by decide)
    (he : starEach [e, .Name nm pT] X.env = (false, eval e X.env) :: starEach [.Name nm pT] X.env := by rfl) (hpl : (backTo pos (starEach [.Name nm pT] X.env)).any (·.1) = false := by rfl) (he2 : starEach [.Name nm pT] X.env = (false, eval (.Name nm pT) X.env) :: starEach [] X.env := by rfl) :
    PE X (.Call (.Name "isinstance" p) [e, .Name nm pT] [] pos) (tD X.K es ms (.d (.bl (isT T d))) ms1) := by
  cases q : tyName d with
  | none => cases d <;> simp [tyName, plainD] at q hd
  | some n => exact d_isi hg hm hgT hmT hv ha q (by rw [isT_of q]; exact kit_all T hT n (ty_mem q)) hnn hdn he hpl he2
theorem bt_int : bootBuiltins "int" = some (.type "int") := by decide +kernel
theorem bt_bool : bootBuiltins "bool" = some (.type "bool") := by decide +kernel
theorem bt_str : bootBuiltins "str" = some (.type "str") := by decide +kernel
theorem bt_list : bootBuiltins "list" = some (.type "list") := by decide +kernel
theorem bt_tuple : bootBuiltins "tuple" = some (.type "tuple") := by decide +kernel
end
end Dv
/-! # Dv8: displays by their length; built-in names; small laws of lists of ours -/
namespace Dv
open PySem PySem.Spec L2
section
variable {X : Cx} {es : Es} {ms ms1 : Ms} {pos : Pos}
theorem n_lst0 (h : PA X [] (tAr X.K es ms [] ms1)) : PE X (.List [] pos) (tN X.K es ms [] ms1) := n_lst (ss := []) h (by simp)
theorem d_lst0 (h : PA X [] (tAr X.K es ms [] ms1)) : PE X (.List [] pos) (tD X.K es ms (.d (.lst [])) ms1) := d_ofN (ds := []) (n_lst (ss := []) h (by simp))
theorem d_tup1 {e0 : Expr} {x0 : Dt} {k : Nat} (h : PA X [e0] (tAr X.K es ms [.d x0] ms1)) : PE X (.Tuple [e0] k pos) (tD X.K es ms (.d (.tup [x0])) ms1) := d_tup (ds := [x0]) h (by simp)
theorem n_lst1 {e0 : Expr} {x0 : Sv} (h : PA X [e0] (tAr X.K es ms [x0] ms1)) : PE X (.List [e0] pos) (tN X.K es ms [x0] ms1) := n_lst (ss := [x0]) h (by simp)
theorem d_lst1 {e0 : Expr} {x0 : Dt} (h : PA X [e0] (tAr X.K es ms [.d x0] ms1)) : PE X (.List [e0] pos) (tD X.K es ms (.d (.lst [x0])) ms1) := d_ofN (ds := [x0]) (n_lst (ss := [.d x0]) h (by simp))
theorem d_tup2 {e0 e1 : Expr} {x0 x1 : Dt} {k : Nat} (h : PA X [e0, e1] (tAr X.K es ms [.d x0, .d x1] ms1)) : PE X (.Tuple [e0, e1] k pos) (tD X.K es ms (.d (.tup [x0, x1])) ms1) := d_tup (ds := [x0, x1]) h (by simp)
theorem n_lst2 {e0 e1 : Expr} {x0 x1 : Sv} (h : PA X [e0, e1] (tAr X.K es ms [x0, x1] ms1)) : PE X (.List [e0, e1] pos) (tN X.K es ms [x0, x1] ms1) := n_lst (ss := [x0, x1]) h (by simp)
theorem d_lst2 {e0 e1 : Expr} {x0 x1 : Dt} (h : PA X [e0, e1] (tAr X.K es ms [.d x0, .d x1] ms1)) : PE X (.List [e0, e1] pos) (tD X.K es ms (.d (.lst [x0, x1])) ms1) := d_ofN (ds := [x0, x1]) (n_lst (ss := [.d x0, .d x1]) h (by simp))
theorem d_tup3 {e0 e1 e2 : Expr} {x0 x1 x2 : Dt} {k : Nat} (h : PA X [e0, e1, e2] (tAr X.K es ms [.d x0, .d x1, .d x2] ms1)) : PE X (.Tuple [e0, e1, e2] k pos) (tD X.K es ms (.d (.tup [x0, x1, x2])) ms1) := d_tup (ds := [x0, x1, x2]) h (by simp)
theorem n_lst3 {e0 e1 e2 : Expr} {x0 x1 x2 : Sv} (h : PA X [e0, e1, e2] (tAr X.K es ms [x0, x1, x2] ms1)) : PE X (.List [e0, e1, e2] pos) (tN X.K es ms [x0, x1, x2] ms1) := n_lst (ss := [x0, x1, x2]) h (by simp)
theorem d_lst3 {e0 e1 e2 : Expr} {x0 x1 x2 : Dt} (h : PA X [e0, e1, e2] (tAr X.K es ms [.d x0, .d x1, .d x2] ms1)) : PE X (.List [e0, e1, e2] pos) (tD X.K es ms (.d (.lst [x0, x1, x2])) ms1) := d_ofN (ds := [x0, x1, x2]) (n_lst (ss := [.d x0, .d x1, .d x2]) h (by simp))
theorem d_tup4 {e0 e1 e2 e3 : Expr} {x0 x1 x2 x3 : Dt} {k : Nat} (h : PA X [e0, e1, e2, e3] (tAr X.K es ms [.d x0, .d x1, .d x2, .d x3] ms1)) : PE X (.Tuple [e0, e1, e2, e3] k pos) (tD X.K es ms (.d (.tup [x0, x1, x2, x3])) ms1) := d_tup (ds := [x0, x1, x2, x3]) h (by simp)
theorem n_lst4 {e0 e1 e2 e3 : Expr} {x0 x1 x2 x3 : Sv} (h : PA X [e0, e1, e2, e3] (tAr X.K es ms [x0, x1, x2, x3] ms1)) : PE X (.List [e0, e1, e2, e3] pos) (tN X.K es ms [x0, x1, x2, x3] ms1) := n_lst (ss := [x0, x1, x2, x3]) h (by simp)
theorem d_lst4 {e0 e1 e2 e3 : Expr} {x0 x1 x2 x3 : Dt} (h : PA X [e0, e1, e2, e3] (tAr X.K es ms [.d x0, .d x1, .d x2, .d x3] ms1)) : PE X (.List [e0, e1, e2, e3] pos) (tD X.K es ms (.d (.lst [x0, x1, x2, x3])) ms1) := d_ofN (ds := [x0, x1, x2, x3]) (n_lst (ss := [.d x0, .d x1, .d x2, .d x3]) h (by simp))
theorem d_tup5 {e0 e1 e2 e3 e4 : Expr} {x0 x1 x2 x3 x4 : Dt} {k : Nat} (h : PA X [e0, e1, e2, e3, e4] (tAr X.K es ms [.d x0, .d x1, .d x2, .d x3, .d x4] ms1)) : PE X (.Tuple [e0, e1, e2, e3, e4] k pos) (tD X.K es ms (.d (.tup [x0, x1, x2, x3, x4])) ms1) := d_tup (ds := [x0, x1, x2, x3, x4]) h (by simp)
theorem n_lst5 {e0 e1 e2 e3 e4 : Expr} {x0 x1 x2 x3 x4 : Sv} (h : PA X [e0, e1, e2, e3, e4] (tAr X.K es ms [x0, x1, x2, x3, x4] ms1)) : PE X (.List [e0, e1, e2, e3, e4] pos) (tN X.K es ms [x0, x1, x2, x3, x4] ms1) := n_lst (ss := [x0, x1, x2, x3, x4]) h (by simp)
theorem d_lst5 {e0 e1 e2 e3 e4 : Expr} {x0 x1 x2 x3 x4 : Dt} (h : PA X [e0, e1, e2, e3, e4] (tAr X.K es ms [.d x0, .d x1, .d x2, .d x3, .d x4] ms1)) : PE X (.List [e0, e1, e2, e3, e4] pos) (tD X.K es ms (.d (.lst [x0, x1, x2, x3, x4])) ms1) := d_ofN (ds := [x0, x1, x2, x3, x4]) (n_lst (ss := [.d x0, .d x1, .d x2, .d x3, .d x4]) h (by simp))
theorem d_tup6 {e0 e1 e2 e3 e4 e5 : Expr} {x0 x1 x2 x3 x4 x5 : Dt} {k : Nat} (h : PA X [e0, e1, e2, e3, e4, e5] (tAr X.K es ms [.d x0, .d x1, .d x2, .d x3, .d x4, .d x5] ms1)) : PE X (.Tuple [e0, e1, e2, e3, e4, e5] k pos) (tD X.K es ms (.d (.tup [x0, x1, x2, x3, x4, x5])) ms1) := d_tup (ds := [x0, x1, x2, x3, x4, x5]) h (by simp)
theorem n_lst6 {e0 e1 e2 e3 e4 e5 : Expr} {x0 x1 x2 x3 x4 x5 : Sv} (h : PA X [e0, e1, e2, e3, e4, e5] (tAr X.K es ms [x0, x1, x2, x3, x4, x5] ms1)) : PE X (.List [e0, e1, e2, e3, e4, e5] pos) (tN X.K es ms [x0, x1, x2, x3, x4, x5] ms1) := n_lst (ss := [x0, x1, x2, x3, x4, x5]) h (by simp)
theorem d_lst6 {e0 e1 e2 e3 e4 e5 : Expr} {x0 x1 x2 x3 x4 x5 : Dt} (h : PA X [e0, e1, e2, e3, e4, e5] (tAr X.K es ms [.d x0, .d x1, .d x2, .d x3, .d x4, .d x5] ms1)) : PE X (.List [e0, e1, e2, e3, e4, e5] pos) (tD X.K es ms (.d (.lst [x0, x1, x2, x3, x4, x5])) ms1) := d_ofN (ds := [x0, x1, x2, x3, x4, x5]) (n_lst (ss := [.d x0, .d x1, .d x2, .d x3, .d x4, .d x5]) h (by simp))
theorem d_tup7 {e0 e1 e2 e3 e4 e5 e6 : Expr} {x0 x1 x2 x3 x4 x5 x6 : Dt} {k : Nat} (h : PA X [e0, e1, e2, e3, e4, e5, e6] (tAr X.K es ms [.d x0, .d x1, .d x2, .d x3, .d x4, .d x5, .d x6] ms1)) : PE X (.Tuple [e0, e1, e2, e3, e4, e5, e6] k pos) (tD X.K es ms (.d (.tup [x0, x1, x2, x3, x4, x5, x6])) ms1) := d_tup (ds := [x0, x1, x2, x3, x4, x5, x6]) h (by simp)
theorem n_lst7 {e0 e1 e2 e3 e4 e5 e6 : Expr} {x0 x1 x2 x3 x4 x5 x6 : Sv} (h : PA X [e0, e1, e2, e3, e4, e5, e6] (tAr X.K es ms [x0, x1, x2, x3, x4, x5, x6] ms1)) : PE X (.List [e0, e1, e2, e3, e4, e5, e6] pos) (tN X.K es ms [x0, x1, x2, x3, x4, x5, x6] ms1) := n_lst (ss := [x0, x1, x2, x3, x4, x5, x6]) h (by simp)
theorem d_lst7 {e0 e1 e2 e3 e4 e5 e6 : Expr} {x0 x1 x2 x3 x4 x5 x6 : Dt} (h : PA X [e0, e1, e2, e3, e4, e5, e6] (tAr X.K es ms [.d x0, .d x1, .d x2, .d x3, .d x4, .d x5, .d x6] ms1)) : PE X (.List [e0, e1, e2, e3, e4, e5, e6] pos) (tD X.K es ms (.d (.lst [x0, x1, x2, x3, x4, x5, x6])) ms1) := d_ofN (ds := [x0, x1, x2, x3, x4, x5, x6]) (n_lst (ss := [.d x0, .d x1, .d x2, .d x3, .d x4, .d x5, .d x6]) h (by simp))
end
/-- the names of built-ins are the built-ins' -/
structure Bi (mg : Str → Option Value) : Prop where
  len : mg "len" = none
  int : mg "int" = none
  abs : mg "abs" = none
  isi : mg "isinstance" = none
  range : mg "range" = none
  list : mg "list" = none
  tuple : mg "tuple" = none
  bool : mg "bool" = none
  str : mg "str" = none
def isI : Dt → Bool
  | .int _ => true
  | _ => false
theorem isI_eq (d : Dt) : (isT "int" d && !isT "bool" d) = isI d := by cases d <;> simp [isT, isI]
theorem isT_tup {d : Dt} (h : isT "tuple" d = true) : ∃ ds, d = .tup ds := by cases d <;> simp [isT] at h ⊢
theorem isT_lst {d : Dt} (h : isT "list" d = true) : ∃ ds, d = .lst ds := by cases d <;> simp [isT] at h ⊢
theorem isT_str {d : Dt} (h : isT "str" d = true) : ∃ s, d = .str s := by cases d <;> simp [isT] at h ⊢
theorem isT_bool {d : Dt} (h : isT "bool" d = true) : ∃ s, d = .bl s := by cases d <;> simp [isT] at h ⊢
theorem isI_int {d : Dt} (h : isI d = true) : ∃ i, d = .int i := by cases d <;> simp [isI] at h ⊢
mutual
/-- no object in it, at any depth -/
def deepP : Dt → Bool
  | .obj _ _ => false
  | .lst ds => deepL ds && decide (ds.length ≤ 100000)
  | .tup ds => deepL ds && decide (ds.length ≤ 100000)
  | _ => true
def deepL : List Dt → Bool
  | [] => true
  | d :: ds => deepP d && deepL ds
end
mutual
def depth : Dt → Nat
  | .lst ds => depthL ds + 1
  | .tup ds => depthL ds + 1
  | _ => 0
def depthL : List Dt → Nat
  | [] => 0
  | d :: ds => max (depth d) (depthL ds)
end
theorem deep_plain {d : Dt} (h : deepP d = true) : plainD d = true := by cases d <;> simp [deepP, plainD] at h ⊢
theorem deep_lst {ds : List Dt} (h : deepP (.lst ds) = true) : deepL ds = true ∧ ds.length ≤ 100000 := by simpa [deepP] using h
theorem deep_tup {ds : List Dt} (h : deepP (.tup ds) = true) : deepL ds = true ∧ ds.length ≤ 100000 := by simpa [deepP] using h
theorem deepL_at : ∀ {ds : List Dt} {i : Nat} {d : Dt}, deepL ds = true → ds[i]? = some d → deepP d = true
  | [], _, _, _, h => by simp at h
  | a :: ds, 0, d, h, e => by
    simp [deepL] at h
    simp at e
    subst e
    exact h.1
  | a :: ds, i + 1, d, h, e => by
    simp [deepL] at h
    exact deepL_at h.2 (by simpa using e)
theorem depthL_at : ∀ {ds : List Dt} {i : Nat} {d : Dt}, ds[i]? = some d → depth d ≤ depthL ds
  | [], _, _, h => by simp at h
  | a :: ds, 0, d, e => by
    simp at e
    subst e
    simp only [depthL]
    omega
  | a :: ds, i + 1, d, e => by
    have := depthL_at (ds := ds) (i := i) (d := d) (by simpa using e)
    simp only [depthL]
    omega
theorem take_all {n : Nat} {ms : Ms} (h : ms.length = n) : ms.take n = ms := List.take_of_length_le (Nat.le_of_eq h)
end Dv
/-! # Dv9: lists of ours within lists of ours -/
namespace Dv
open PySem PySem.Spec L2
section
variable {X : Cx} {n k : Nat} {W : WX} {es es1 es2 : Es} {ms ms1 ms2 ms3 : Ms} {P P' : Out → Prop} {rest body l : List Stmt} {e a b c : Expr} {p pos : Pos} {N : List Str}
/-- where a new list is one of ours from now on: the state -/
theorem Sr.hide {K : PySem.W.Frag} {as : As} {σ : St} {H H' : Hp} {ss : List Sv} {p : Addr} (s : Sr K as es ms σ H) (nw : New K as H ss ms1 p H') : Sr K (as ++ [some p]) es (ms1 ++ [some (Cell.l ss)]) σ H' :=
  ⟨s.len, fun i sv h => by
    obtain ⟨v, q1, q2⟩ := s.env i sv h
    exact ⟨v, q1, q2.grow nw.same as_more⟩, nw.mem⟩
theorem New.at {K : PySem.W.Frag} {as : As} {H H' : Hp} {ss : List Sv} {p : Addr} (nw : New K as H ss ms1 p H') : ValR K (as ++ [some p]) H' (.ref p) (.m ms1.length) := by
  have hlen : ms1.length = as.length := by have := nw.mem.len; simp at this; exact this
  exact ⟨p, by rw [hlen]; simp, rfl⟩
/-- x.append(a new list) -/
theorem s_appendN {i : Nat} {ds ss : List Sv} {ap cp : Pos} (ho : PE X a (tD X.K es ms (.m i) ms1)) (he : PE X e (tN X.K es ms1 ss ms2)) (hm : ms2[i]? = some (some (.l ds))) (hz : ds.length < 100000) (hm1 : ms1[i]? = some (some (.l ds)))
    (kk : PSs X rest (tS X.K n W es ((ms2 ++ [some (Cell.l ss)]).set i (some (Cell.l (ds ++ [Sv.m ms2.length])))) P))
    (hb : attributeBase a "append" X.env (eval a X.env) = eval a X.env := by rfl)
    (h1 : ((((backTo cp (starEach [e] X.env)).all fun x => !x.1) && (backToKw cp (keywordEach [] X.env)).all fun x => x.1.isSome) && decide (([e].length + ([] : List Keyword).length + if ([] : List Keyword).isEmpty = true then 0 else 1) < 30)) = true := by rfl)
    (h2 : (ap.endLine == cp.line) = true := by rfl) (h3 : starEach [e] X.env = (false, eval e X.env) :: starEach [] X.env := by rfl) (h4 : (backTo cp (starEach [] X.env)).any (·.1) = false := by rfl) (hs : swapsWith (.Call (.Attribute a "append" ap) [e] [] cp) none pos.line X.env = pure false := by rfl) :
    PSs X (.Expr (.Call (.Attribute a "append" ap) [e] [] cp) pos :: rest) (tS X.K n W es ms P) :=
  s_cons (P' := fun o => o = .nx es ((ms2 ++ [some (Cell.l ss)]).set i (some (Cell.l (ds ++ [Sv.m ms2.length]))))) (ps_expr (pe_bm PySem.F.plainAttrs_list PySem.F.slot_list_append PySem.F.type_list_append mt_append ho (pa_cons he pa_nil h3) hb h1 h2 h3 h4) hs) (fun D σ H as s l kk => ⟨as, s, fun u H2 m2 e2 r2 => by
    obtain ⟨q, g1, rfl⟩ := r2
    obtain ⟨vsa, ka2, ka3⟩ := m2.list g1 hm1
    refine ⟨.inl ⟨rfl, vsa, .inl (.inl ka2)⟩, as, s.step m2 e2, fun p H3 nw => ?_⟩
    have hlen : ms2.length = as.length := by have := nw.mem.len; simp at this; exact this
    obtain ⟨vs', k2, k3⟩ := nw.mem.list (ss := ds) (as_more i q g1) (by rw [List.getElem?_append_left (List.getElem?_eq_some_iff.mp hm).1, hm])
    refine ⟨q, vs', .ref p, rfl, rfl, k2, by rw [k3.len]; exact Nat.lt_of_lt_of_le hz (by decide), ?_⟩
    have z := nw.mem.put (as_more i q g1) (k3.app (.cons nw.at .nil))
    have s3 := (s.step m2 e2).hide nw
    have pn : H p = none := old_of e2 m2 nw.free
    exact kk _ rfl (as ++ [some p]) _ ((Stp.of l e2).trans ((Stp.more (by omega) nw.free nw.same).trans (Stp.of (by simp; omega) z.2))) σ (s3.step z.1 z.2)⟩) (fun o ho => by subst ho; exact kk)
/-- for nm in x: .., x a list of ours that stays as it is -/
theorem s_forM {nm : Str} {k i0 : Nat} {ss : List Sv} {p1 : Pos} {iter : Expr} (hN : X.N = N) (nd : N.Nodup) (hin : N[i0]? = some nm) (he : PE X iter (tD X.K es ms (.m k) ms1)) (hk : ms1[k]? = some (some (.l ss))) (I : Nat → Es → Ms → Prop) (h0 : I 0 es ms1)
    (hst : ∀ i es' ms', I i es' ms' → ms'[k]? = some (some (.l ss)))
    (hs : ∀ i sv es' ms', ss[i]? = some sv → I i es' ms' → ∃ es2, Put N es' nm sv es2 ∧ PSs X body (tS X.K n W es2 ms' (Lp X n W rest P (I (i + 1)))))
    (hd : ∀ es' ms', I ss.length es' ms' → PSs X rest (tS X.K n W es' ms' P)) (hpo : PassesOwn (model X.prog X.w) X.A X.env X.xe) (hc : X.calm = true) (hset : ∀ x, foldedSetIterable iter X.env x = pure x := by intro _; rfl)
    (hl : Loc X.env.scope nm := by first | exact Or.inl rfl | exact Or.inr rfl) (hf : X.fn nm = true ∨ X.env.scope.names.lookup nm = some .local := by first | exact .inl rfl | exact .inr rfl) :
    PSs X (.For (.Name nm p1) iter body [] pos :: rest) (tS X.K n W es ms P) := by
  refine s_cons (P' := LpO X n W rest P) (ps_for hpo hc (pi_list he) (pg_name (i := i0) (hN ▸ nd) (by rw [hN]; exact hin) hl hf) pss_self hset) (fun D σ H as s l kk => ⟨as, s, fun v H1 m1 e1 r1 => ?_⟩) LpO.then
  obtain ⟨q, g1, rfl⟩ := r1
  have here : ∀ {as' : As} {ms' : Ms} {H' : Hp}, MsR X.K as' ms' H' → as.length ≤ as'.length → (∀ (k : Nat) (a : Addr), k < as.length → as'[k]? = some (some a) → as[k]? = some (some a)) → ms'[k]? = some (some (.l ss)) → ∃ vs, H' q = some (.lst vs) ∧ ArR X.K as' H' vs ss := fun {as' ms' H'} m hl hkp hm => by
    have c := (List.getElem?_eq_some_iff.mp g1).1
    cases z : as'[k]? with
    | none =>
      have := List.getElem?_eq_none_iff.mp z
      omega
    | some o =>
      cases o with
      | none =>
        rw [m.no k z] at hm
        cases hm
      | some a =>
        have := hkp k a c z
        rw [g1] at this
        cases this
        exact m.list z hm
  obtain ⟨vs0, hv0, _⟩ := here m1 (Nat.le_refl _) (fun _ _ _ z => z) hk
  refine ⟨q, rfl, ⟨vs0, .inl (.inl hv0)⟩, ?_⟩
  let Wd : Nat → Nat → St → Hp → Prop := fun i m σ' H' => m + i = ss.length ∧ ∃ as' es' ms', I i es' ms' ∧ Sr X.K as' es' ms' σ' H' ∧ Stp n as H as' H'
  refine ⟨Wd, ⟨ss.length, by simp, as, es, ms1, h0, s.step m1 e1, Stp.of l e1⟩, fun i m σ' H' ⟨hm, as', es', ms', hI, s', st⟩ => ?_⟩
  obtain ⟨vs, hv, rv⟩ := here s'.mem st.mono st.keep (hst i es' ms' hI)
  have hq : SqL X.K H' q vs := .inl (.inl hv)
  by_cases c : i < ss.length
  · have cv : i < vs.length := by rw [rv.len]; exact c
    refine .inr ⟨⟨vs, vs[i], hq, List.getElem?_eq_getElem cv⟩, fun σ2 H2 => ∃ m', m' < m ∧ Wd (i + 1) m' σ2 H2, fun σ2 H2 h => h, fun x H2 hy => ?_⟩
    obtain ⟨rfl, hy⟩ := hy
    obtain ⟨u, hu, ru⟩ := rv.get (List.getElem?_eq_getElem c)
    have hx := hy vs hq
    rw [hu] at hx
    cases hx
    obtain ⟨es2, b2, hbody⟩ := hs i _ es' ms' (List.getElem?_eq_getElem c) hI
    obtain ⟨j, j1, j2⟩ := b2.ix
    have : i0 = j := nodup_ix nd hin j1
    subst this
    refine ⟨_, hbody, as', s'.put ru j2, st.len, fun o po as4 H4 st4 => ?_⟩
    have st5 : Stp n as H as4 H4 := st.trans st4
    cases o with
    | nx es4 ms4 => exact fun σ4 s4 => ⟨m - 1, by omega, by omega, as4, es4, ms4, po, s4, st5⟩
    | ct es4 ms4 => exact fun σ4 s4 => ⟨m - 1, by omega, by omega, as4, es4, ms4, po, s4, st5⟩
    | bk es4 ms4 => exact fun σ4 s4 => kk (.nx es4 ms4) po as4 H4 st5 σ4 s4
    | rt d4 ms4 => exact kk (.rt d4 ms4) po as4 H4 st5
    | rn d4 ms4 => exact kk (.rn d4 ms4) po as4 H4 st5
    | rs x4 es4 ms4 => exact kk (.rs x4 es4 ms4) po as4 H4 st5
  · have e : i = ss.length := by omega
    subst e
    exact .inl ⟨⟨vs, hq, by rw [rv.len]; exact Nat.le_refl _⟩, kk (.nx es' ms') (hd es' ms' hI) as' H' st σ' s'⟩
/-! ### comprehensions over a list of ours -/
def iM (K : PySem.W.Frag) (es : Es) (ms : Ms) (k : Nat) (ms' : Ms) : TI := fun σ H R => ∃ as, Sr K as es ms σ H ∧ ∀ q H', as[k]? = some (some q) → MsR K as ms' H' → Same (hid as H) (hid as H') → R (Itl K q) H'
theorem i_listM {tg : Expr} {ss : List Sv} (h : PE X e (tD X.K es ms (.m k) ms1)) (hk : ms1[k]? = some (some (.l ss))) : PI X tg e (iM X.K es ms k ms1) := pi_w (pi_list h) fun σ H R ⟨as, s, kk⟩ => ⟨as, s, fun v H1 m1 e1 r1 => by
  obtain ⟨q, g1, rfl⟩ := r1
  obtain ⟨vs', k2, k3⟩ := m1.list g1 hk
  exact ⟨_, rfl, ⟨_, .inl (.inl k2)⟩, kk q H1 g1 m1 e1⟩⟩
/-- what a comprehension over the list k asks; its target is one name, at the slot v -/
structure LcM (X : Cx) (scope : Scope) (elt : Expr) (ifs : List Expr) (v : Nat) (es0 : Es) (ms1 : Ms) (k : Nat) (ss : List Sv) (res : List Sv) (ms2 : Ms) : Prop where
  inv : ∃ I : Nat → List Sv → Ms → Prop, I 0 [] ms1 ∧ (∀ i acc ms', I i acc ms' → ms'[k]? = some (some (.l ss))) ∧
    (∀ i sv acc ms', ss[i]? = some sv → I i acc ms' → ∃ b msb, Blk X scope (fun Y => PTs Y ifs (tBo X.K (es0.set v (some sv)) (ms' ++ [some (.l acc)]) b (msb ++ [some (.l acc)]))) ∧
      (b = true → ∃ y ms3, Blk X scope (fun Y => PE Y elt (tD X.K (es0.set v (some sv)) (msb ++ [some (.l acc)]) y (ms3 ++ [some (.l acc)]))) ∧ I (i + 1) (acc ++ [y]) ms3) ∧ (b = false → I (i + 1) acc msb)) ∧
    (∀ acc ms', I ss.length acc ms' → acc = res ∧ ms' = ms2) ∧ ∀ i acc ms', Lows ms1.length ms1 → I i acc ms' → Low ms1.length acc ∧ Lows ms1.length ms'
theorem lc_readM {scope : Scope} {elt : Expr} {ifs : List Expr} {v : Nat} {ss res : List Sv} (hz : ss.length ≤ 100000) (hkk : ms1[k]? = some (some (.l ss))) (h : LcM X scope elt ifs v (wipeE es [v]) ms1 k ss res ms2) (σ : St) (H : Hp) (Q : VK) (t : tN X.K es ms res ms2 σ H Q) :
    tLc (iM X.K es ms k ms1) (gName v) (fun σ H Q => ∃ t, Blk X scope (fun Y => PTs Y ifs t) ∧ t σ H Q) (fun σ H Q => ∃ t, Blk X scope (fun Y => PE Y elt t) ∧ t σ H Q) [v] σ H Q := by
  obtain ⟨as, s, kk⟩ := t
  obtain ⟨I, i0, ist, is, id, il⟩ := h.inv
  refine ⟨as, s, fun q H1 hq m1 e1 D hD => ?_⟩
  have hDH : H D = none := old_of e1 m1 hD
  have low : ∀ {i : Nat} {acc : List Sv} {ms' : Ms}, I i acc ms' → Low as.length acc ∧ Lows as.length ms' := fun {i acc ms'} g => by
    have z := il i acc ms' (by rw [m1.len]; exact m1.lows) g
    rw [m1.len] at z
    exact z
  let as1 : As := as ++ [some D]
  have hget : as1[as.length]? = some (some D) := by show (as ++ [some D])[as.length]? = _; simp
  let Wd : Nat → Nat → Hp → Prop := fun i m H' => m + i = ss.length ∧ ∃ acc ms', I i acc ms' ∧ acc.length ≤ i ∧ New X.K as H acc ms' D H'
  have z0 := m1.more (vs := []) (ss := []) hD .nil
  refine ⟨Wd, ⟨ss.length, by simp, [], ms1, i0, Nat.le_refl _, z0.of e1 hDH⟩, fun i m H' ⟨hm, acc, ms', hI, hal, nw⟩ => ?_⟩
  have m' := nw.mem
  have e' := nw.same
  have hlen : ∀ {ms' : Ms} {acc : List Sv} {H' : Hp}, MsR X.K as1 (ms' ++ [some (.l acc)]) H' → ms'.length = as.length := fun {ms' acc H'} m => by
    have := m.len
    simp [as1] at this
    exact this
  have hq1 : as1[k]? = some (some q) := as_more k q hq
  have hmk : (ms' ++ [some (.l acc)])[k]? = some (some (.l ss)) := by
    have := ist i acc ms' hI
    rw [List.getElem?_append_left (List.getElem?_eq_some_iff.mp this).1]
    exact this
  obtain ⟨vs, k2, k3⟩ := m'.list hq1 hmk
  have hsq : SqL X.K H' q vs := .inl (.inl k2)
  have sr : Sr X.K as1 es (ms' ++ [some (.l acc)]) σ H' := ⟨s.len, fun i sv h => by
    obtain ⟨v, q1, q2⟩ := s.env i sv h
    exact ⟨v, q1, q2.grow e' as_more⟩, m'⟩
  by_cases c : i < ss.length
  · have cv : i < vs.length := by rw [k3.len]; exact c
    refine .inr ⟨⟨vs, vs[i], hsq, List.getElem?_eq_getElem cv⟩, fun H2 => ∃ m2, m2 < m ∧ Wd (i + 1) m2 H2, fun H2 h => h, fun x H2 hy => ?_⟩
    obtain ⟨rfl, hy⟩ := hy
    obtain ⟨u, hu, ru⟩ := k3.get (List.getElem?_eq_getElem c)
    have hx := hy vs hsq
    rw [hu] at hx
    cases hx
    obtain ⟨b, msb, hT, hy1, hy0⟩ := is i _ acc ms' (List.getElem?_eq_getElem c) hI
    have s2 := (sr.wipe [v]).set v ru
    refine ⟨?_, _, hT, as1, s2, fun H4 m4 e4 => ?_⟩
    · exact (wipe_set (List.mem_singleton.mpr rfl)).trans (wipe_wipe fun v hv => hv)
    have e5 : Same (hid as H) (hid as1 H4) := e'.trans e4
    cases b with
    | true =>
      obtain ⟨y, ms3, hE, hI'⟩ := hy1 rfl
      refine iteT ⟨_, hE, as1, s2.step m4 e4, fun v H5 m5 e6 r5 => ?_⟩
      have hl5 := hlen m5
      obtain ⟨vs', k2, k3⟩ := m5.list (ss := acc) hget (by rw [← hl5]; simp)
      refine ⟨vs', k2, by rw [k3.len]; exact Nat.lt_of_le_of_lt hal (Nat.lt_of_lt_of_le c (Nat.le_trans hz (by decide))), m - 1, by omega, by omega, acc ++ [y], ms3, hI', by simp; omega, ?_⟩
      have z := m5.put hget (k3.app (.cons r5 .nil))
      rw [← hl5, List.set_append_right _ _ (Nat.le_refl _)] at z
      simp at z
      exact ⟨hDH, z.1, (e5.trans e6).trans z.2, (low hI').2, (low hI').1⟩
    | false => exact iteF ⟨m - 1, by omega, by omega, acc, msb, hy0 rfl, by omega, ⟨hDH, m4, e5, (low (hy0 rfl)).2, (low (hy0 rfl)).1⟩⟩
  · have e : i = ss.length := by omega
    subst e
    obtain ⟨rfl, rfl⟩ := id acc ms' hI
    exact .inl ⟨⟨vs, hsq, by rw [k3.len]; exact Nat.le_refl _⟩, kk D H' nw⟩
theorem n_lcM {scope : Scope} {elt : Expr} {ifs : List Expr} {v : Nat} {ss res : List Sv} {nm : Str} {p1 : Pos} {iter : Expr} (hc : X.calm = true) (hN : X.N = N) (nd : N.Nodup) (hv : N[v]? = some nm) (hi : PE X iter (tD X.K es ms (.m k) ms1)) (hkk : ms1[k]? = some (some (.l ss))) (ok : BlkOk X.N X.env.scope scope [(nm, v)]) (hz : ss.length ≤ 100000)
    (h : LcM X scope elt ifs v (wipeE es [v]) ms1 k ss res ms2) (hl : Blk X scope fun Y => Loc Y.env.scope nm) (hf : Blk X scope fun Y => Y.fn nm = true ∨ Y.env.scope.names.lookup nm = some .local) (hs : ∀ x, foldedSetIterable iter X.env x = pure x := by intro _; rfl) :
    PE X (.ListComp elt [⟨.Name nm p1, iter, ifs, 0⟩] scope pos) (tN X.K es ms res ms2) :=
  pe_w (pe_lc (own := [(nm, v)]) hc (hN ▸ nd) (i_listM hi hkk) ok (fun s H C cl fp => pg_name (X := X.blk s H scope (compEnvC scope cl C X.env) fp) (show X.N.Nodup from hN ▸ nd) (show X.N[v]? = some nm by rw [hN]; exact hv) (hl s H C cl fp) (hf s H C cl fp)) pts_self pe_self hs) (lc_readM hz hkk h)
/-- x = [.. for nm in a list of ours ..], which is to be changed, or which holds lists of ours -/
theorem s_asgLcM {scope : Scope} {elt : Expr} {ifs : List Expr} {v : Nat} {ss res : List Sv} {nm y : Str} {p1 py spos : Pos} {iter : Expr} (hc : X.calm = true) (hN : X.N = N) (nd : N.Nodup) (hv : N[v]? = some nm) (hi : PE X iter (tD X.K es ms (.m k) ms1)) (hkk : ms1[k]? = some (some (.l ss))) (ok : BlkOk X.N X.env.scope scope [(nm, v)]) (hz : ss.length ≤ 100000)
    (h : LcM X scope elt ifs v (wipeE es [v]) ms1 k ss res ms2) (hl : Blk X scope fun Y => Loc Y.env.scope nm) (hf : Blk X scope fun Y => Y.fn nm = true ∨ Y.env.scope.names.lookup nm = some .local) (hput : Put N es y (.m ms2.length) es1) (kk : PSs X rest (tS X.K n W es1 (ms2 ++ [some (.l res)]) P)) (hyl : X.env.scope.names.lookup y = some .local)
    (hsw : swapsWith (.ListComp elt [⟨.Name nm p1, iter, ifs, 0⟩] scope pos) (some (.Name y py)) spos.line X.env = pure true) (hs : ∀ x, foldedSetIterable iter X.env x = pure x := by intro _; rfl) :
    PSs X (.Assign [.Name y py] (.ListComp elt [⟨.Name nm p1, iter, ifs, 0⟩] scope pos) spos :: rest) (tS X.K n W es ms P) := by
  obtain ⟨i, h1, h2⟩ := hput.ix
  refine s_cons (P' := fun o => o = .nx es1 (ms2 ++ [some (.l res)])) (ps_setLc (i := i) (own := [(nm, v)]) hc (hN ▸ nd) (by rw [hN]; exact h1) hyl hsw (i_listM hi hkk) ok (fun s H C cl fp => pg_name (X := X.blk s H scope (compEnvC scope cl C X.env) fp) (show X.N.Nodup from hN ▸ nd) (show X.N[v]? = some nm by rw [hN]; exact hv) (hl s H C cl fp) (hf s H C cl fp)) pts_self pe_self hs) (fun D σ H as s l kk => ?_) (fun o ho => by subst ho; exact kk)
  exact lc_readM hz hkk h σ H _ ⟨as, s, fun p H1 nw => kk _ rfl (as ++ [some p]) H1 (Stp.more l nw.free nw.same) _ ((s.hide nw).put (sv := .m ms2.length) nw.at h2)⟩
/-- x = [.. for .. in data ..], which is to be changed -/
theorem s_asgLcN {scope : Scope} {tg elt iter : Expr} {ifs : List Expr} {own : List (Str × Nat)} {ds : List Dt} {res : List Sv} {B : Dt → Es → Es → Prop} {y : Str} {py spos : Pos} (hc : X.calm = true) (hN : X.N = N) (nd : N.Nodup) (hi : PI X tg iter (iD X.K es ms ds ms1)) (ok : BlkOk X.N X.env.scope scope own) (hz : ds.length ≤ 100000) (ht : TgB X scope tg (own.map (·.2)) B)
    (h : LcH X scope tg elt ifs (own.map (·.2)) (wipeE es (own.map (·.2))) ms1 ds res ms2 B) (hput : Put N es y (.m ms2.length) es1) (kk : PSs X rest (tS X.K n W es1 (ms2 ++ [some (.l res)]) P)) (hyl : X.env.scope.names.lookup y = some .local)
    (hsw : swapsWith (.ListComp elt [⟨tg, iter, ifs, 0⟩] scope pos) (some (.Name y py)) spos.line X.env = pure true) (hs : ∀ x, foldedSetIterable iter X.env x = pure x := by intro _; rfl) :
    PSs X (.Assign [.Name y py] (.ListComp elt [⟨tg, iter, ifs, 0⟩] scope pos) spos :: rest) (tS X.K n W es ms P) := by
  obtain ⟨g, hg, q⟩ := ht
  obtain ⟨i, h1, h2⟩ := hput.ix
  refine s_cons (P' := fun o => o = .nx es1 (ms2 ++ [some (.l res)])) (ps_setLc (i := i) (own := own) hc (hN ▸ nd) (by rw [hN]; exact h1) hyl hsw hi ok hg pts_self pe_self hs) (fun D σ H as s l kk => ?_) (fun o ho => by subst ho; exact kk)
  exact lc_read hz q h σ H _ ⟨as, s, fun p H1 nw => kk _ rfl (as ++ [some p]) H1 (Stp.more l nw.free nw.same) _ ((s.hide nw).put (sv := .m ms2.length) nw.at h2)⟩
end
end Dv
/-! # Dv10: built-ins over lists of data -/
namespace Dv
open PySem PySem.Spec L2
mutual
/-- the datum as the library's plain data -/
def pyD : Dt → PyData
  | .non => .none
  | .bl b => .bool b
  | .int i => .int i
  | .str s => .str s
  | .lst ds => .list (pyL ds)
  | .tup ds => .tuple (pyL ds)
  | .obj _ _ => .none
def pyL : List Dt → List PyData
  | [] => []
  | d :: ds => pyD d :: pyL ds
end
mutual
theorem Rp.py {K : PySem.W.Frag} {H H' : Hp} (e : Same H H') : ∀ {d : Dt} {v : V}, deepP d = true → Rp K H v d → Dp K H' v (pyD d)
  | .non, _, _, .non => .non
  | .bl b, _, _, .bl _ => .bl b
  | .int i, _, _, .int _ => .int i
  | .str s, _, _, .str _ => .str s
  | .lst ds, _, h, .lst hs hx => .lst (e.seq hs) (RpA.py e (deep_lst h).1 hx)
  | .tup ds, _, h, .tup hs hx => .tup (sqT_same e hs) (RpA.py e (deep_tup h).1 hx)
  | .obj _ _, _, h, _ => by simp [deepP] at h
theorem RpA.py {K : PySem.W.Frag} {H H' : Hp} (e : Same H H') : ∀ {ds : List Dt} {vs : List V}, deepL ds = true → RpA K H vs ds → DpAll K H' vs (pyL ds)
  | [], _, _, .nil => .nil
  | d :: ds, _, h, .cons r t => by
    simp [deepL] at h
    exact .cons (Rp.py e h.1 r) (RpA.py e h.2 t)
end
section
variable {X : Cx} {n k : Nat} {es : Es} {ms ms1 ms2 : Ms} {e a b : Expr} {p pos : Pos}
theorem d_sum {ns : List Int} (hc : X.calm = true) (hg : Gl X "sum") (hm : X.mg "sum" = none) (ha : PE X e (tD X.K es ms (.d (.lst (ns.map Dt.int))) ms1)) (he : starEach [e] X.env = (false, eval e X.env) :: starEach [] X.env := by rfl) :
    PE X (.Call (.Name "sum" p) [e] [] pos) (tD X.K es ms (.d (.int ns.sum)) ms1) :=
  d_callB (cr_sum hc) hg hm (by decide +kernel) (a_cons ha a_nil he) (fun as vs H Q m r k => by
    cases r with | cons r1 r2 =>
      cases r2
      cases r1 with | lst hs hx =>
        have z := hx.ints
        subst z
        exact ⟨_, ns, rfl, hid_sub.seq hs, k _ _ m (Same.refl _) (.int _)⟩) (he := he)
/-- max of a list of ints: the one that is at least each -/
theorem d_max {ns : List Int} {z : Int} (hc : X.calm = true) (hg : Gl X "max") (hm : X.mg "max" = none) (ha : PE X e (tD X.K es ms (.d (.lst (ns.map Dt.int))) ms1)) (hz : z ∈ ns ∧ ∀ y ∈ ns, y ≤ z) (he : starEach [e] X.env = (false, eval e X.env) :: starEach [] X.env := by rfl) :
    PE X (.Call (.Name "max" p) [e] [] pos) (tD X.K es ms (.d (.int z)) ms1) :=
  d_callB (cr_max hc) hg hm (by decide +kernel) (a_cons ha a_nil he) (fun as vs H Q m r k => by
    cases r with | cons r1 r2 =>
      cases r2
      cases r1 with | lst hs hx =>
        have w := hx.ints
        subst w
        refine ⟨_, ns, rfl, hid_sub.seq hs, List.length_pos_of_mem hz.1, fun y hy hl => ?_⟩
        have : y = z := Int.le_antisymm (hz.2 y hy) (hl z hz.1)
        subst this
        exact k _ _ m (Same.refl _) (.int _)) (he := he)
theorem d_all {bs : List Bool} (hc : X.calm = true) (hg : Gl X "all") (hm : X.mg "all" = none) (ha : PE X e (tD X.K es ms (.d (.lst (bs.map Dt.bl))) ms1)) (he : starEach [e] X.env = (false, eval e X.env) :: starEach [] X.env := by rfl) :
    PE X (.Call (.Name "all" p) [e] [] pos) (tD X.K es ms (.d (.bl (bs.all id))) ms1) :=
  d_callB (cr_all hc) hg hm (by decide +kernel) (a_cons ha a_nil he) (fun as vs H Q m r k => by
    cases r with | cons r1 r2 =>
      cases r2
      cases r1 with | lst hs hx =>
        have z := hx.bls
        subst z
        exact ⟨_, bs, rfl, hid_sub.seq hs, k _ _ m (Same.refl _) (.bl _)⟩) (he := he)
theorem d_any {bs : List Bool} (hc : X.calm = true) (hg : Gl X "any") (hm : X.mg "any" = none) (ha : PE X e (tD X.K es ms (.d (.lst (bs.map Dt.bl))) ms1)) (he : starEach [e] X.env = (false, eval e X.env) :: starEach [] X.env := by rfl) :
    PE X (.Call (.Name "any" p) [e] [] pos) (tD X.K es ms (.d (.bl (bs.any id))) ms1) :=
  d_callB (cr_any hc) hg hm (by decide +kernel) (a_cons ha a_nil he) (fun as vs H Q m r k => by
    cases r with | cons r1 r2 =>
      cases r2
      cases r1 with | lst hs hx =>
        have z := hx.bls
        subst z
        exact ⟨_, bs, rfl, hid_sub.seq hs, k _ _ m (Same.refl _) (.bl _)⟩) (he := he)
/-- c == d of data -/
theorem c_eqD {c d : Dt} (hr : Room n X.A) (hc : deepP c = true) (hd : deepP d = true) (sc : SeqAt.shaped (pyD c) = true) (sd : SeqAt.shaped (pyD d) = true) : CmpOk X .Eq (.d c) (.d d) (PyData.eqv (pyD c) (pyD d)) :=
  ⟨_, op_eqD (by have := hr.un; omega), fun as ms v u H Q m rv ru k => ⟨_, _, rv.py hid_sub hc, ru.py hid_sub hd, sc, sd, k⟩⟩
theorem c_neD {c d : Dt} (hr : Room n X.A) (hc : deepP c = true) (hd : deepP d = true) (sc : SeqAt.shaped (pyD c) = true) (sd : SeqAt.shaped (pyD d) = true) : CmpOk X .NotEq (.d c) (.d d) (!PyData.eqv (pyD c) (pyD d)) :=
  ⟨_, op_neD (by have := hr.un; omega), fun as ms v u H Q m rv ru k => ⟨_, _, rv.py hid_sub hc, ru.py hid_sub hd, sc, sd, k⟩⟩
/-- sorted of a list of ints: the one ascending order of them -/
theorem n_sorted {ns zs : List Int} (hg : Gl X "sorted") (hm : X.mg "sorted" = none) (ha : PE X e (tD X.K es ms (.d (.lst (ns.map Dt.int))) ms1)) (hp : zs.Perm ns) (hs : zs.Pairwise (· ≤ ·)) (he : starEach [e] X.env = (false, eval e X.env) :: starEach [] X.env := by rfl) :
    PE X (.Call (.Name "sorted" p) [e] [] pos) (tN X.K es ms ((zs.map Dt.int).map Sv.d) ms1) :=
  pe_w (pe_callB cr_sortedI hg hm (by decide +kernel) (a_cons ha a_nil he) (he := he)) fun σ H Q ⟨as, s, k⟩ => ⟨as, s, fun vs H1 m1 e1 r => by
    cases r with | cons r1 r2 =>
      cases r2
      cases r1 with | lst hl hx =>
        have z := hx.ints
        subst z
        refine ⟨_, ns, rfl, hid_sub.seq hl, fun ns' q hp' hs' hq => ?_⟩
        have : ns' = zs := List.Perm.eq_of_pairwise (fun a b _ _ h1 h2 => Int.le_antisymm h1 h2) hs' hs (hp'.trans hp.symm)
        subst this
        exact k q _ ((m1.more hq (ArR.of (RpA.ofInts ns'))).of e1 (old_of e1 m1 hq))⟩
end
end Dv
/-! # Dn0: frames: a store of one def's own view within the whole store -/
namespace Dn
open PySem PySem.Spec L2 Dv
/-! ### stores set at many places -/
def setAll : Ms → List Nat → Ms → Ms
  | out, k :: ks, c :: cs => setAll (out.set k c) ks cs
  | out, _, _ => out
theorem setAll_len : ∀ (out : Ms) (ks : List Nat) (cs : Ms), (setAll out ks cs).length = out.length
  | out, [], cs => by cases cs <;> rfl
  | out, k :: ks, [] => rfl
  | out, k :: ks, c :: cs => by show (setAll (out.set k c) ks cs).length = _; rw [setAll_len, List.length_set]
theorem setAll_ne : ∀ {out : Ms} {ks : List Nat} {cs : Ms} {j : Nat}, j ∉ ks → (setAll out ks cs)[j]? = out[j]?
  | out, [], cs, j, _ => by cases cs <;> rfl
  | out, k :: ks, [], j, _ => rfl
  | out, k :: ks, c :: cs, j, h => by
    show (setAll (out.set k c) ks cs)[j]? = _
    rw [setAll_ne (fun z => h (List.mem_cons_of_mem _ z)), List.getElem?_set_ne (fun z => h (by rw [z]; exact List.mem_cons_self))]
theorem setAll_get : ∀ {out : Ms} {ks : List Nat} {cs : Ms} {i k : Nat}, ks.Nodup → (∀ k ∈ ks, k < out.length) → ks.length = cs.length → ks[i]? = some k → (setAll out ks cs)[k]? = cs[i]?
  | out, [], cs, i, k, _, _, _, h => by simp at h
  | out, k0 :: ks, [], i, k, _, _, e, h => by simp at e
  | out, k0 :: ks, c :: cs, 0, k, nd, lt, e, h => by
    simp at h
    subst h
    show (setAll (out.set k0 c) ks cs)[k0]? = _
    rw [setAll_ne (List.nodup_cons.mp nd).1, List.getElem?_set_self (lt k0 List.mem_cons_self)]
    rfl
  | out, k0 :: ks, c :: cs, i + 1, k, nd, lt, e, h => by
    show (setAll (out.set k0 c) ks cs)[k]? = _
    rw [setAll_get (i := i) (List.nodup_cons.mp nd).2 (fun k hk => by rw [List.length_set]; exact lt k (List.mem_cons_of_mem _ hk)) (by simpa using e) (by simpa using h)]
    simp
theorem setAll_comm : ∀ {out : Ms} {ks : List Nat} {cs : Ms} {k : Nat} {c : Option Cell}, k ∉ ks → setAll (out.set k c) ks cs = (setAll out ks cs).set k c
  | out, [], cs, k, c, _ => by cases cs <;> rfl
  | out, k0 :: ks, [], k, c, _ => rfl
  | out, k0 :: ks, c0 :: cs, k, c, h => by
    show setAll ((out.set k c).set k0 c0) ks cs = (setAll (out.set k0 c0) ks cs).set k c
    rw [← setAll_comm (fun z => h (List.mem_cons_of_mem _ z)), List.set_comm _ _ (fun z => h (by rw [z]; exact List.mem_cons_self))]
theorem setAll_set : ∀ {out : Ms} {ks : List Nat} {cs : Ms} {i k : Nat} {c : Option Cell}, ks.Nodup → ks.length = cs.length → ks[i]? = some k → setAll out ks (cs.set i c) = (setAll out ks cs).set k c
  | out, [], cs, i, k, c, _, _, h => by simp at h
  | out, k0 :: ks, [], i, k, c, _, e, h => by simp at e
  | out, k0 :: ks, c0 :: cs, 0, k, c, nd, e, h => by
    simp at h
    subst h
    show setAll (out.set k0 c) ks cs = (setAll (out.set k0 c0) ks cs).set k0 c
    rw [setAll_comm (List.nodup_cons.mp nd).1, setAll_comm (List.nodup_cons.mp nd).1, List.set_set]
  | out, k0 :: ks, c0 :: cs, i + 1, k, c, nd, e, h => setAll_set (out := out.set k0 c0) (List.nodup_cons.mp nd).2 (by simpa using e) (by simpa using h)
theorem setAll_app : ∀ {out ox : Ms} {ks : List Nat} {cs : Ms}, (∀ k ∈ ks, k < out.length) → setAll (out ++ ox) ks cs = setAll out ks cs ++ ox
  | out, ox, [], cs, _ => by cases cs <;> rfl
  | out, ox, k :: ks, [], _ => rfl
  | out, ox, k :: ks, c :: cs, h => by
    show setAll ((out ++ ox).set k c) ks cs = setAll (out.set k c) ks cs ++ ox
    rw [List.set_append_left _ _ (h k List.mem_cons_self), setAll_app (fun k hk => by rw [List.length_set]; exact h k (List.mem_cons_of_mem _ hk))]
theorem setAll_app2 : ∀ {out : Ms} {ks kx : List Nat} {cs cx : Ms}, ks.length = cs.length → setAll out (ks ++ kx) (cs ++ cx) = setAll (setAll out ks cs) kx cx
  | out, [], kx, [], cx, _ => rfl
  | out, [], kx, _ :: _, cx, e => by simp at e
  | out, _ :: _, kx, [], cx, e => by simp at e
  | out, k :: ks, kx, c :: cs, cx, e => setAll_app2 (out := out.set k c) (by simpa using e)
theorem setAll_take : ∀ {out : Ms} {kx : List Nat} {cx : Ms} {n : Nat}, (∀ k ∈ kx, n ≤ k) → (setAll out kx cx).take n = out.take n
  | out, [], cx, n, _ => by cases cx <;> rfl
  | out, k :: kx, [], n, _ => rfl
  | out, k :: kx, c :: cx, n, h => by
    show (setAll (out.set k c) kx cx).take n = _
    rw [setAll_take (fun k hk => h k (List.mem_cons_of_mem _ hk)), List.take_set_of_le (h k List.mem_cons_self)]
/-! ### frames -/
structure Fr where
  out : Ms
  ks : List Nat
structure Fr.ok (f : Fr) : Prop where
  nd : f.ks.Nodup
  lt : ∀ k ∈ f.ks, k < f.out.length
def Fr.s (f : Fr) : Sv → Sv
  | .m i => match f.ks[i]? with | some k => .m k | none => .u
  | s => s
def Fr.ms (f : Fr) (ms : Ms) : Ms := setAll f.out f.ks (ms.map (Option.map (Cell.map f.s)))
def Fr.es (f : Fr) (es : Es) : Es := es.map (Option.map f.s)
def LowE (n : Nat) (es : Es) : Prop := ∀ (i k : Nat), es[i]? = some (some (.m k)) → k < n
structure Fit (f : Fr) (es : Es) (ms : Ms) : Prop where
  ok : f.ok
  len : f.ks.length = ms.length
  le : LowE ms.length es
  lm : Lows ms.length ms
theorem Fr.s_d {f : Fr} {d : Dt} : f.s (.d d) = .d d := rfl
theorem Fr.map_d {f : Fr} {ds : List Dt} : (ds.map Sv.d).map f.s = ds.map Sv.d := by simp [Fr.s]
section
variable {f : Fr} {es : Es} {ms : Ms} {i k : Nat} {c : Option Cell}
theorem Fr.len (f : Fr) (ms : Ms) : (f.ms ms).length = f.out.length := setAll_len _ _ _
theorem Fr.get (h : f.ok) (hl : f.ks.length = ms.length) (hk : f.ks[i]? = some k) : (f.ms ms)[k]? = ms[i]?.map (Option.map (Cell.map f.s)) := by
  unfold Fr.ms
  rw [setAll_get h.nd h.lt (by simpa using hl) hk, List.getElem?_map]
theorem Fr.set (h : f.ok) (hl : f.ks.length = ms.length) (hk : f.ks[i]? = some k) : f.ms (ms.set i c) = (f.ms ms).set k (c.map (Cell.map f.s)) := by
  unfold Fr.ms
  rw [List.map_set, setAll_set h.nd (by simpa using hl) hk]
theorem Fr.es_get (f : Fr) (es : Es) (i : Nat) : (f.es es)[i]? = es[i]?.map (Option.map f.s) := by unfold Fr.es; rw [List.getElem?_map]
theorem Fr.es_set (f : Fr) (es : Es) (i : Nat) (s : Option Sv) : f.es (es.set i s) = (f.es es).set i (s.map f.s) := by unfold Fr.es; rw [List.map_set]
theorem Fr.ix (hl : f.ks.length = ms.length) (hi : i < ms.length) : ∃ k, f.ks[i]? = some k := ⟨f.ks[i]'(by omega), List.getElem?_eq_getElem (by omega)⟩
/-- more of the whole store behind -/
def Fr.more (f : Fr) (ox : Ms) : Fr := ⟨f.out ++ ox, f.ks⟩
theorem Fr.more_ok (h : f.ok) (ox : Ms) : (f.more ox).ok := ⟨h.nd, fun k hk => by show k < (f.out ++ ox).length; rw [List.length_append]; exact Nat.lt_of_lt_of_le (h.lt k hk) (Nat.le_add_right _ _)⟩
theorem Fr.more_s (f : Fr) (ox : Ms) : (f.more ox).s = f.s := rfl
theorem Fr.more_ms (h : f.ok) (ox : Ms) : (f.more ox).ms ms = f.ms ms ++ ox := setAll_app h.lt
/-- one thing more of the def's own -/
def Fr.push (f : Fr) : Fr := ⟨f.out ++ [none], f.ks ++ [f.out.length]⟩
theorem Fr.push_ok (h : f.ok) : f.push.ok := ⟨by
    show (f.ks ++ [f.out.length]).Nodup
    rw [List.nodup_append]
    refine ⟨h.nd, by simp, fun a ha b hb => ?_⟩
    rw [List.mem_singleton.mp hb]
    exact Nat.ne_of_lt (h.lt a ha), fun k hk => by
    show k < (f.out ++ [none]).length
    rw [List.length_append]
    rcases List.mem_append.mp hk with z | z
    · exact Nat.lt_of_lt_of_le (h.lt k z) (Nat.le_add_right _ _)
    · rw [List.mem_singleton.mp z]
      exact Nat.lt_succ_self _⟩
theorem Fr.push_s {s : Sv} (h : ∀ k, s = .m k → k < f.ks.length) : f.push.s s = f.s s := by
  cases s with
  | m k =>
    have := h k rfl
    unfold Fr.s Fr.push
    dsimp only
    rw [List.getElem?_append_left this]
  | _ => rfl
theorem Fr.push_svs {ss : List Sv} (h : Low f.ks.length ss) : ss.map f.push.s = ss.map f.s := List.map_congr_left fun s hs => Fr.push_s fun k e => h k (e ▸ hs)
theorem Fr.push_cell {c : Cell} (h : Low f.ks.length c.all) : c.map f.push.s = c.map f.s := by
  cases c with
  | l ss => exact congrArg Cell.l (Fr.push_svs h)
  | o C fs => exact congrArg (Cell.o C) (List.map_congr_left fun p hp => by rw [Fr.push_s fun k e => h k (by rw [← e]; exact List.mem_map.mpr ⟨p, hp, rfl⟩)])
theorem Fr.push_es (h : LowE f.ks.length es) : f.push.es es = f.es es := by
  unfold Fr.es
  refine List.map_congr_left fun o ho => ?_
  cases o with
  | none => rfl
  | some s =>
    obtain ⟨i, hi⟩ := List.getElem?_of_mem ho
    exact congrArg some (Fr.push_s fun k e => h i k (by rw [hi, e]))
theorem Fr.push_cells (h : Lows f.ks.length ms) : ms.map (Option.map (Cell.map f.push.s)) = ms.map (Option.map (Cell.map f.s)) := by
  refine List.map_congr_left fun o ho => ?_
  cases o with
  | none => rfl
  | some s =>
    obtain ⟨i, hi⟩ := List.getElem?_of_mem ho
    exact congrArg some (Fr.push_cell (h i s hi))
theorem Fr.push_ms {c : Cell} (h : f.ok) (hl : f.ks.length = ms.length) (hm : Lows f.ks.length ms) (hc : Low f.ks.length c.all) : f.push.ms (ms ++ [some c]) = f.ms ms ++ [some (c.map f.s)] := by
  unfold Fr.ms
  rw [List.map_append, Fr.push_cells hm]
  show setAll (f.out ++ [none]) (f.ks ++ [f.out.length]) (_ ++ [some (c.map f.push.s)]) = _
  rw [setAll_app2 (by simpa using hl), setAll_app h.lt, Fr.push_cell hc]
  show ((setAll f.out f.ks _) ++ [none]).set f.out.length _ = _
  rw [← setAll_len f.out f.ks (ms.map (Option.map (Cell.map f.s))), List.set_append_right _ _ (Nat.le_refl _)]
  simp
end
theorem LowE.set {n : Nat} {es : Es} {i : Nat} {s : Sv} (h : LowE n es) (hs : ∀ k, s = .m k → k < n) : LowE n (es.set i (some s)) := fun j k hj => by
  by_cases c : i = j
  · subst c
    have hl := (List.getElem?_eq_some_iff.mp hj).1
    rw [List.length_set] at hl
    rw [List.getElem?_set_self hl] at hj
    exact hs k (by cases hj; rfl)
  · rw [List.getElem?_set_ne c] at hj
    exact h j k hj
theorem LowE.setN {n : Nat} {es : Es} {i : Nat} (h : LowE n es) : LowE n (es.set i none) := fun j k hj => by
  by_cases c : i = j
  · subst c
    have hl := (List.getElem?_eq_some_iff.mp hj).1
    rw [List.length_set] at hl
    rw [List.getElem?_set_self hl] at hj
    cases hj
  · rw [List.getElem?_set_ne c] at hj
    exact h j k hj
theorem LowE.up {n m : Nat} {es : Es} (h : LowE n es) (l : n ≤ m) : LowE m es := fun i k e => Nat.lt_of_lt_of_le (h i k e) l
theorem Low.up {n m : Nat} {ss : List Sv} (h : Low n ss) (l : n ≤ m) : Low m ss := fun k e => Nat.lt_of_lt_of_le (h k e) l
theorem Lows.up {n m : Nat} {ms : Ms} (h : Lows n ms) (l : n ≤ m) : Lows m ms := fun i c e => Low.up (h i c e) l
theorem Lows.set {n : Nat} {ms : Ms} {i : Nat} {c : Cell} (h : Lows n ms) (hc : Low n c.all) : Lows n (ms.set i (some c)) := fun j d hj => by
  by_cases e : i = j
  · subst e
    have hl := (List.getElem?_eq_some_iff.mp hj).1
    rw [List.length_set] at hl
    rw [List.getElem?_set_self hl] at hj
    cases hj
    exact hc
  · rw [List.getElem?_set_ne e] at hj
    exact h j d hj
theorem Lows.app {n : Nat} {ms : Ms} {c : Cell} (h : Lows n ms) (hc : Low n c.all) : Lows n (ms ++ [some c]) := fun j d hj => by
  by_cases e : j < ms.length
  · rw [List.getElem?_append_left e] at hj
    exact h j d hj
  · have hl := (List.getElem?_eq_some_iff.mp hj).1
    simp at hl
    have : j = ms.length := by omega
    subst this
    simp at hj
    subst hj
    exact hc
theorem low_data (n : Nat) (ds : List Dt) : Low n (ds.map Sv.d) := fun k hk => by simp at hk
theorem low_nil (n : Nat) : Low n [] := fun k hk => by cases hk
theorem Low.cons {n : Nat} {s : Sv} {ss : List Sv} (h : ∀ k, s = .m k → k < n) (r : Low n ss) : Low n (s :: ss) := fun k hk => by
  rcases List.mem_cons.mp hk with z | z
  · exact h k z.symm
  · exact r k z
theorem Low.app {n : Nat} {ss ts : List Sv} (h : Low n ss) (r : Low n ts) : Low n (ss ++ ts) := fun k hk => by
  rcases List.mem_append.mp hk with z | z
  · exact h k z
  · exact r k z
end Dn
/-! # Dn1: what expressions mean, as functions; the rules that tie them to the text -/
namespace Dn
open PySem PySem.Spec L2 Dv
/-- what an expression gives: a value, a new list, an error -/
inductive Pv where
  | v (s : Sv) | n (ss : List Sv) | x (e : Xc)
inductive Ov where
  | v (s : Sv) | x (e : Xc)
inductive Av where
  | v (ss : List Sv) | x (e : Xc)
abbrev ED := Es → Ms → Option (Pv × Ms)
abbrev TD := Es → Ms → Option (Bool × Ms)
abbrev AD := Es → Ms → Option (Av × Ms)
def unD : List Sv → Option (List Dt)
  | [] => some []
  | .d x :: r => (unD r).map (x :: ·)
  | _ => none
theorem unD_eq : ∀ {ss : List Sv} {ds : List Dt}, unD ss = some ds → ss = ds.map Sv.d
  | [], ds, h => by cases h; rfl
  | .d x :: r, ds, h => by
    unfold unD at h
    cases e : unD r with
    | none => rw [e] at h; cases h
    | some cs =>
      rw [e] at h
      cases h
      rw [unD_eq e]
      rfl
  | .m _ :: _, _, h => by cases h
  | .x _ _ _ _ :: _, _, h => by cases h
  | .u :: _, _, h => by cases h
@[simp] theorem unD_data : ∀ (ds : List Dt), unD (ds.map Sv.d) = some ds
  | [] => rfl
  | d :: ds => by show (unD (ds.map Sv.d)).map _ = _; rw [unD_data ds]; rfl
/-- as an operand: a new list is a datum -/
def opx (A : ED) : Es → Ms → Option (Ov × Ms) := fun es ms => match A es ms with
  | some (.v s, m) => some (.v s, m)
  | some (.n ss, m) => match unD ss with
    | some ds => some (.v (.d (.lst ds)), m)
    | none => none
  | some (.x e, m) => some (.x e, m)
  | none => none
def LowP (n : Nat) : Pv → Prop
  | .v s => ∀ k, s = .m k → k < n
  | .n ss => Low n ss
  | .x _ => True
structure Den (X : Cx) (e : Expr) (A : ED) : Prop where
  val : ∀ {f : Fr} {es : Es} {ms ms' : Ms} {s : Sv}, Fit f es ms → A es ms = some (.v s, ms') → PE X e (tD X.K (f.es es) (f.ms ms) (f.s s) (f.ms ms'))
  new : ∀ {f : Fr} {es : Es} {ms ms' : Ms} {ss : List Sv}, Fit f es ms → A es ms = some (.n ss, ms') → PE X e (tN X.K (f.es es) (f.ms ms) (ss.map f.s) (f.ms ms'))
  exc : ∀ {W : WX} {f : Fr} {es : Es} {ms ms' : Ms} {x : Xc}, Takes X W → Fit f es ms → A es ms = some (.x x, ms') → PE X e (tX X.K W (f.es es) (f.ms ms) x (f.ms ms'))
  low : ∀ {es : Es} {ms ms' : Ms} {p : Pv}, LowE ms.length es → Lows ms.length ms → A es ms = some (p, ms') → LowP ms.length p ∧ Lows ms.length ms' ∧ ms'.length = ms.length
structure DenA (X : Cx) (l : List Expr) (A : AD) : Prop where
  val : ∀ {f : Fr} {es : Es} {ms ms' : Ms} {ss : List Sv}, Fit f es ms → A es ms = some (.v ss, ms') → PA X l (tAr X.K (f.es es) (f.ms ms) (ss.map f.s) (f.ms ms'))
  exc : ∀ {W : WX} {f : Fr} {es : Es} {ms ms' : Ms} {x : Xc}, Takes X W → Fit f es ms → A es ms = some (.x x, ms') → PA X l (tAX X.K W (f.es es) (f.ms ms) x (f.ms ms'))
  low : ∀ {es : Es} {ms ms' : Ms} {p : Av}, LowE ms.length es → Lows ms.length ms → A es ms = some (p, ms') → (∀ ss, p = .v ss → Low ms.length ss) ∧ Lows ms.length ms' ∧ ms'.length = ms.length
structure DenT (X : Cx) (e : Expr) (A : TD) : Prop where
  val : ∀ {f : Fr} {es : Es} {ms ms' : Ms} {b : Bool}, Fit f es ms → A es ms = some (b, ms') → PT X e (tBo X.K (f.es es) (f.ms ms) b (f.ms ms'))
  low : ∀ {es : Es} {ms ms' : Ms} {b : Bool}, LowE ms.length es → Lows ms.length ms → A es ms = some (b, ms') → Lows ms.length ms' ∧ ms'.length = ms.length
theorem Fit.go {f : Fr} {es : Es} {ms ms' : Ms} (h : Fit f es ms) (g : Lows ms.length ms' ∧ ms'.length = ms.length) : Fit f es ms' :=
  ⟨h.ok, h.len.trans g.2.symm, g.2 ▸ h.le, g.2 ▸ g.1⟩
section
variable {X : Cx} {e a b c : Expr} {A B C : ED} {T U : TD} {f : Fr} {es : Es} {ms ms' ms1 ms2 : Ms} {p pos : Pos}
theorem opx_v {A : ED} {es : Es} {ms m : Ms} {s : Sv} (h : opx A es ms = some (.v s, m)) : A es ms = some (.v s, m) ∨ ∃ ds, s = .d (.lst ds) ∧ A es ms = some (.n (ds.map Sv.d), m) := by
  unfold opx at h
  cases q : A es ms with
  | none => rw [q] at h; cases h
  | some r =>
    obtain ⟨p, m'⟩ := r
    rw [q] at h
    cases p with
    | v s' => cases h; exact .inl rfl
    | x e => cases h
    | n ss =>
      dsimp only at h
      cases hu : unD ss with
      | none => rw [hu] at h; cases h
      | some ds =>
        rw [hu] at h
        cases h
        exact .inr ⟨ds, rfl, by rw [← unD_eq hu]⟩
theorem Den.opV {s : Sv} (h : Den X e A) (ft : Fit f es ms) (q : opx A es ms = some (.v s, ms')) : PE X e (tD X.K (f.es es) (f.ms ms) (f.s s) (f.ms ms')) := by
  rcases opx_v q with q | ⟨ds, rfl, q1⟩
  · exact h.val ft q
  · have := h.new ft q1
    rw [Fr.map_d] at this
    exact d_ofN this
theorem Den.opX {W : WX} {x : Xc} (h : Den X e A) (tk : Takes X W) (ft : Fit f es ms) (q : opx A es ms = some (.x x, ms')) : PE X e (tX X.K W (f.es es) (f.ms ms) x (f.ms ms')) := by
  unfold opx at q
  split at q
  · cases q
  · split at q
    · cases q
    · cases q
  · cases q
    exact h.exc tk ft ‹_›
  · cases q
theorem Den.opL {o : Ov} (h : Den X e A) (le : LowE ms.length es) (lm : Lows ms.length ms) (q : opx A es ms = some (o, ms')) : (∀ k, o = .v (.m k) → k < ms.length) ∧ Lows ms.length ms' ∧ ms'.length = ms.length := by
  unfold opx at q
  split at q
  · cases q
    obtain ⟨h1, h2⟩ := h.low le lm ‹_›
    exact ⟨fun k e => h1 k (by cases e; rfl), h2⟩
  · split at q
    · cases q
      exact ⟨fun k e => (by cases e), (h.low le lm ‹_›).2⟩
    · cases q
  · cases q
    exact ⟨fun k e => (by cases e), (h.low le lm ‹_›).2⟩
  · cases q
theorem Den.opF {o : Ov} (h : Den X e A) (ft : Fit f es ms) (q : opx A es ms = some (o, ms')) : Fit f es ms' := ft.go (h.opL ft.le ft.lm q).2
/-! ### names, constants -/
def var (i : Nat) : ED := fun es ms => match es[i]? with
  | some (some s) => some (.v s, ms)
  | _ => none
theorem var_eq {i : Nat} {q : Pv} (h : var i es ms = some (q, ms')) : ∃ s, q = .v s ∧ ms' = ms ∧ es[i]? = some (some s) := by
  unfold var at h
  split at h
  · cases h
    exact ⟨_, rfl, rfl, ‹_›⟩
  · cases h
theorem den_var {i : Nat} {n : Str} (hN : X.N[i]? = some n) (hv : Vis X.env.scope n := by first | exact Or.inl rfl | exact Or.inr (Or.inl rfl) | exact Or.inr (Or.inr rfl))
    (hd : (n == ("__debug__" : Str)) = false := by decide) (hcd : (n == ("__classdict__" : Str)) = false := by decide) : Den X (.Name n pos) (var i) where
  val := fun {f es ms ms' s} ft h => by
    obtain ⟨s', e, rfl, g⟩ := var_eq h
    cases e
    refine pe_w (pe_var (i := i) hN hv hd hcd) fun σ H Q ⟨as, sr, k⟩ => ?_
    obtain ⟨v, e1, e2⟩ := sr.env i (f.s s) (by rw [Fr.es_get, g]; rfl)
    exact ⟨v, e1, k v H sr.mem (Same.refl _) e2⟩
  new := fun ft h => by obtain ⟨_, e, _⟩ := var_eq h; cases e
  exc := fun tk ft h => by obtain ⟨_, e, _⟩ := var_eq h; cases e
  low := fun le lm h => by
    obtain ⟨s', rfl, rfl, g⟩ := var_eq h
    exact ⟨fun k e => le i k (by rw [g, e]), lm, rfl⟩
def kst (d : Dt) : ED := fun _ ms => some (.v (.d d), ms)
theorem den_kst {d : Dt} (h : ∀ es ms, PE X e (tD X.K es ms (.d d) ms)) : Den X e (kst d) where
  val := fun ft q => by cases q; exact h _ _
  new := fun ft q => by cases q
  exc := fun tk ft q => by cases q
  low := fun le lm q => by cases q; exact ⟨fun k e => (by cases e), lm, rfl⟩
theorem den_int {i : Int} {j} : Den X (.Constant (.int i) j pos) (kst (.int i)) := den_kst fun _ _ => d_int
theorem den_bl {i : Bool} {j} : Den X (.Constant (.bool i) j pos) (kst (.bl i)) := den_kst fun _ _ => d_bl
theorem den_non {j} : Den X (.Constant .none j pos) (kst .non) := den_kst fun _ _ => d_non
theorem den_str {s : Str} {j} : Den X (.Constant (.str s) j pos) (kst (.str s)) := den_kst fun _ _ => d_str
/-! ### a function of one, of two values that gives data -/
def map1 (g : Ms → Sv → Option Dt) (A : ED) : ED := fun es ms => match opx A es ms with
  | some (.v x, m1) => match g m1 x with
    | some d => some (.v (.d d), m1)
    | none => none
  | _ => none
theorem map1_eq {g : Ms → Sv → Option Dt} {q : Pv} (h : map1 g A es ms = some (q, ms')) : ∃ x d, opx A es ms = some (.v x, ms') ∧ g ms' x = some d ∧ q = .v (.d d) := by
  unfold map1 at h
  split at h
  · split at h
    · cases h
      exact ⟨_, _, ‹_›, ‹_›, rfl⟩
    · cases h
  · cases h
/-- the store of the def's view, as the whole -/
def GR (g : Ms → Sv → Option Dt) (P : ∀ (f : Fr) (ms : Ms) (x : Sv) (d : Dt), Prop) : Prop := ∀ f es ms x d, Fit f es ms → (∀ k, x = .m k → k < ms.length) → g ms x = some d → P f ms x d
theorem den_map1 {g : Ms → Sv → Option Dt} (ha : Den X a A)
    (h : ∀ (f : Fr) (es0 : Es) (es : Es) (m0 ms : Ms) (x : Sv) (d : Dt), Fit f es0 ms → (∀ k, x = .m k → k < ms.length) → g ms x = some d → PE X a (tD X.K es m0 (f.s x) (f.ms ms)) → PE X e (tD X.K es m0 (.d d) (f.ms ms))) : Den X e (map1 g A) where
  val := fun {f es ms ms' s} ft q => by
    obtain ⟨x, d, h1, h2, h3⟩ := map1_eq q
    cases h3
    have lo := ha.opL ft.le ft.lm h1
    exact h f es _ _ _ x d (ha.opF ft h1) (fun k e => by rw [lo.2.2]; exact lo.1 k (by rw [e])) h2 (ha.opV ft h1)
  new := fun ft q => by obtain ⟨x, d, h1, h2, h3⟩ := map1_eq q; cases h3
  exc := fun tk ft q => by obtain ⟨x, d, h1, h2, h3⟩ := map1_eq q; cases h3
  low := fun le lm q => by
    obtain ⟨x, d, h1, h2, rfl⟩ := map1_eq q
    exact ⟨fun k e => (by cases e), (ha.opL le lm h1).2⟩
def map2 (g : Ms → Sv → Sv → Option Dt) (A B : ED) : ED := fun es ms => match opx A es ms with
  | some (.v x, m1) => match opx B es m1 with
    | some (.v y, m2) => match g m2 x y with
      | some d => some (.v (.d d), m2)
      | none => none
    | _ => none
  | _ => none
theorem map2_eq {g : Ms → Sv → Sv → Option Dt} {q : Pv} (h : map2 g A B es ms = some (q, ms')) : ∃ x y d m1, opx A es ms = some (.v x, m1) ∧ opx B es m1 = some (.v y, ms') ∧ g ms' x y = some d ∧ q = .v (.d d) := by
  unfold map2 at h
  split at h
  · split at h
    · split at h
      · cases h
        exact ⟨_, _, _, _, ‹_›, ‹_›, ‹_›, rfl⟩
      · cases h
    · cases h
  · cases h
theorem den_map2 {g : Ms → Sv → Sv → Option Dt} (ha : Den X a A) (hb : Den X b B)
    (h : ∀ (f : Fr) (es0 es : Es) (m0 m1 ms : Ms) (x y : Sv) (d : Dt), Fit f es0 ms → (∀ k, x = .m k → k < ms.length) → (∀ k, y = .m k → k < ms.length) → g ms x y = some d → PE X a (tD X.K es m0 (f.s x) m1) → PE X b (tD X.K es m1 (f.s y) (f.ms ms)) → PE X e (tD X.K es m0 (.d d) (f.ms ms))) : Den X e (map2 g A B) where
  val := fun {f es ms ms' s} ft q => by
    obtain ⟨x, y, d, m1, h1, h2, h3, h4⟩ := map2_eq q
    cases h4
    have l1 := ha.opL ft.le ft.lm h1
    have ft1 := ha.opF ft h1
    have l2 := hb.opL ft1.le ft1.lm h2
    exact h f es _ _ _ _ x y d (hb.opF ft1 h2) (fun k e => by rw [l2.2.2, l1.2.2]; exact l1.1 k (by rw [e])) (fun k e => by rw [l2.2.2]; exact l2.1 k (by rw [e])) h3 (ha.opV ft h1) (hb.opV ft1 h2)
  new := fun ft q => by obtain ⟨x, y, d, m1, h1, h2, h3, h4⟩ := map2_eq q; cases h4
  exc := fun tk ft q => by obtain ⟨x, y, d, m1, h1, h2, h3, h4⟩ := map2_eq q; cases h4
  low := fun {es ms ms' q0} le lm q => by
    obtain ⟨x, y, d, m1, h1, h2, h3, rfl⟩ := map2_eq q
    have l1 := ha.opL le lm h1
    have l2 := hb.opL (ms := m1) (by rw [l1.2.2]; exact le) (by rw [l1.2.2]; exact l1.2.1) h2
    refine ⟨fun k e => (by cases e), ?_, l2.2.2.trans l1.2.2⟩
    rw [← l1.2.2]
    exact l2.2.1
/-! ### operators on ints -/
instance {i j : Int} : Decidable (CMulW i j) := inferInstanceAs (Decidable (_ < _))
instance {i j : Int} : Decidable (CDivW i j) := inferInstanceAs (Decidable (_ ∧ _))
instance {i j : Int} : Decidable (CPow i j) := inferInstanceAs (Decidable (_ ∧ _))
def opI : Operator → Int → Int → Option Int
  | .Add, i, j => some (i + j)
  | .Sub, i, j => some (i - j)
  | .Mult, i, j => if CMulW i j then some (i * j) else none
  | .FloorDiv, i, j => if CDivW i j then some (i / j) else none
  | .Mod, i, j => if 0 < j then some (i % j) else none
  | .Pow, i, j => if CPow i j then some (i ^ j.toNat) else none
  | _, _, _ => none
def opS (op : Operator) : Ms → Sv → Sv → Option Dt := fun _ x y => match x, y with
  | .d (.int i), .d (.int j) => match opI op i j with
    | some k => some (.int k)
    | none => none
  | _, _ => none
def bin (op : Operator) (A B : ED) : ED := map2 (opS op) A B
theorem den_bin {op : Operator} (ha : Den X a A) (hb : Den X b B) : Den X (.BinOp a op b pos) (bin op A B) :=
  den_map2 ha hb fun f es0 es m0 m1 ms x y d ft lx ly g pa pb => by
    unfold opS at g
    split at g
    · split at g
      · cases g
        rename_i k hk
        unfold opI at hk
        split at hk
        · cases hk; exact d_add pa pb
        · cases hk; exact d_sub pa pb
        · split at hk
          · cases hk; exact d_mul pa pb ‹_›
          · cases hk
        · split at hk
          · cases hk; exact d_fdiv pa pb ‹_›
          · cases hk
        · split at hk
          · cases hk; exact d_mod pa pb ‹_›
          · cases hk
        · split at hk
          · cases hk; exact d_pow pa pb ‹_›
          · cases hk
        · cases hk
      · cases g
    · cases g
def negS : Ms → Sv → Option Dt := fun _ x => match x with
  | .d (.int i) => some (.int (-i))
  | _ => none
def neg (A : ED) : ED := map1 negS A
theorem den_neg (ha : Den X a A) : Den X (.UnaryOp .USub a pos) (neg A) := den_map1 ha fun f es0 es m0 ms x d ft lx g pa => by
  unfold negS at g
  split at g
  · cases g; exact d_neg pa
  · cases g
def notS : Ms → Sv → Option Dt := fun _ x => match x with
  | .d (.bl i) => some (.bl (!i))
  | _ => none
def notE (A : ED) : ED := map1 notS A
theorem den_not (ha : Den X a A) : Den X (.UnaryOp .Not a pos) (notE A) := den_map1 ha fun f es0 es m0 ms x d ft lx g pa => by
  unfold notS at g
  split at g
  · cases g; exact d_not pa
  · cases g
/-! ### comparisons -/
def eqvD (c d : Dt) : Bool := PyData.eqv (pyD c) (pyD d)
def eqOk (d : Dt) : Bool := deepP d && SeqAt.shaped (pyD d)
def cmpS (op : CmpOp) : Sv → Sv → Option Bool := fun x y => match op, x, y with
  | .Lt, .d (.int i), .d (.int j) => some (decide (i < j))
  | .LtE, .d (.int i), .d (.int j) => some (decide (i ≤ j))
  | .Gt, .d (.int i), .d (.int j) => some (decide (j < i))
  | .GtE, .d (.int i), .d (.int j) => some (decide (j ≤ i))
  | .Eq, .d (.int i), .d (.int j) => some (decide (i = j))
  | .NotEq, .d (.int i), .d (.int j) => some (!decide (i = j))
  | .Eq, .d (.bl i), .d (.bl j) => some (decide (i = j))
  | .Eq, .d (.str i), .d (.str j) => some (decide (i = j))
  | .Is, .d d, .d .non => some (isNon d)
  | .IsNot, .d d, .d .non => some (!isNon d)
  | .Eq, .d c, .d d => if eqOk c && eqOk d then some (eqvD c d) else none
  | .NotEq, .d c, .d d => if eqOk c && eqOk d then some (!eqvD c d) else none
  | _, _, _ => none
theorem cmp_ok {n : Nat} {op : CmpOp} {x y : Sv} {r : Bool} (hr : Room n X.A) (f : Fr) (h : cmpS op x y = some r) : CmpOk X op (f.s x) (f.s y) r := by
  unfold cmpS at h
  split at h
  · cases h; exact c_lt
  · cases h; exact c_le
  · cases h; exact c_gt
  · cases h; exact c_ge
  · cases h; exact c_eqI
  · cases h; exact c_neI
  · cases h; exact c_eqB
  · cases h; exact c_eqS
  · cases h; exact c_isN
  · cases h; exact c_notN
  · split at h
    · cases h
      rename_i c d _ _ _ hh
      unfold eqOk at hh
      simp only [Bool.and_eq_true] at hh
      exact c_eqD hr hh.1.1 hh.2.1 hh.1.2 hh.2.2
    · cases h
  · split at h
    · cases h
      rename_i c d _ hh
      unfold eqOk at hh
      simp only [Bool.and_eq_true] at hh
      exact c_neD hr hh.1.1 hh.2.1 hh.1.2 hh.2.2
    · cases h
  · cases h
def cmp (op : CmpOp) (A B : ED) : ED := map2 (fun _ x y => match cmpS op x y with | some r => some (.bl r) | none => none) A B
theorem den_cmp {n : Nat} {op : CmpOp} (hr : Room n X.A) (ha : Den X a A) (hb : Den X b B) (hm : behindInMarks op b = false := by first | exact nomark _ | rfl) : Den X (.Compare a [op] [b] pos) (cmp op A B) :=
  den_map2 ha hb fun f es0 es m0 m1 ms x y d ft lx ly g pa pb => by
    split at g
    · cases g; exact d_cmp pa pb (cmp_ok hr f ‹_›) hm
    · cases g
end
end Dn
/-! # Dn2: and, or, if; tests; displays; items -/
namespace Dn
open PySem PySem.Spec L2 Dv
section
variable {X : Cx} {e a b c : Expr} {A B C : ED} {T U : TD} {f : Fr} {es : Es} {ms ms' ms1 ms2 : Ms} {p pos : Pos} {rest l : List Expr}
/-! ### and, or, conditional expressions as values (bools) -/
def andE (A B : ED) : ED := fun es ms => match opx A es ms with
  | some (.v (.d (.bl p)), m1) => if p = true then (match opx B es m1 with
    | some (.v (.d (.bl q)), m2) => some (.v (.d (.bl q)), m2)
    | _ => none) else some (.v (.d (.bl false)), m1)
  | _ => none
def orE (A B : ED) : ED := fun es ms => match opx A es ms with
  | some (.v (.d (.bl p)), m1) => if p = true then some (.v (.d (.bl true)), m1) else match opx B es m1 with
    | some (.v (.d (.bl q)), m2) => some (.v (.d (.bl q)), m2)
    | _ => none
  | _ => none
theorem andE_eq {q : Pv} (h : andE A B es ms = some (q, ms')) : (∃ m1 r, opx A es ms = some (.v (.d (.bl true)), m1) ∧ opx B es m1 = some (.v (.d (.bl r)), ms') ∧ q = .v (.d (.bl r))) ∨ (opx A es ms = some (.v (.d (.bl false)), ms') ∧ q = .v (.d (.bl false))) := by
  unfold andE at h
  cases q1 : opx A es ms with
  | none => rw [q1] at h; cases h
  | some r =>
    rw [q1] at h
    split at h
    · rename_i p m1 e
      cases e
      cases p with
      | true =>
        rw [if_pos rfl] at h
        split at h
        · cases h
          exact .inl ⟨_, _, rfl, ‹_›, rfl⟩
        · cases h
      | false =>
        rw [if_neg Bool.false_ne_true] at h
        cases h
        exact .inr ⟨rfl, rfl⟩
    · cases h
theorem orE_eq {q : Pv} (h : orE A B es ms = some (q, ms')) : (∃ m1 r, opx A es ms = some (.v (.d (.bl false)), m1) ∧ opx B es m1 = some (.v (.d (.bl r)), ms') ∧ q = .v (.d (.bl r))) ∨ (opx A es ms = some (.v (.d (.bl true)), ms') ∧ q = .v (.d (.bl true))) := by
  unfold orE at h
  cases q1 : opx A es ms with
  | none => rw [q1] at h; cases h
  | some r =>
    rw [q1] at h
    split at h
    · rename_i p m1 e
      cases e
      cases p with
      | false =>
        rw [if_neg Bool.false_ne_true] at h
        split at h
        · cases h
          exact .inl ⟨_, _, rfl, ‹_›, rfl⟩
        · cases h
      | true =>
        rw [if_pos rfl] at h
        cases h
        exact .inr ⟨rfl, rfl⟩
    · cases h
theorem den_one {op} (h : Den X a A) : Den X (.BoolOp op [a] pos) A where
  val := fun ft q => d_one (h.val ft q)
  new := fun ft q => pe_one (h.new ft q)
  exc := fun tk ft q => pe_one (h.exc tk ft q)
  low := h.low
theorem den_and (ha : Den X a A) (hb : Den X (.BoolOp .And (b :: rest) pos) B) : Den X (.BoolOp .And (a :: b :: rest) pos) (andE A B) where
  val := fun {f es ms ms' s} ft q => by
    rcases andE_eq q with ⟨m1, r, h1, h2, h3⟩ | ⟨h1, h3⟩
    · cases h3
      have pa := ha.opV ft h1
      have pb := hb.opV (ha.opF ft h1) h2
      exact pe_w (pe_and pa pb) fun σ H Q ⟨as, s, k⟩ => ⟨as, s, fun v H1 m1 e1 r1 => by
        cases r1
        exact ⟨true, rfl, iteT ⟨as, s.step m1 e1, fun u H2 m2 e2 r2 => k u H2 m2 (e1.trans e2) r2⟩⟩⟩
    · cases h3
      exact pe_w (pe_and (ha.opV ft h1) pe_never) fun σ H Q ⟨as, s, k⟩ => ⟨as, s, fun v H1 m1 e1 r1 => by
        cases r1
        exact ⟨false, rfl, iteF (k _ H1 m1 e1 (.bl false))⟩⟩
  new := fun ft q => by rcases andE_eq q with ⟨m1, r, h1, h2, h3⟩ | ⟨h1, h3⟩ <;> cases h3
  exc := fun tk ft q => by rcases andE_eq q with ⟨m1, r, h1, h2, h3⟩ | ⟨h1, h3⟩ <;> cases h3
  low := fun {es ms ms' p} le lm q => by
    rcases andE_eq q with ⟨m1, r, h1, h2, rfl⟩ | ⟨h1, rfl⟩
    · have l1 := ha.opL le lm h1
      have l2 := hb.opL (ms := m1) (by rw [l1.2.2]; exact le) (by rw [l1.2.2]; exact l1.2.1) h2
      exact ⟨fun k e => (by cases e), by rw [← l1.2.2]; exact l2.2.1, l2.2.2.trans l1.2.2⟩
    · exact ⟨fun k e => (by cases e), (ha.opL le lm h1).2⟩
theorem den_or (ha : Den X a A) (hb : Den X (.BoolOp .Or (b :: rest) pos) B) : Den X (.BoolOp .Or (a :: b :: rest) pos) (orE A B) where
  val := fun {f es ms ms' s} ft q => by
    rcases orE_eq q with ⟨m1, r, h1, h2, h3⟩ | ⟨h1, h3⟩
    · cases h3
      have pa := ha.opV ft h1
      have pb := hb.opV (ha.opF ft h1) h2
      exact pe_w (pe_or pa pb) fun σ H Q ⟨as, s, k⟩ => ⟨as, s, fun v H1 m1 e1 r1 => by
        cases r1
        exact ⟨false, rfl, iteF ⟨as, s.step m1 e1, fun u H2 m2 e2 r2 => k u H2 m2 (e1.trans e2) r2⟩⟩⟩
    · cases h3
      exact pe_w (pe_or (ha.opV ft h1) pe_never) fun σ H Q ⟨as, s, k⟩ => ⟨as, s, fun v H1 m1 e1 r1 => by
        cases r1
        exact ⟨true, rfl, iteT (k _ H1 m1 e1 (.bl true))⟩⟩
  new := fun ft q => by rcases orE_eq q with ⟨m1, r, h1, h2, h3⟩ | ⟨h1, h3⟩ <;> cases h3
  exc := fun tk ft q => by rcases orE_eq q with ⟨m1, r, h1, h2, h3⟩ | ⟨h1, h3⟩ <;> cases h3
  low := fun {es ms ms' p} le lm q => by
    rcases orE_eq q with ⟨m1, r, h1, h2, rfl⟩ | ⟨h1, rfl⟩
    · have l1 := ha.opL le lm h1
      have l2 := hb.opL (ms := m1) (by rw [l1.2.2]; exact le) (by rw [l1.2.2]; exact l1.2.1) h2
      exact ⟨fun k e => (by cases e), by rw [← l1.2.2]; exact l2.2.1, l2.2.2.trans l1.2.2⟩
    · exact ⟨fun k e => (by cases e), (ha.opL le lm h1).2⟩
/-! ### tests -/
theorem DenT.fit {r : Bool} (h : DenT X e T) (ft : Fit f es ms) (q : T es ms = some (r, ms')) : Fit f es ms' := ft.go (h.low ft.le ft.lm q)
def tcmp (op : CmpOp) (A B : ED) : TD := fun es ms => match opx A es ms with
  | some (.v x, m1) => match opx B es m1 with
    | some (.v y, m2) => match cmpS op x y with
      | some r => some (r, m2)
      | none => none
    | _ => none
  | _ => none
theorem tcmp_eq {op : CmpOp} {r : Bool} (h : tcmp op A B es ms = some (r, ms')) : ∃ x y m1, opx A es ms = some (.v x, m1) ∧ opx B es m1 = some (.v y, ms') ∧ cmpS op x y = some r := by
  unfold tcmp at h
  split at h
  · split at h
    · split at h
      · cases h
        exact ⟨_, _, _, ‹_›, ‹_›, ‹_›⟩
      · cases h
    · cases h
  · cases h
theorem dt_cmp {n : Nat} {op : CmpOp} (hr : Room n X.A) (ha : Den X a A) (hb : Den X b B) (hm : behindInMarks op b = false := by first | exact nomark _ | rfl) : DenT X (.Compare a [op] [b] pos) (tcmp op A B) where
  val := fun {f es ms ms' r} ft q => by
    obtain ⟨x, y, m1, h1, h2, h3⟩ := tcmp_eq q
    exact b_cmp (ha.opV ft h1) (hb.opV (ha.opF ft h1) h2) (cmp_ok hr f h3) hm
  low := fun {es ms ms' r} le lm q => by
    obtain ⟨x, y, m1, h1, h2, h3⟩ := tcmp_eq q
    have l1 := ha.opL le lm h1
    have l2 := hb.opL (ms := m1) (by rw [l1.2.2]; exact le) (by rw [l1.2.2]; exact l1.2.1) h2
    exact ⟨by rw [← l1.2.2]; exact l2.2.1, l2.2.2.trans l1.2.2⟩
def tval (A : ED) : TD := fun es ms => match opx A es ms with
  | some (.v (.d (.bl r)), m1) => some (r, m1)
  | _ => none
theorem tval_eq {r : Bool} (h : tval A es ms = some (r, ms')) : opx A es ms = some (.v (.d (.bl r)), ms') := by
  unfold tval at h
  split at h
  · cases h; assumption
  · cases h
theorem dt_val (ha : Den X a A) (he : ∀ whole, PySem.isTrue a X.env whole = (do let v ← whole; standAt a.pos; holding [v] (truthy v)) := by intro _; rfl) : DenT X a (tval A) where
  val := fun ft q => b_val (ha.opV ft (tval_eq q)) he
  low := fun le lm q => (ha.opL le lm (tval_eq q)).2
def tnot (T : TD) : TD := fun es ms => match T es ms with
  | some (r, m) => some (!r, m)
  | none => none
theorem dt_not (ha : DenT X a T) : DenT X (.UnaryOp .Not a pos) (tnot T) where
  val := fun {f es ms ms' r} ft q => by
    unfold tnot at q
    split at q
    · cases q; exact b_not (ha.val ft ‹_›)
    · cases q
  low := fun {es ms ms' r} le lm q => by
    unfold tnot at q
    split at q
    · cases q; exact ha.low le lm ‹_›
    · cases q
/-- a BoolOp as a test -/
structure DenW (X : Cx) (e : Expr) (A : TD) : Prop where
  val : ∀ {f : Fr} {es : Es} {ms ms' : Ms} {b : Bool}, Fit f es ms → A es ms = some (b, ms') → PW X e (tBo X.K (f.es es) (f.ms ms) b (f.ms ms'))
  low : ∀ {es : Es} {ms ms' : Ms} {b : Bool}, LowE ms.length es → Lows ms.length ms → A es ms = some (b, ms') → Lows ms.length ms' ∧ ms'.length = ms.length
theorem dt_w (h : DenW X e T) : DenT X e T := ⟨fun ft q => (h.val ft q).pt, h.low⟩
theorem dw_and1 (ha : DenT X a T) : DenW X (.BoolOp .And [a] pos) T := ⟨fun ft q => w_and1 (ha.val ft q), ha.low⟩
theorem dw_or1 (ha : DenT X a T) : DenW X (.BoolOp .Or [a] pos) T := ⟨fun ft q => w_or1 (ha.val ft q), ha.low⟩
def tand (T U : TD) : TD := fun es ms => match T es ms with
  | some (true, m1) => U es m1
  | some (false, m1) => some (false, m1)
  | none => none
def tor (T U : TD) : TD := fun es ms => match T es ms with
  | some (false, m1) => U es m1
  | some (true, m1) => some (true, m1)
  | none => none
theorem dw_and (ha : DenT X a T) (hb : DenW X (.BoolOp .And (b :: rest) pos) U) : DenW X (.BoolOp .And (a :: b :: rest) pos) (tand T U) where
  val := fun {f es ms ms' r} ft q => by
    unfold tand at q
    split at q
    · have pa := ha.val ft ‹_›
      have pb := hb.val (ha.fit ft ‹_›) q
      exact pw_w (pw_and pa pb) fun σ H Q ⟨as, s, k⟩ => ⟨as, s, fun H1 m1 e1 => iteT ⟨as, s.step m1 e1, fun H2 m2 e2 => k H2 m2 (e1.trans e2)⟩⟩
    · cases q
      exact pw_w (pw_and (ha.val ft ‹_›) pw_never) fun σ H Q ⟨as, s, k⟩ => ⟨as, s, fun H1 m1 e1 => iteF (k H1 m1 e1)⟩
    · cases q
  low := fun {es ms ms' r} le lm q => by
    unfold tand at q
    split at q
    · have l1 := ha.low le lm ‹_›
      have l2 := hb.low (by rw [l1.2]; exact le) (by rw [l1.2]; exact l1.1) q
      exact ⟨by rw [← l1.2]; exact l2.1, l2.2.trans l1.2⟩
    · cases q
      exact ha.low le lm ‹_›
    · cases q
theorem dw_or (ha : DenT X a T) (hb : DenW X (.BoolOp .Or (b :: rest) pos) U) : DenW X (.BoolOp .Or (a :: b :: rest) pos) (tor T U) where
  val := fun {f es ms ms' r} ft q => by
    unfold tor at q
    split at q
    · have pa := ha.val ft ‹_›
      have pb := hb.val (ha.fit ft ‹_›) q
      exact pw_w (pw_or pa pb) fun σ H Q ⟨as, s, k⟩ => ⟨as, s, fun H1 m1 e1 => iteF ⟨as, s.step m1 e1, fun H2 m2 e2 => k H2 m2 (e1.trans e2)⟩⟩
    · cases q
      exact pw_w (pw_or (ha.val ft ‹_›) pw_never) fun σ H Q ⟨as, s, k⟩ => ⟨as, s, fun H1 m1 e1 => iteT (k H1 m1 e1)⟩
    · cases q
  low := fun {es ms ms' r} le lm q => by
    unfold tor at q
    split at q
    · have l1 := ha.low le lm ‹_›
      have l2 := hb.low (by rw [l1.2]; exact le) (by rw [l1.2]; exact l1.1) q
      exact ⟨by rw [← l1.2]; exact l2.1, l2.2.trans l1.2⟩
    · cases q
      exact ha.low le lm ‹_›
    · cases q
def ife (T : TD) (A B : ED) : ED := fun es ms => match T es ms with
  | some (true, m1) => A es m1
  | some (false, m1) => B es m1
  | none => none
theorem pe_ifT {t : TE} {ta : TE} (hc : PT X c (tBo X.K es ms true ms1)) (ha : PE X a ta) (w : ∀ σ H Q as H1, Sr X.K as es ms σ H → MsR X.K as ms1 H1 → Same (hid as H) (hid as H1) → t σ H Q → ta σ H1 Q) : True := trivial
theorem den_if (hc : DenT X c T) (ha : Den X a A) (hb : Den X b B) : Den X (.IfExp c a b pos) (ife T A B) where
  val := fun {f es ms ms' s} ft q => by
    unfold ife at q
    split at q
    · exact d_ifT (hc.val ft ‹_›) (ha.val (hc.fit ft ‹_›) q)
    · exact d_ifF (hc.val ft ‹_›) (hb.val (hc.fit ft ‹_›) q)
    · cases q
  new := fun {f es ms ms' s} ft q => by
    unfold ife at q
    split at q
    · exact pe_w (pe_ifExp (hc.val ft ‹_›) (ha.new (hc.fit ft ‹_›) q) pe_never) fun σ H Q ⟨as, s, k⟩ => ⟨as, s, fun H1 m1 e1 => iteT ⟨as, s.step m1 e1, fun p H2 nw => k p H2 (nw.of e1 (old_of e1 m1 nw.free))⟩⟩
    · exact pe_w (pe_ifExp (hc.val ft ‹_›) pe_never (hb.new (hc.fit ft ‹_›) q)) fun σ H Q ⟨as, s, k⟩ => ⟨as, s, fun H1 m1 e1 => iteF ⟨as, s.step m1 e1, fun p H2 nw => k p H2 (nw.of e1 (old_of e1 m1 nw.free))⟩⟩
    · cases q
  exc := fun {W f es ms ms' s} tk ft q => by
    unfold ife at q
    split at q
    · exact pe_w (pe_ifExp (hc.val ft ‹_›) (ha.exc tk (hc.fit ft ‹_›) q) pe_never) fun σ H Q ⟨as, s, k⟩ => ⟨as, s, fun H1 m1 e1 => iteT ⟨as, s.step m1 e1, fun cls d H2 m2 e2 r2 => k cls d H2 m2 (e1.trans e2) r2⟩⟩
    · exact pe_w (pe_ifExp (hc.val ft ‹_›) pe_never (hb.exc tk (hc.fit ft ‹_›) q)) fun σ H Q ⟨as, s, k⟩ => ⟨as, s, fun H1 m1 e1 => iteF ⟨as, s.step m1 e1, fun cls d H2 m2 e2 r2 => k cls d H2 m2 (e1.trans e2) r2⟩⟩
    · cases q
  low := fun {es ms ms' p} le lm q => by
    unfold ife at q
    split at q
    · have l1 := hc.low le lm ‹_›
      have l2 := ha.low (by rw [l1.2]; exact le) (by rw [l1.2]; exact l1.1) q
      rw [l1.2] at l2
      exact l2
    · have l1 := hc.low le lm ‹_›
      have l2 := hb.low (by rw [l1.2]; exact le) (by rw [l1.2]; exact l1.1) q
      rw [l1.2] at l2
      exact l2
    · cases q
/-- the same, with the branch as an if -/
theorem tand_if (T U : TD) : tand T U = fun es ms => match T es ms with
    | some (r, m1) => if r = true then U es m1 else some (false, m1)
    | none => none := by
  funext es ms
  unfold tand
  cases T es ms with
  | none => rfl
  | some r => obtain ⟨r, m⟩ := r; cases r <;> rfl
theorem tor_if (T U : TD) : tor T U = fun es ms => match T es ms with
    | some (r, m1) => if r = true then some (true, m1) else U es m1
    | none => none := by
  funext es ms
  unfold tor
  cases T es ms with
  | none => rfl
  | some r => obtain ⟨r, m⟩ := r; cases r <;> rfl
theorem ife_if (T : TD) (A B : ED) : ife T A B = fun es ms => match T es ms with
    | some (r, m1) => if r = true then A es m1 else B es m1
    | none => none := by
  funext es ms
  unfold ife
  cases T es ms with
  | none => rfl
  | some r => obtain ⟨r, m⟩ := r; cases r <;> rfl
/-! ### arguments, displays -/
def nilA : AD := fun _ ms => some (.v [], ms)
def consA (A : ED) (R : AD) : AD := fun es ms => match opx A es ms with
  | some (.v s, m1) => match R es m1 with
    | some (.v ss, m2) => some (.v (s :: ss), m2)
    | some (.x x, m2) => some (.x x, m2)
    | none => none
  | some (.x x, m1) => some (.x x, m1)
  | none => none
theorem consA_eq {R : AD} {q : Av} (h : consA A R es ms = some (q, ms')) : (∃ s m1 ss, opx A es ms = some (.v s, m1) ∧ R es m1 = some (.v ss, ms') ∧ q = .v (s :: ss)) ∨ (∃ s m1 x, opx A es ms = some (.v s, m1) ∧ R es m1 = some (.x x, ms') ∧ q = .x x) ∨ (∃ x, opx A es ms = some (.x x, ms') ∧ q = .x x) := by
  unfold consA at h
  split at h
  · split at h
    · cases h; exact .inl ⟨_, _, _, ‹_›, ‹_›, rfl⟩
    · cases h; exact .inr (.inl ⟨_, _, _, ‹_›, ‹_›, rfl⟩)
    · cases h
  · cases h; exact .inr (.inr ⟨_, ‹_›, rfl⟩)
  · cases h
theorem da_nil : DenA X [] nilA where
  val := fun ft q => by cases q; exact a_nil
  exc := fun tk ft q => by cases q
  low := fun le lm q => by cases q; exact ⟨fun ss e => by cases e; exact low_nil _, lm, rfl⟩
theorem da_cons {R : AD} (ha : Den X a A) (hR : DenA X l R) (hs : starEach (a :: l) X.env = (false, eval a X.env) :: starEach l X.env := by rfl) : DenA X (a :: l) (consA A R) where
  val := fun {f es ms ms' ss} ft q => by
    rcases consA_eq q with ⟨s, m1, ts, h1, h2, h3⟩ | ⟨s, m1, x, h1, h2, h3⟩ | ⟨x, h1, h3⟩
    · cases h3
      exact a_cons (ha.opV ft h1) (hR.val (ha.opF ft h1) h2) hs
    · cases h3
    · cases h3
  exc := fun {W f es ms ms' ss} tk ft q => by
    rcases consA_eq q with ⟨s, m1, ts, h1, h2, h3⟩ | ⟨s, m1, x, h1, h2, h3⟩ | ⟨x, h1, h3⟩
    · cases h3
    · cases h3
      exact ax_next (ha.opV ft h1) (hR.exc tk (ha.opF ft h1) h2) hs
    · cases h3
      exact ax_here (ha.opX tk ft h1) hs
  low := fun {es ms ms' p} le lm q => by
    rcases consA_eq q with ⟨s, m1, ts, h1, h2, rfl⟩ | ⟨s, m1, x, h1, h2, rfl⟩ | ⟨x, h1, rfl⟩
    · have l1 := ha.opL le lm h1
      have l2 := hR.low (ms := m1) (by rw [l1.2.2]; exact le) (by rw [l1.2.2]; exact l1.2.1) h2
      rw [l1.2.2] at l2
      exact ⟨fun ss e => by cases e; exact Low.cons (fun k e => l1.1 k (by rw [e])) (l2.1 _ rfl), l2.2⟩
    · have l1 := ha.opL le lm h1
      have l2 := hR.low (ms := m1) (by rw [l1.2.2]; exact le) (by rw [l1.2.2]; exact l1.2.1) h2
      rw [l1.2.2] at l2
      exact ⟨fun ss e => (by cases e), l2.2⟩
    · have l1 := ha.opL le lm h1
      exact ⟨fun ss e => (by cases e), l1.2⟩
def tup (R : AD) : ED := fun es ms => match R es ms with
  | some (.v ss, m) => match unD ss with
    | some ds => if ds.length ≤ 1000 then some (.v (.d (.tup ds)), m) else none
    | none => none
  | some (.x x, m) => some (.x x, m)
  | none => none
theorem tup_eq {R : AD} {q : Pv} (h : tup R es ms = some (q, ms')) : (∃ ds, R es ms = some (.v (ds.map Sv.d), ms') ∧ ds.length ≤ 1000 ∧ q = .v (.d (.tup ds))) ∨ (∃ x, R es ms = some (.x x, ms') ∧ q = .x x) := by
  unfold tup at h
  split at h
  · split at h
    · split at h
      · cases h
        have hu := ‹unD _ = some _›
        have hq := ‹R es ms = some (.v _, _)›
        rw [unD_eq hu] at hq
        exact .inl ⟨_, hq, ‹_›, rfl⟩
      · cases h
    · cases h
  · cases h; exact .inr ⟨_, ‹_›, rfl⟩
  · cases h
theorem den_tup {R : AD} {x1} (h : DenA X l R) : Den X (.Tuple l x1 pos) (tup R) where
  val := fun {f es ms ms' s} ft q => by
    rcases tup_eq q with ⟨ds, h1, h2, h3⟩ | ⟨x, h1, h3⟩
    · cases h3
      have := h.val ft h1
      rw [Fr.map_d] at this
      exact d_tup this h2
    · cases h3
  new := fun ft q => by rcases tup_eq q with ⟨ds, h1, h2, h3⟩ | ⟨x, h1, h3⟩ <;> cases h3
  exc := fun tk ft q => by
    rcases tup_eq q with ⟨ds, h1, h2, h3⟩ | ⟨x, h1, h3⟩
    · cases h3
    · cases h3; exact dx_tup (h.exc tk ft h1)
  low := fun {es ms ms' p} le lm q => by
    rcases tup_eq q with ⟨ds, h1, h2, rfl⟩ | ⟨x, h1, rfl⟩
    · exact ⟨fun k e => (by cases e), (h.low le lm h1).2⟩
    · exact ⟨trivial, (h.low le lm h1).2⟩
def lst (R : AD) : ED := fun es ms => match R es ms with
  | some (.v ss, m) => if ss.length ≤ 1000 then some (.n ss, m) else none
  | some (.x x, m) => some (.x x, m)
  | none => none
theorem lst_eq {R : AD} {q : Pv} (h : lst R es ms = some (q, ms')) : (∃ ss, R es ms = some (.v ss, ms') ∧ ss.length ≤ 1000 ∧ q = .n ss) ∨ (∃ x, R es ms = some (.x x, ms') ∧ q = .x x) := by
  unfold lst at h
  split at h
  · split at h
    · cases h
      exact .inl ⟨_, ‹_›, ‹_›, rfl⟩
    · cases h
  · cases h; exact .inr ⟨_, ‹_›, rfl⟩
  · cases h
theorem den_lst {R : AD} (h : DenA X l R) : Den X (.List l pos) (lst R) where
  val := fun ft q => by rcases lst_eq q with ⟨ds, h1, h2, h3⟩ | ⟨x, h1, h3⟩ <;> cases h3
  new := fun {f es ms ms' s} ft q => by
    rcases lst_eq q with ⟨ds, h1, h2, h3⟩ | ⟨x, h1, h3⟩
    · cases h3
      exact n_lst (h.val ft h1) (by rw [List.length_map]; exact h2)
    · cases h3
  exc := fun tk ft q => by
    rcases lst_eq q with ⟨ds, h1, h2, h3⟩ | ⟨x, h1, h3⟩
    · cases h3
    · cases h3; exact pe_w (pe_lst (h.exc tk ft h1)) fun σ H Q ⟨as, s, k⟩ => ⟨as, s, k⟩
  low := fun {es ms ms' p} le lm q => by
    rcases lst_eq q with ⟨ds, h1, h2, rfl⟩ | ⟨x, h1, rfl⟩
    · have := h.low le lm h1
      exact ⟨this.1 _ rfl, this.2⟩
    · exact ⟨trivial, (h.low le lm h1).2⟩
/-! ### items -/
theorem atI_mapF {α β : Type} (g : α → β) (xs : List α) (i : Int) : L2.atI (xs.map g) i = (L2.atI xs i).map g := by
  unfold L2.atI
  rw [List.length_map]
  cases ixN xs.length i with
  | none => rfl
  | some j => simp
def cellL (ms : Ms) (k : Nat) : Option (List Sv) := match ms[k]? with
  | some (some (.l ss)) => some ss
  | _ => none
theorem cellL_eq {k : Nat} {ss : List Sv} (h : cellL ms k = some ss) : ms[k]? = some (some (.l ss)) := by
  unfold cellL at h
  split at h
  · cases h; assumption
  · cases h
/-- the list at k, in the whole -/
theorem Fit.cell {k : Nat} {ss : List Sv} (ft : Fit f es ms) (h : ms[k]? = some (some (.l ss))) : ∃ kk, f.ks[k]? = some kk ∧ f.s (.m k) = .m kk ∧ (f.ms ms)[kk]? = some (some (.l (ss.map f.s))) := by
  obtain ⟨kk, hk⟩ := Fr.ix (f := f) ft.len (List.getElem?_eq_some_iff.mp h).1
  refine ⟨kk, hk, by show (match f.ks[k]? with | some k => Sv.m k | none => .u) = _; rw [hk], ?_⟩
  rw [Fr.get ft.ok ft.len hk, h]
  rfl
def ixS (ms : Ms) : Sv → Int → Option Sv
  | .m k, i => match cellL ms k with
    | some ss => L2.atI ss i
    | none => none
  | .d (.lst ds), i => (L2.atI ds i).map Sv.d
  | .d (.tup ds), i => (L2.atI ds i).map Sv.d
  | _, _ => none
theorem ix_ok {x s : Sv} {i : Int} (ft : Fit f es ms) (h : ixS ms x i = some s) : IxOk (f.ms ms) (f.s x) i (f.s s) := by
  unfold ixS at h
  split at h
  · split at h
    · obtain ⟨kk, _, h2, h3⟩ := ft.cell (cellL_eq ‹_›)
      rw [h2]
      exact .m h3 (by rw [atI_mapF, h]; rfl)
    · cases h
  · obtain ⟨d, q, rfl⟩ := Option.map_eq_some_iff.mp h
    exact .lst q
  · obtain ⟨d, q, rfl⟩ := Option.map_eq_some_iff.mp h
    exact .tup q
  · cases h
theorem atI_mem {α : Type} {xs : List α} {i : Int} {x : α} (h : L2.atI xs i = some x) : x ∈ xs := by
  obtain ⟨j, _, h1, _⟩ := atI_get h
  exact List.mem_of_getElem? h1
theorem ix_low {x s : Sv} {i : Int} (lm : Lows ms.length ms) (h : ixS ms x i = some s) : ∀ k, s = .m k → k < ms.length := fun k e => by
  subst e
  unfold ixS at h
  split at h
  · split at h
    · exact lm _ _ (cellL_eq ‹_›) k (atI_mem h)
    · cases h
  · obtain ⟨d, q, e⟩ := Option.map_eq_some_iff.mp h
    cases e
  · obtain ⟨d, q, e⟩ := Option.map_eq_some_iff.mp h
    cases e
  · cases h
def sub (A B : ED) : ED := fun es ms => match opx A es ms with
  | some (.v x, m1) => match opx B es m1 with
    | some (.v (.d (.int i)), m2) => match ixS m2 x i with
      | some s => some (.v s, m2)
      | none => none
    | _ => none
  | _ => none
theorem sub_eq {q : Pv} (h : sub A B es ms = some (q, ms')) : ∃ x m1 i s, opx A es ms = some (.v x, m1) ∧ opx B es m1 = some (.v (.d (.int i)), ms') ∧ ixS ms' x i = some s ∧ q = .v s := by
  unfold sub at h
  split at h
  · split at h
    · split at h
      · cases h; exact ⟨_, _, _, _, ‹_›, ‹_›, ‹_›, rfl⟩
      · cases h
    · cases h
  · cases h
theorem den_sub (ha : Den X a A) (hb : Den X b B) (hp : PlainIx b := by exact fun _ _ => rfl) : Den X (.Subscript a b pos) (sub A B) where
  val := fun {f es ms ms' s} ft q => by
    obtain ⟨x, m1, i, s', h1, h2, h3, h4⟩ := sub_eq q
    cases h4
    have ft1 := ha.opF ft h1
    exact d_ix (ha.opV ft h1) (hb.opV ft1 h2) (ix_ok (hb.opF ft1 h2) h3) hp
  new := fun ft q => by obtain ⟨x, m1, i, s', h1, h2, h3, h4⟩ := sub_eq q; cases h4
  exc := fun tk ft q => by obtain ⟨x, m1, i, s', h1, h2, h3, h4⟩ := sub_eq q; cases h4
  low := fun {es ms ms' p} le lm q => by
    obtain ⟨x, m1, i, s', h1, h2, h3, rfl⟩ := sub_eq q
    have l1 := ha.opL le lm h1
    have l2 := hb.opL (ms := m1) (by rw [l1.2.2]; exact le) (by rw [l1.2.2]; exact l1.2.1) h2
    rw [l1.2.2] at l2
    refine ⟨fun k e => ?_, l2.2⟩
    rw [← l2.2.2]
    exact ix_low (by rw [l2.2.2]; exact l2.2.1) h3 k e
end
end Dn
/-! # Dn3: built-ins -/
namespace Dn
open PySem PySem.Spec L2 Dv
section
variable {X : Cx} {e a b c : Expr} {A B C : ED} {T U : TD} {f : Fr} {es : Es} {ms ms' ms1 ms2 : Ms} {p pos : Pos} {rest l : List Expr}
/-! ### what stands in a list or tuple -/
def seqS (ms : Ms) : Sv → Option (List Sv)
  | .m k => cellL ms k
  | .d (.lst ds) => some (ds.map Sv.d)
  | .d (.tup ds) => some (ds.map Sv.d)
  | _ => none
/-- .. of a list -/
def seqL (ms : Ms) : Sv → Option (List Sv)
  | .m k => cellL ms k
  | .d (.lst ds) => some (ds.map Sv.d)
  | _ => none
theorem seqL_s {x : Sv} {ss : List Sv} (h : seqL ms x = some ss) : seqS ms x = some ss := by
  unfold seqL at h
  split at h
  · exact h
  · exact h
  · cases h
theorem seqL_at {x : Sv} {ss : List Sv} {as : As} {H : Hp} {v : V} {K : PySem.W.Frag} (ft : Fit f es ms) (h : seqL ms x = some ss) (m : MsR K as (f.ms ms) H) (r : ValR K as H v (f.s x)) : ∃ q vs, v = .ref q ∧ SqL K H q vs ∧ ArR K as H vs (ss.map f.s) := by
  unfold seqL at h
  split at h
  · obtain ⟨kk, _, h2, h3⟩ := ft.cell (cellL_eq h)
    rw [h2] at r
    obtain ⟨q, g1, rfl⟩ := r
    obtain ⟨vs, k2, k3⟩ := m.list g1 h3
    exact ⟨q, vs, rfl, .inl (.inl k2), k3⟩
  · cases h
    rw [Fr.map_d]
    cases r with | lst hs hx => exact ⟨_, _, rfl, hid_sub.seq hs, ArR.of hx⟩
  · cases h
theorem seqS_at {x : Sv} {ss : List Sv} {as : As} {H : Hp} {v : V} {K : PySem.W.Frag} (ft : Fit f es ms) (h : seqS ms x = some ss) (m : MsR K as (f.ms ms) H) (r : ValR K as H v (f.s x)) : ∃ q vs, v = .ref q ∧ (SqL K H q vs ∨ SqT K H q vs) ∧ ArR K as H vs (ss.map f.s) := by
  unfold seqS at h
  split at h
  · obtain ⟨q, vs, h1, h2, h3⟩ := seqL_at ft (x := .m _) h m r
    exact ⟨q, vs, h1, .inl h2, h3⟩
  · cases h
    rw [Fr.map_d]
    cases r with | lst hs hx => exact ⟨_, _, rfl, .inl (hid_sub.seq hs), ArR.of hx⟩
  · cases h
    rw [Fr.map_d]
    cases r with | tup hs hx => exact ⟨_, _, rfl, .inr (sqT_same hid_sub hs), ArR.of hx⟩
  · cases h
theorem seqS_low {x : Sv} {ss : List Sv} (lm : Lows ms.length ms) (h : seqS ms x = some ss) : Low ms.length ss := by
  unfold seqS at h
  split at h
  · exact lm _ _ (cellL_eq h)
  · cases h; exact low_data _ _
  · cases h; exact low_data _ _
  · cases h
/-! ### calls of one argument that give data -/
section
variable {id : String} {r : List V → Hp → VK → Prop} {nm : Str} {g : Ms → Sv → Option Dt}
theorem den_b1 (hc : CallR X (.builtin id) r) (hg : Gl X nm) (hm : X.mg nm = none) (hv : bootBuiltins nm = some (.builtin id)) (ha : Den X a A)
    (h : ∀ (f : Fr) (es0 : Es) (ms : Ms) (x : Sv) (d : Dt), Fit f es0 ms → g ms x = some d → ∀ as v H (Q : VK), MsR X.K as (f.ms ms) H → ValR X.K as H v (f.s x) → (∀ w H', MsR X.K as (f.ms ms) H' → Same (hid as H) (hid as H') → Rp X.K (hid as H') w d → Q w H') → r [v] H Q)
    (hn : nm ≠ "__name__" := by decide) (hd : (nm == ("__debug__" : Str)) = false := by decide) (he : starEach [a] X.env = (false, eval a X.env) :: starEach [] X.env := by rfl) : Den X (.Call (.Name nm p) [a] [] pos) (map1 g A) :=
  den_map1 ha fun f es0 es m0 ms x d ft lx gx pa => d_callB hc hg hm hv (a_cons pa a_nil he) (fun as vs H Q m rr k => by
    cases rr with | cons r1 r2 => cases r2; exact h f es0 ms x d ft gx as _ H Q m r1 k) hn hd he
theorem den_t1 (hc : CallR X (.type id) r) (hg : Gl X nm) (hm : X.mg nm = none) (hv : bootBuiltins nm = some (.type id)) (ha : Den X a A)
    (h : ∀ (f : Fr) (es0 : Es) (ms : Ms) (x : Sv) (d : Dt), Fit f es0 ms → g ms x = some d → ∀ as v H (Q : VK), MsR X.K as (f.ms ms) H → ValR X.K as H v (f.s x) → (∀ w H', MsR X.K as (f.ms ms) H' → Same (hid as H) (hid as H') → Rp X.K (hid as H') w d → Q w H') → r [v] H Q)
    (hn : nm ≠ "__name__" := by decide) (hd : (nm == ("__debug__" : Str)) = false := by decide) (he : starEach [a] X.env = (false, eval a X.env) :: starEach [] X.env := by rfl) : Den X (.Call (.Name nm p) [a] [] pos) (map1 g A) :=
  den_map1 ha fun f es0 es m0 ms x d ft lx gx pa => d_callTy hc hg hm hv (a_cons pa a_nil he) (fun as vs H Q m rr k => by
    cases rr with | cons r1 r2 => cases r2; exact h f es0 ms x d ft gx as _ H Q m r1 k) hn hd he
end
def lenS (ms : Ms) (x : Sv) : Option Dt := match seqS ms x with
  | some ss => some (.int ss.length)
  | none => none
def lenE (A : ED) : ED := map1 lenS A
theorem den_len (hg : Gl X "len") (hm : X.mg "len" = none) (ha : Den X a A) (he : starEach [a] X.env = (false, eval a X.env) :: starEach [] X.env := by rfl) : Den X (.Call (.Name "len" p) [a] [] pos) (lenE A) :=
  den_b1 call_len_seq hg hm PySem.boot_len ha (fun f es0 ms x d ft g as v H Q m r k => by
    unfold lenS at g
    split at g
    · cases g
      obtain ⟨q, vs, rfl, h2, h3⟩ := seqS_at ft ‹_› m r
      refine ⟨q, vs, rfl, h2, ?_⟩
      have := h3.len
      rw [List.length_map] at this
      rw [this]
      exact k _ H m (Same.refl _) (.int _)
    · cases g) (he := he)
def intS : Ms → Sv → Option Dt := fun _ x => match x with
  | .d (.int i) => some (.int i)
  | .d (.bl b) => some (.int (if b then 1 else 0))
  | _ => none
def intE (A : ED) : ED := map1 intS A
theorem den_int1 (hg : Gl X "int") (hm : X.mg "int" = none) (ha : Den X a A) (he : starEach [a] X.env = (false, eval a X.env) :: starEach [] X.env := by rfl) : Den X (.Call (.Name "int" p) [a] [] pos) (intE A) :=
  den_t1 call_int1 hg hm (by decide +kernel) ha (fun f es0 ms x d ft g as v H Q m r k => by
    unfold intS at g
    split at g
    · cases g; cases r; exact .inl ⟨_, rfl, k _ H m (Same.refl _) (.int _)⟩
    · cases g; cases r; exact .inr ⟨_, rfl, k _ H m (Same.refl _) (.int _)⟩
    · cases g) (he := he)
def absS : Ms → Sv → Option Dt := fun _ x => match x with
  | .d (.int i) => some (.int (i.natAbs : Int))
  | _ => none
def absE (A : ED) : ED := map1 absS A
theorem den_abs (hg : Gl X "abs") (hm : X.mg "abs" = none) (ha : Den X a A) (he : starEach [a] X.env = (false, eval a X.env) :: starEach [] X.env := by rfl) : Den X (.Call (.Name "abs" p) [a] [] pos) (absE A) :=
  den_b1 call_abs hg hm (by decide +kernel) ha (fun f es0 ms x d ft g as v H Q m r k => by
    unfold absS at g
    split at g
    · cases g
      cases r
      rename_i i
      refine ⟨i, rfl, ?_⟩
      have : (if i < 0 then -i else i) = (i.natAbs : Int) := by omega
      rw [this]
      exact k _ H m (Same.refl _) (.int _)
    · cases g) (he := he)
def unI : List Sv → Option (List Int)
  | [] => some []
  | .d (.int x) :: r => (unI r).map (x :: ·)
  | _ => none
theorem unI_eq : ∀ {ss : List Sv} {ns : List Int}, unI ss = some ns → ss = (ns.map Dt.int).map Sv.d
  | [], ns, h => by cases h; rfl
  | .d (.int x) :: r, ns, h => by
    unfold unI at h
    obtain ⟨cs, h1, rfl⟩ := Option.map_eq_some_iff.mp h
    rw [unI_eq h1]
    rfl
  | .d .non :: _, _, h => by cases h
  | .d (.bl _) :: _, _, h => by cases h
  | .d (.str _) :: _, _, h => by cases h
  | .d (.lst _) :: _, _, h => by cases h
  | .d (.tup _) :: _, _, h => by cases h
  | .d (.obj _ _) :: _, _, h => by cases h
  | .m _ :: _, _, h => by cases h
  | .x _ _ _ _ :: _, _, h => by cases h
  | .u :: _, _, h => by cases h
@[simp] theorem unI_ints : ∀ (ns : List Int), unI (ns.map fun i => Sv.d (Dt.int i)) = some ns
  | [] => rfl
  | d :: ds => by show (unI (ds.map fun i => Sv.d (Dt.int i))).map _ = _; rw [unI_ints ds]; rfl
@[simp] theorem unI_ints' (ns : List Int) : unI ((ns.map Dt.int).map Sv.d) = some ns := by rw [List.map_map]; exact unI_ints ns
def unB : List Sv → Option (List Bool)
  | [] => some []
  | .d (.bl x) :: r => (unB r).map (x :: ·)
  | _ => none
theorem unB_eq : ∀ {ss : List Sv} {ns : List Bool}, unB ss = some ns → ss = (ns.map Dt.bl).map Sv.d
  | [], ns, h => by cases h; rfl
  | .d (.bl x) :: r, ns, h => by
    unfold unB at h
    obtain ⟨cs, h1, rfl⟩ := Option.map_eq_some_iff.mp h
    rw [unB_eq h1]
    rfl
  | .d .non :: _, _, h => by cases h
  | .d (.int _) :: _, _, h => by cases h
  | .d (.str _) :: _, _, h => by cases h
  | .d (.lst _) :: _, _, h => by cases h
  | .d (.tup _) :: _, _, h => by cases h
  | .d (.obj _ _) :: _, _, h => by cases h
  | .m _ :: _, _, h => by cases h
  | .x _ _ _ _ :: _, _, h => by cases h
  | .u :: _, _, h => by cases h
@[simp] theorem unB_bls : ∀ (ns : List Bool), unB (ns.map fun i => Sv.d (Dt.bl i)) = some ns
  | [] => rfl
  | d :: ds => by show (unB (ds.map fun i => Sv.d (Dt.bl i))).map _ = _; rw [unB_bls ds]; rfl
@[simp] theorem unB_bls' (ns : List Bool) : unB ((ns.map Dt.bl).map Sv.d) = some ns := by rw [List.map_map]; exact unB_bls ns
/-- the ints of a list -/
def intsL (ms : Ms) (x : Sv) : Option (List Int) := match seqL ms x with
  | some ss => unI ss
  | none => none
theorem intsL_at {x : Sv} {ns : List Int} {as : As} {H : Hp} {v : V} {K : PySem.W.Frag} (ft : Fit f es ms) (h : intsL ms x = some ns) (m : MsR K as (f.ms ms) H) (r : ValR K as H v (f.s x)) : ∃ q, v = .ref q ∧ SqL K H q (ns.map V.int) := by
  unfold intsL at h
  split at h
  · obtain ⟨q, vs, rfl, h2, h3⟩ := seqL_at ft ‹_› m r
    rw [unI_eq h, Fr.map_d] at h3
    rw [h3.data.ints] at h2
    exact ⟨q, rfl, h2⟩
  · cases h
def blsL (ms : Ms) (x : Sv) : Option (List Bool) := match seqL ms x with
  | some ss => unB ss
  | none => none
theorem blsL_at {x : Sv} {ns : List Bool} {as : As} {H : Hp} {v : V} {K : PySem.W.Frag} (ft : Fit f es ms) (h : blsL ms x = some ns) (m : MsR K as (f.ms ms) H) (r : ValR K as H v (f.s x)) : ∃ q, v = .ref q ∧ SqL K H q (ns.map V.bl) := by
  unfold blsL at h
  split at h
  · obtain ⟨q, vs, rfl, h2, h3⟩ := seqL_at ft ‹_› m r
    rw [unB_eq h, Fr.map_d] at h3
    rw [h3.data.bls] at h2
    exact ⟨q, rfl, h2⟩
  · cases h
def sumS (ms : Ms) (x : Sv) : Option Dt := match intsL ms x with
  | some ns => some (.int ns.sum)
  | none => none
def sumE (A : ED) : ED := map1 sumS A
theorem den_sum (hc : X.calm = true) (hg : Gl X "sum") (hm : X.mg "sum" = none) (ha : Den X a A) (he : starEach [a] X.env = (false, eval a X.env) :: starEach [] X.env := by rfl) : Den X (.Call (.Name "sum" p) [a] [] pos) (sumE A) :=
  den_b1 (cr_sum hc) hg hm (by decide +kernel) ha (fun f es0 ms x d ft g as v H Q m r k => by
    unfold sumS at g
    split at g
    · cases g
      obtain ⟨q, rfl, h⟩ := intsL_at ft ‹_› m r
      exact ⟨q, _, rfl, h, k _ H m (Same.refl _) (.int _)⟩
    · cases g) (he := he)
def allS (ms : Ms) (x : Sv) : Option Dt := match blsL ms x with
  | some ns => some (.bl (ns.all id))
  | none => none
def allE (A : ED) : ED := map1 allS A
theorem den_all (hc : X.calm = true) (hg : Gl X "all") (hm : X.mg "all" = none) (ha : Den X a A) (he : starEach [a] X.env = (false, eval a X.env) :: starEach [] X.env := by rfl) : Den X (.Call (.Name "all" p) [a] [] pos) (allE A) :=
  den_b1 (cr_all hc) hg hm (by decide +kernel) ha (fun f es0 ms x d ft g as v H Q m r k => by
    unfold allS at g
    split at g
    · cases g
      obtain ⟨q, rfl, h⟩ := blsL_at ft ‹_› m r
      exact ⟨q, _, rfl, h, k _ H m (Same.refl _) (.bl _)⟩
    · cases g) (he := he)
def anyS (ms : Ms) (x : Sv) : Option Dt := match blsL ms x with
  | some ns => some (.bl (ns.any id))
  | none => none
def anyE (A : ED) : ED := map1 anyS A
theorem den_any (hc : X.calm = true) (hg : Gl X "any") (hm : X.mg "any" = none) (ha : Den X a A) (he : starEach [a] X.env = (false, eval a X.env) :: starEach [] X.env := by rfl) : Den X (.Call (.Name "any" p) [a] [] pos) (anyE A) :=
  den_b1 (cr_any hc) hg hm (by decide +kernel) ha (fun f es0 ms x d ft g as v H Q m r k => by
    unfold anyS at g
    split at g
    · cases g
      obtain ⟨q, rfl, h⟩ := blsL_at ft ‹_› m r
      exact ⟨q, _, rfl, h, k _ H m (Same.refl _) (.bl _)⟩
    · cases g) (he := he)
def maxI : List Int → Option Int
  | [] => none
  | x :: xs => some (xs.foldl max x)
def minI : List Int → Option Int
  | [] => none
  | x :: xs => some (xs.foldl min x)
theorem foldl_max : ∀ (xs : List Int) (x : Int), (xs.foldl max x ∈ x :: xs) ∧ ∀ y ∈ x :: xs, y ≤ xs.foldl max x
  | [], x => ⟨List.mem_cons_self, fun y hy => by simp at hy; subst hy; exact Int.le_refl _⟩
  | z :: xs, x => by
    obtain ⟨h1, h2⟩ := foldl_max xs (max x z)
    have h3 := h2 (max x z) List.mem_cons_self
    refine ⟨?_, fun y hy => ?_⟩
    · show xs.foldl max (max x z) ∈ _
      rcases List.mem_cons.mp h1 with e | e
      · rw [e]
        rcases Int.le_total x z with c | c
        · rw [Int.max_eq_right c]; simp
        · rw [Int.max_eq_left c]; simp
      · exact List.mem_cons_of_mem _ (List.mem_cons_of_mem _ e)
    · show y ≤ xs.foldl max (max x z)
      rcases List.mem_cons.mp hy with e | e
      · subst e; exact Int.le_trans (Int.le_max_left _ _) h3
      · rcases List.mem_cons.mp e with e | e
        · subst e; exact Int.le_trans (Int.le_max_right _ _) h3
        · exact h2 y (List.mem_cons_of_mem _ e)
theorem foldl_min : ∀ (xs : List Int) (x : Int), (xs.foldl min x ∈ x :: xs) ∧ ∀ y ∈ x :: xs, xs.foldl min x ≤ y
  | [], x => ⟨List.mem_cons_self, fun y hy => by simp at hy; subst hy; exact Int.le_refl _⟩
  | z :: xs, x => by
    obtain ⟨h1, h2⟩ := foldl_min xs (min x z)
    have h3 := h2 (min x z) List.mem_cons_self
    refine ⟨?_, fun y hy => ?_⟩
    · show xs.foldl min (min x z) ∈ _
      rcases List.mem_cons.mp h1 with e | e
      · rw [e]
        rcases Int.le_total x z with c | c
        · rw [Int.min_eq_left c]; simp
        · rw [Int.min_eq_right c]; simp
      · exact List.mem_cons_of_mem _ (List.mem_cons_of_mem _ e)
    · show xs.foldl min (min x z) ≤ y
      rcases List.mem_cons.mp hy with e | e
      · subst e; exact Int.le_trans h3 (Int.min_le_left _ _)
      · rcases List.mem_cons.mp e with e | e
        · subst e; exact Int.le_trans h3 (Int.min_le_right _ _)
        · exact h2 y (List.mem_cons_of_mem _ e)
theorem maxI_ok {ns : List Int} {z : Int} (h : maxI ns = some z) : z ∈ ns ∧ ∀ y ∈ ns, y ≤ z := by
  cases ns with
  | nil => cases h
  | cons x xs => cases h; exact foldl_max xs x
theorem minI_ok {ns : List Int} {z : Int} (h : minI ns = some z) : z ∈ ns ∧ ∀ y ∈ ns, z ≤ y := by
  cases ns with
  | nil => cases h
  | cons x xs => cases h; exact foldl_min xs x
def maxS (ms : Ms) (x : Sv) : Option Dt := match intsL ms x with
  | some ns => match maxI ns with
    | some z => some (.int z)
    | none => none
  | none => none
def maxE (A : ED) : ED := map1 maxS A
theorem den_max (hc : X.calm = true) (hg : Gl X "max") (hm : X.mg "max" = none) (ha : Den X a A) (he : starEach [a] X.env = (false, eval a X.env) :: starEach [] X.env := by rfl) : Den X (.Call (.Name "max" p) [a] [] pos) (maxE A) :=
  den_b1 (cr_max hc) hg hm (by decide +kernel) ha (fun f es0 ms x d ft g as v H Q m r k => by
    unfold maxS at g
    split at g
    · split at g
      · cases g
        obtain ⟨q, rfl, h⟩ := intsL_at ft ‹_› m r
        have hz := maxI_ok ‹_›
        refine ⟨q, _, rfl, h, List.length_pos_of_mem hz.1, fun y hy hl => ?_⟩
        have := Int.le_antisymm (hz.2 y hy) (hl _ hz.1)
        subst this
        exact k _ H m (Same.refl _) (.int _)
      · cases g
    · cases g) (he := he)
def minS (ms : Ms) (x : Sv) : Option Dt := match intsL ms x with
  | some ns => match minI ns with
    | some z => some (.int z)
    | none => none
  | none => none
def minE (A : ED) : ED := map1 minS A
theorem den_min (hc : X.calm = true) (hg : Gl X "min") (hm : X.mg "min" = none) (ha : Den X a A) (he : starEach [a] X.env = (false, eval a X.env) :: starEach [] X.env := by rfl) : Den X (.Call (.Name "min" p) [a] [] pos) (minE A) :=
  den_b1 (cr_min hc) hg hm (by decide +kernel) ha (fun f es0 ms x d ft g as v H Q m r k => by
    unfold minS at g
    split at g
    · split at g
      · cases g
        obtain ⟨q, rfl, h⟩ := intsL_at ft ‹_› m r
        have hz := minI_ok ‹_›
        refine ⟨q, _, rfl, h, List.length_pos_of_mem hz.1, fun y hy hl => ?_⟩
        have := Int.le_antisymm (hl _ hz.1) (hz.2 y hy)
        subst this
        exact k _ H m (Same.refl _) (.int _)
      · cases g
    · cases g) (he := he)
/-! ### calls of two arguments that give data -/
theorem den_b2 {id : String} {r : List V → Hp → VK → Prop} {nm : Str} {g : Ms → Sv → Sv → Option Dt} (hc : CallR X (.builtin id) r) (hg : Gl X nm) (hm : X.mg nm = none) (hv : bootBuiltins nm = some (.builtin id)) (ha : Den X a A) (hb : Den X b B)
    (h : ∀ (f : Fr) (x y : Sv) (d : Dt), g ms x y = some d → ∀ as ms v u H (Q : VK), MsR X.K as ms H → ValR X.K as H v (f.s x) → ValR X.K as H u (f.s y) → (∀ w H', MsR X.K as ms H' → Same (hid as H) (hid as H') → Rp X.K (hid as H') w d → Q w H') → r [v, u] H Q)
    (gm : ∀ m m' x y, g m x y = g m' x y) (hn : nm ≠ "__name__" := by decide) (hd : (nm == ("__debug__" : Str)) = false := by decide)
    (he : starEach [a, b] X.env = (false, eval a X.env) :: starEach [b] X.env := by rfl) (he2 : starEach [b] X.env = (false, eval b X.env) :: starEach [] X.env := by rfl) (hpl : (backTo pos (starEach [b] X.env)).any (·.1) = false := by rfl) : Den X (.Call (.Name nm p) [a, b] [] pos) (map2 g A B) :=
  den_map2 ha hb fun f es0 es m0 m1 ms x y d ft lx ly gx pa pb => d_callB hc hg hm hv (a_cons pa (a_cons pb a_nil he2) he) (fun as vs H Q m rr k => by
    cases rr with | cons r1 r2 => cases r2 with | cons r2 r3 => cases r3; exact h f x y d (by rw [gm _ ms]; exact gx) as _ _ _ H Q m r1 r2 k) hn hd he hpl
def max2S : Ms → Sv → Sv → Option Dt := fun _ x y => match x, y with
  | .d (.int i), .d (.int j) => some (.int (max i j))
  | _, _ => none
def min2S : Ms → Sv → Sv → Option Dt := fun _ x y => match x, y with
  | .d (.int i), .d (.int j) => some (.int (min i j))
  | _, _ => none
def max2E (A B : ED) : ED := map2 max2S A B
def min2E (A B : ED) : ED := map2 min2S A B
theorem den_max2 (hc : X.calm = true) (hg : Gl X "max") (hm : X.mg "max" = none) (ha : Den X a A) (hb : Den X b B) (he : starEach [a, b] X.env = (false, eval a X.env) :: starEach [b] X.env := by rfl) (he2 : starEach [b] X.env = (false, eval b X.env) :: starEach [] X.env := by rfl) (hpl : (backTo pos (starEach [b] X.env)).any (·.1) = false := by rfl) :
    Den X (.Call (.Name "max" p) [a, b] [] pos) (max2E A B) :=
  den_b2 (ms := []) (call_max2 hc) hg hm (by decide +kernel) ha hb (fun f x y d g as ms v u H Q m r1 r2 k => by
    unfold max2S at g
    split at g
    · cases g
      cases r1
      cases r2
      rename_i i j
      refine ⟨i, j, rfl, ?_⟩
      have : (if j > i then j else i) = max i j := by omega
      rw [this]
      exact k _ H m (Same.refl _) (.int _)
    · cases g) (fun _ _ _ _ => rfl) (he := he) (he2 := he2) (hpl := hpl)
theorem den_min2 (hc : X.calm = true) (hg : Gl X "min") (hm : X.mg "min" = none) (ha : Den X a A) (hb : Den X b B) (he : starEach [a, b] X.env = (false, eval a X.env) :: starEach [b] X.env := by rfl) (he2 : starEach [b] X.env = (false, eval b X.env) :: starEach [] X.env := by rfl) (hpl : (backTo pos (starEach [b] X.env)).any (·.1) = false := by rfl) :
    Den X (.Call (.Name "min" p) [a, b] [] pos) (min2E A B) :=
  den_b2 (ms := []) (call_min2 hc) hg hm (by decide +kernel) ha hb (fun f x y d g as ms v u H Q m r1 r2 k => by
    unfold min2S at g
    split at g
    · cases g
      cases r1
      cases r2
      rename_i i j
      refine ⟨i, j, rfl, ?_⟩
      have : (if j < i then j else i) = min i j := by omega
      rw [this]
      exact k _ H m (Same.refl _) (.int _)
    · cases g) (fun _ _ _ _ => rfl) (he := he) (he2 := he2) (hpl := hpl)
def gcdS : Ms → Sv → Sv → Option Dt := fun _ x y => match x, y with
  | .d (.int i), .d (.int j) => some (.int (Int.gcd i j : Int))
  | _, _ => none
def gcdE (A B : ED) : ED := map2 gcdS A B
theorem den_gcd {nm : Str} (hg : Gl X nm) (hm : X.mg nm = some (.builtin "math.gcd")) (ha : Den X a A) (hb : Den X b B) (hdb : (nm == ("__debug__" : Str)) = false := by decide)
    (he : starEach [a, b] X.env = (false, eval a X.env) :: starEach [b] X.env := by rfl) (he2 : starEach [b] X.env = (false, eval b X.env) :: starEach [] X.env := by rfl) (hpl : (backTo pos (starEach [b] X.env)).any (·.1) = false := by rfl) : Den X (.Call (.Name nm p) [a, b] [] pos) (gcdE A B) :=
  den_map2 ha hb fun f es0 es m0 m1 ms x y d ft lx ly g pa pb => by
    unfold gcdS at g
    split at g
    · cases g; exact d_gcd hg hm pa pb hdb he he2 hpl
    · cases g
/-! ### isinstance -/
def isTS (T : String) : Ms → Sv → Option Dt := fun ms x => match x with
  | .d d => if plainD d then some (.bl (isT T d)) else none
  | .m k => match cellL ms k with
    | some _ => some (.bl (T == "list"))
    | none => none
  | _ => none
def isE (T : String) (A : ED) : ED := map1 (isTS T) A
theorem kit_list : ∀ T ∈ ["int", "bool", "str", "list", "tuple"], kitB "list" T = some (T == "list") := by decide +kernel
theorem den_isT {T : String} {nm : Str} {pT : Pos} (hT : T ∈ ["int", "bool", "str", "list", "tuple"]) (hv : bootBuiltins nm = some (.type T)) (hg : Gl X "isinstance") (hm : X.mg "isinstance" = none) (hgT : Gl X nm) (hmT : X.mg nm = none) (ha : Den X a A)
    (hnn : nm ≠ "__name__" := by decide) (hdn : (nm == ("__debug__" : Str)) = false := by decide)
    (he : starEach [a, .Name nm pT] X.env = (false, eval a X.env) :: starEach [.Name nm pT] X.env := by rfl) (hpl : (backTo pos (starEach [.Name nm pT] X.env)).any (·.1) = false := by rfl) (he2 : starEach [.Name nm pT] X.env = (false, eval (.Name nm pT) X.env) :: starEach [] X.env := by rfl) :
    Den X (.Call (.Name "isinstance" p) [a, .Name nm pT] [] pos) (isE T A) :=
  den_map1 ha fun f es0 es m0 ms x d ft lx g pa => by
    unfold isTS at g
    split at g
    · split at g
      · cases g; exact d_isT hT hv hg hm hgT hmT pa ‹_› hnn hdn he hpl he2
      · cases g
    · split at g
      · cases g
        obtain ⟨kk, _, h2, h3⟩ := ft.cell (cellL_eq ‹_›)
        rw [h2] at pa
        exact pe_w (pe_callB call_isi hg hm (by decide +kernel) (pa_cons pa (pa_cons (pe_bltn (v := .ty T) hgT hmT hv rfl hnn hdn) pa_nil he2) he) (he := he) (hpl := hpl)) fun σ H Q ⟨as, s, k⟩ => ⟨as, s, fun v H1 m1 e1 r1 => by
          obtain ⟨q, g1, rfl⟩ := r1
          obtain ⟨vs, k2, k3⟩ := m1.list g1 h3
          exact ⟨.ref q, .ty T, .type "list", .type T, _, rfl, .ty T, .base (.lst k2), kit_ty (kit_list T hT), k _ H1 m1 e1 (.bl _)⟩⟩
      · cases g
    · cases g
/-! ### list(..), tuple(..) -/
def listE (A : ED) : ED := fun es ms => match opx A es ms with
  | some (.v x, m) => match seqS m x with
    | some ss => some (.n ss, m)
    | none => none
  | _ => none
theorem listE_eq {q : Pv} (h : listE A es ms = some (q, ms')) : ∃ x ss, opx A es ms = some (.v x, ms') ∧ seqS ms' x = some ss ∧ q = .n ss := by
  unfold listE at h
  split at h
  · split at h
    · cases h; exact ⟨_, _, ‹_›, ‹_›, rfl⟩
    · cases h
  · cases h
theorem den_list (hg : Gl X "list") (hm : X.mg "list" = none) (ha : Den X a A) (he : starEach [a] X.env = (false, eval a X.env) :: starEach [] X.env := by rfl) : Den X (.Call (.Name "list" p) [a] [] pos) (listE A) where
  val := fun ft q => by obtain ⟨x, ss, h1, h2, h3⟩ := listE_eq q; cases h3
  new := fun {f es ms ms' s} ft q => by
    obtain ⟨x, ss, h1, h2, h3⟩ := listE_eq q
    cases h3
    have ft' := ha.opF ft h1
    exact pe_w (pe_callTy call_list_of hg hm (by decide +kernel) (pa_cons (ha.opV ft h1) pa_nil he) (he := he)) fun σ H Q ⟨as, s, k⟩ => ⟨as, s, fun v H1 m1 e1 r1 => by
      obtain ⟨q, vs, rfl, h4, h5⟩ := seqS_at ft' h2 m1 r1
      exact ⟨q, vs, rfl, h4, fun l hl => k l _ ((m1.more hl h5).of e1 (old_of e1 m1 hl))⟩⟩
  exc := fun tk ft q => by obtain ⟨x, ss, h1, h2, h3⟩ := listE_eq q; cases h3
  low := fun {es ms ms' p} le lm q => by
    obtain ⟨x, ss, h1, h2, rfl⟩ := listE_eq q
    have l1 := ha.opL le lm h1
    refine ⟨?_, l1.2⟩
    show Low ms.length ss
    rw [← l1.2.2]
    exact seqS_low (by rw [l1.2.2]; exact l1.2.1) h2
def tupleS (ms : Ms) (x : Sv) : Option Dt := match x with
  | .d (.tup ds) => some (.tup ds)
  | x => match seqL ms x with
    | some ss => match unD ss with
      | some ds => some (.tup ds)
      | none => none
    | none => none
def tupleE (A : ED) : ED := map1 tupleS A
theorem den_tuple (hg : Gl X "tuple") (hm : X.mg "tuple" = none) (ha : Den X a A) (he : starEach [a] X.env = (false, eval a X.env) :: starEach [] X.env := by rfl) : Den X (.Call (.Name "tuple" p) [a] [] pos) (tupleE A) :=
  den_t1 call_tuple_of hg hm (by decide +kernel) ha (fun f es0 ms x d ft g as v H Q m r k => by
    unfold tupleS at g
    split at g
    · cases g
      cases r with | tup hs hx => exact ⟨_, _, rfl, .inr ⟨sqT_same hid_sub hs, k _ H m (Same.refl _) (.tup hs hx)⟩⟩
    · split at g
      · split at g
        · cases g
          obtain ⟨q, vs, rfl, h4, h5⟩ := seqL_at ft ‹_› m r
          have hu := ‹unD _ = some _›
          rw [unD_eq hu, Fr.map_d] at h5
          exact ⟨q, vs, rfl, .inl ⟨h4, fun l hl => k _ _ (m.new hl).1 (m.new hl).2 (.tup (.inl (.inl (m.at_new hl))) (h5.data.mono (m.new hl).2))⟩⟩
        · cases g
      · cases g) (he := he)
end
end Dn
/-! # Dn4: calls of defs: each sees its own frame -/
namespace Dn
open PySem PySem.Spec L2 Dv
/-- what a def means: from its arguments and the things of ours that it is passed -/
abbrev FD := List Sv → Ms → Option Ro
def isD : Sv → Bool
  | .d _ => true
  | _ => false
def Cell.isD : Cell → Bool
  | .l ss => ss.all Dn.isD
  | .o _ fs => fs.all fun p => Dn.isD p.2
def cellOk : Option Cell → Bool
  | some c => Cell.isD c
  | none => false
def refs : List Sv → List Nat
  | [] => []
  | .m k :: r => k :: refs r
  | _ :: r => refs r
def loc (j : Nat) : List Sv → List Sv
  | [] => []
  | .m _ :: r => .m j :: loc (j + 1) r
  | s :: r => s :: loc j r
def argOk : Sv → Bool
  | .d _ => true
  | .m _ => true
  | _ => false
def cellsAt (ms : Ms) : List Nat → Option Ms
  | [] => some []
  | k :: ks => match ms[k]? with
    | some (some c) => if Cell.isD c then (cellsAt ms ks).map (some c :: ·) else none
    | _ => none
def outOk (n : Nat) : Ro → Bool
  | .ret _ m => decide (m.length = n) && m.all cellOk
  | .nw ss m => decide (m.length = n) && m.all cellOk && ss.all isD
  | .exc _ m => decide (m.length = n) && m.all cellOk
def unf (ms : Ms) (ks : List Nat) : Ro → Ro
  | .ret d m => .ret d (setAll ms ks m)
  | .nw ss m => .nw ss (setAll ms ks m)
  | .exc x m => .exc x (setAll ms ks m)
/-- the promise of a def with this meaning -/
def preF (F : FD) : Pre := fun ss ms R => ∃ fm o, ss.all argOk = true ∧ (refs ss).Nodup ∧ cellsAt ms (refs ss) = some fm ∧ F (loc 0 ss) fm = some o ∧ R (unf ms (refs ss) o)
def callF (F : FD) (ss : List Sv) (ms : Ms) : Option (Pv × Ms) :=
  if ss.all argOk = true ∧ (refs ss).Nodup then match cellsAt ms (refs ss) with
    | some fm => match F (loc 0 ss) fm with
      | some (.ret d m) => some (.v (.d d), setAll ms (refs ss) m)
      | some (.nw ts m) => some (.n ts, setAll ms (refs ss) m)
      | some (.exc x m) => some (.x x, setAll ms (refs ss) m)
      | none => none
    | none => none
  else none
theorem isD_eq {s : Sv} (h : isD s = true) : ∃ d, s = .d d := by cases s <;> first | exact ⟨_, rfl⟩ | cases h
theorem all_isD : ∀ {ss : List Sv}, ss.all isD = true → ∃ ds : List Dt, ss = ds.map Sv.d
  | [], _ => ⟨[], rfl⟩
  | s :: ss, h => by
    rw [List.all_cons, Bool.and_eq_true] at h
    obtain ⟨d, rfl⟩ := isD_eq h.1
    obtain ⟨ds, rfl⟩ := all_isD h.2
    exact ⟨d :: ds, rfl⟩
theorem cellD_map {c : Cell} {g : Sv → Sv} (h : Cell.isD c = true) (hg : ∀ d, g (.d d) = .d d) : c.map g = c := by
  cases c with
  | l ss =>
    obtain ⟨ds, rfl⟩ := all_isD h
    exact congrArg Cell.l (by rw [List.map_map]; exact List.map_congr_left fun d _ => hg d)
  | o C fs =>
    refine congrArg (Cell.o C) ?_
    have hh : ∀ p ∈ fs, isD p.2 = true := fun p hp => List.all_eq_true.mp h p hp
    calc fs.map (fun p => (p.1, g p.2)) = fs.map id := List.map_congr_left fun p hp => by
          obtain ⟨d, hd⟩ := isD_eq (hh p hp)
          obtain ⟨p1, p2⟩ := p
          dsimp only at hd
          subst hd
          show (p1, g (.d d)) = (p1, .d d)
          rw [hg]
      _ = fs := List.map_id fs
theorem cellD_low {c : Cell} (n : Nat) (h : Cell.isD c = true) : Low n c.all := by
  cases c with
  | l ss => obtain ⟨ds, rfl⟩ := all_isD h; exact low_data n ds
  | o C fs =>
    intro k hk
    obtain ⟨p, hp, e⟩ := List.mem_map.mp hk
    have := List.all_eq_true.mp h p hp
    rw [e] at this
    cases this
theorem cellsAt_eq : ∀ {ms : Ms} {ks : List Nat} {fm : Ms}, cellsAt ms ks = some fm → fm.length = ks.length ∧ fm.all cellOk = true ∧ ∀ (i k : Nat), ks[i]? = some k → ms[k]? = fm[i]? ∧ k < ms.length
  | ms, [], fm, h => by
    cases h
    exact ⟨rfl, rfl, fun i k e => by simp at e⟩
  | ms, k0 :: ks, fm, h => by
    unfold cellsAt at h
    split at h
    · split at h
      · obtain ⟨gm, h1, rfl⟩ := Option.map_eq_some_iff.mp h
        rename_i c hc hd
        obtain ⟨i1, i2, i3⟩ := cellsAt_eq h1
        refine ⟨by simp [i1], by rw [List.all_cons, Bool.and_eq_true]; exact ⟨hd, i2⟩, fun i k e => ?_⟩
        cases i with
        | zero => simp at e; subst e; exact ⟨by rw [hc]; rfl, (List.getElem?_eq_some_iff.mp hc).1⟩
        | succ i => obtain ⟨j1, j2⟩ := i3 i k (by simpa using e); exact ⟨by rw [j1]; simp, j2⟩
      · cases h
    · cases h
theorem cells_map {g : Sv → Sv} (hg : ∀ d, g (.d d) = .d d) : ∀ {fm : Ms}, fm.all cellOk = true → fm.map (Option.map (Cell.map g)) = fm
  | [], _ => rfl
  | none :: _, h => by simp [cellOk] at h
  | some c :: fm, h => by
    rw [List.all_cons, Bool.and_eq_true] at h
    rw [List.map_cons, cells_map hg h.2]
    show some (c.map g) :: fm = _
    rw [cellD_map h.1 hg]
/-- the places in the whole -/
theorem refs_s {f : Fr} : ∀ {ss : List Sv} {n : Nat}, Low n ss → n = f.ks.length → (refs ss).map (fun k => (f.ks[k]?).getD 0) = refs (ss.map f.s)
  | [], _, _, _ => rfl
  | .m k :: r, n, h, e => by
    have hk : k < f.ks.length := e ▸ h k List.mem_cons_self
    show (f.ks[k]?).getD 0 :: _ = refs (f.s (.m k) :: _)
    rw [refs_s (fun j hj => h j (List.mem_cons_of_mem _ hj)) e]
    have : f.s (.m k) = .m f.ks[k] := by show (match f.ks[k]? with | some k => Sv.m k | none => .u) = _; rw [List.getElem?_eq_getElem hk]
    rw [this, List.getElem?_eq_getElem hk]
    rfl
  | .d _ :: r, n, h, e => refs_s (ss := r) (fun j hj => h j (List.mem_cons_of_mem _ hj)) e
  | .x _ _ _ _ :: r, n, h, e => refs_s (ss := r) (fun j hj => h j (List.mem_cons_of_mem _ hj)) e
  | .u :: r, n, h, e => refs_s (ss := r) (fun j hj => h j (List.mem_cons_of_mem _ hj)) e
theorem loc_s {f : Fr} : ∀ {ss : List Sv} {n j : Nat}, Low n ss → n = f.ks.length → loc j (ss.map f.s) = loc j ss
  | [], _, _, _, _ => rfl
  | .m k :: r, n, j, h, e => by
    have hk : k < f.ks.length := e ▸ h k List.mem_cons_self
    have : f.s (.m k) = .m f.ks[k] := by show (match f.ks[k]? with | some k => Sv.m k | none => .u) = _; rw [List.getElem?_eq_getElem hk]
    show loc j (f.s (.m k) :: r.map f.s) = _
    rw [this]
    show Sv.m j :: loc (j + 1) (r.map f.s) = _
    rw [loc_s (fun j hj => h j (List.mem_cons_of_mem _ hj)) e]
    rfl
  | .d d :: r, n, j, h, e => by
    show Sv.d d :: loc j (r.map f.s) = _
    rw [loc_s (fun j hj => h j (List.mem_cons_of_mem _ hj)) e]
    rfl
  | .x a c dd y :: r, n, j, h, e => by
    show Sv.x a c dd y :: loc j (r.map f.s) = _
    rw [loc_s (fun j hj => h j (List.mem_cons_of_mem _ hj)) e]
    rfl
  | .u :: r, n, j, h, e => by
    show Sv.u :: loc j (r.map f.s) = _
    rw [loc_s (fun j hj => h j (List.mem_cons_of_mem _ hj)) e]
    rfl
theorem arg_s {f : Fr} : ∀ {ss : List Sv} {n : Nat}, Low n ss → n = f.ks.length → ss.all argOk = true → (ss.map f.s).all argOk = true
  | [], _, _, _, _ => rfl
  | .m k :: r, n, h, e, q => by
    have hk : k < f.ks.length := e ▸ h k List.mem_cons_self
    have : f.s (.m k) = .m f.ks[k] := by show (match f.ks[k]? with | some k => Sv.m k | none => .u) = _; rw [List.getElem?_eq_getElem hk]
    rw [List.all_cons, Bool.and_eq_true] at q
    rw [List.map_cons, List.all_cons, this, arg_s (fun j hj => h j (List.mem_cons_of_mem _ hj)) e q.2]
    rfl
  | .d d :: r, n, h, e, q => by
    rw [List.all_cons, Bool.and_eq_true] at q
    rw [List.map_cons, List.all_cons, arg_s (fun j hj => h j (List.mem_cons_of_mem _ hj)) e q.2]
    rfl
  | .x _ _ _ _ :: r, n, h, e, q => by simp [argOk] at q
  | .u :: r, n, h, e, q => by simp [argOk] at q
theorem refs_low {n : Nat} : ∀ {ss : List Sv}, Low n ss → ∀ k ∈ refs ss, k < n
  | [], _, k, hk => by cases hk
  | .m j :: r, h, k, hk => by
    rcases List.mem_cons.mp hk with z | z
    · subst z; exact h k List.mem_cons_self
    · exact refs_low (fun j hj => h j (List.mem_cons_of_mem _ hj)) k z
  | .d _ :: r, h, k, hk => refs_low (ss := r) (fun j hj => h j (List.mem_cons_of_mem _ hj)) k hk
  | .x _ _ _ _ :: r, h, k, hk => refs_low (ss := r) (fun j hj => h j (List.mem_cons_of_mem _ hj)) k hk
  | .u :: r, h, k, hk => refs_low (ss := r) (fun j hj => h j (List.mem_cons_of_mem _ hj)) k hk
theorem nd_ix {α : Type} : ∀ {l : List α} {i j : Nat} {x : α}, l.Nodup → l[i]? = some x → l[j]? = some x → i = j
  | [], i, _, _, _, h, _ => by simp at h
  | a :: l, 0, 0, _, _, _, _ => rfl
  | a :: l, 0, j + 1, x, nd, h, g => by
    simp at h g
    subst h
    exact absurd (List.mem_of_getElem? g) (List.nodup_cons.mp nd).1
  | a :: l, i + 1, 0, x, nd, h, g => by
    simp at h g
    subst g
    exact absurd (List.mem_of_getElem? h) (List.nodup_cons.mp nd).1
  | a :: l, i + 1, j + 1, x, nd, h, g => congrArg Nat.succ (nd_ix (List.nodup_cons.mp nd).2 (by simpa using h) (by simpa using g))
theorem nodup_map {f : Fr} (ok : f.ok) : ∀ {ks : List Nat}, ks.Nodup → (∀ k ∈ ks, k < f.ks.length) → (ks.map fun k => (f.ks[k]?).getD 0).Nodup
  | [], _, _ => List.nodup_nil
  | k :: ks, nd, lt => by
    rw [List.map_cons, List.nodup_cons]
    have n2 := List.nodup_cons.mp nd
    refine ⟨fun h => ?_, nodup_map ok n2.2 fun j hj => lt j (List.mem_cons_of_mem _ hj)⟩
    obtain ⟨j, hj, e⟩ := List.mem_map.mp h
    have l1 := lt k List.mem_cons_self
    have l2 := lt j (List.mem_cons_of_mem _ hj)
    rw [List.getElem?_eq_getElem l1, List.getElem?_eq_getElem l2] at e
    have : j = k := nd_ix ok.nd (List.getElem?_eq_getElem l2) (by rw [List.getElem?_eq_getElem l1]; exact congrArg some e.symm)
    subst this
    exact n2.1 hj
theorem cellsAt_map {f : Fr} {es : Es} {ms : Ms} (ft : Fit f es ms) : ∀ {ks : List Nat} {fm : Ms}, cellsAt ms ks = some fm → cellsAt (f.ms ms) (ks.map fun k => (f.ks[k]?).getD 0) = some fm
  | [], fm, h => by cases h; rfl
  | k :: ks, fm, h => by
    unfold cellsAt at h
    split at h
    · split at h
      · obtain ⟨gm, h1, rfl⟩ := Option.map_eq_some_iff.mp h
        rename_i c hc hd
        obtain ⟨kk, hk⟩ := Fr.ix (f := f) ft.len (List.getElem?_eq_some_iff.mp hc).1
        rw [List.map_cons]
        unfold cellsAt
        rw [hk]
        show (match (f.ms ms)[kk]? with | some (some c) => if Cell.isD c then (cellsAt (f.ms ms) _).map (some c :: ·) else none | _ => none) = _
        rw [Fr.get ft.ok ft.len hk, hc]
        show (if Cell.isD (c.map f.s) = true then _ else none) = _
        rw [cellD_map hd fun _ => rfl, if_pos hd, cellsAt_map ft h1]
        rfl
      · cases h
    · cases h
/-- the changed cells, in the whole -/
theorem setAll_s {f : Fr} {es : Es} : ∀ {ms : Ms} {ks : List Nat} {m : Ms}, Fit f es ms → (∀ k ∈ ks, k < ms.length) → m.all cellOk = true → f.ms (setAll ms ks m) = setAll (f.ms ms) (ks.map fun k => (f.ks[k]?).getD 0) m
  | ms, [], m, ft, _, _ => by cases m <;> rfl
  | ms, k :: ks, [], ft, _, _ => rfl
  | ms, k :: ks, none :: m, ft, lt, h => by simp [cellOk] at h
  | ms, k :: ks, some c :: m, ft, lt, h => by
    rw [List.all_cons, Bool.and_eq_true] at h
    obtain ⟨kk, hk⟩ := Fr.ix (f := f) ft.len (lt k List.mem_cons_self)
    have ft2 : Fit f es (ms.set k (some c)) := ft.go ⟨Lows.set ft.lm (cellD_low _ h.1), List.length_set⟩
    show f.ms (setAll (ms.set k (some c)) ks m) = setAll ((f.ms ms).set ((f.ks[k]?).getD 0) (some c)) _ m
    rw [setAll_s ft2 (fun j hj => by rw [List.length_set]; exact lt j (List.mem_cons_of_mem _ hj)) h.2, Fr.set ft.ok ft.len hk, hk]
    show setAll ((f.ms ms).set kk (some (c.map f.s))) _ m = setAll ((f.ms ms).set kk (some c)) _ m
    rw [cellD_map h.1 fun _ => rfl]
theorem setAll_lows {n : Nat} : ∀ {ms : Ms} {ks : List Nat} {m : Ms}, Lows n ms → m.all cellOk = true → Lows n (setAll ms ks m)
  | ms, [], m, h, _ => by cases m <;> exact h
  | ms, k :: ks, [], h, _ => h
  | ms, k :: ks, none :: m, h, q => by simp [cellOk] at q
  | ms, k :: ks, some c :: m, h, q => by
    rw [List.all_cons, Bool.and_eq_true] at q
    exact setAll_lows (ms := ms.set k (some c)) (Lows.set h (cellD_low n q.1)) q.2
/-- the facts of a def: its promise, and that what it gives is well formed -/
structure Cal (P : Program) (w : World) (K : PySem.W.Frag) (mg : Str → Option Value) (base : Heap) (nm : Str) (k : Nat) (F : FD) : Prop where
  cal : Callee P w K mg base nm k (preF F)
  out : ∀ ss fm o, F ss fm = some o → outOk fm.length o = true
section
variable {X : Cx} {e a b c : Expr} {A B C : ED} {T U : TD} {f : Fr} {es : Es} {ms ms' ms1 ms2 : Ms} {p pos : Pos} {rest l : List Expr} {F : FD}
theorem callF_eq {ss : List Sv} {q : Pv} (h : callF F ss ms = some (q, ms')) : ∃ fm o, ss.all argOk = true ∧ (refs ss).Nodup ∧ cellsAt ms (refs ss) = some fm ∧ F (loc 0 ss) fm = some o ∧
    ((∃ d m, o = .ret d m ∧ q = .v (.d d) ∧ ms' = setAll ms (refs ss) m) ∨ (∃ ts m, o = .nw ts m ∧ q = .n ts ∧ ms' = setAll ms (refs ss) m) ∨ (∃ x m, o = .exc x m ∧ q = .x x ∧ ms' = setAll ms (refs ss) m)) := by
  unfold callF at h
  split at h
  · rename_i hh
    split at h
    · split at h
      · cases h; exact ⟨_, _, hh.1, hh.2, ‹_›, ‹_›, .inl ⟨_, _, rfl, rfl, rfl⟩⟩
      · cases h; exact ⟨_, _, hh.1, hh.2, ‹_›, ‹_›, .inr (.inl ⟨_, _, rfl, rfl, rfl⟩)⟩
      · cases h; exact ⟨_, _, hh.1, hh.2, ‹_›, ‹_›, .inr (.inr ⟨_, _, rfl, rfl, rfl⟩)⟩
      · cases h
    · cases h
  · cases h
def call (F : FD) (R : AD) : ED := fun es ms => match R es ms with
  | some (.v ss, m) => callF F ss m
  | some (.x x, m) => some (.x x, m)
  | none => none
theorem preF_s {ss : List Sv} {fm : Ms} {o : Ro} (ft : Fit f es ms) (lo : Low ms.length ss) (h1 : ss.all argOk = true) (h2 : (refs ss).Nodup) (h3 : cellsAt ms (refs ss) = some fm) (h4 : F (loc 0 ss) fm = some o) (h5 : outOk fm.length o = true)
    {R : Ro → Prop} (hR : R (match o with | .ret d m => .ret d (f.ms (setAll ms (refs ss) m)) | .nw ts m => .nw ts (f.ms (setAll ms (refs ss) m)) | .exc x m => .exc x (f.ms (setAll ms (refs ss) m)))) : preF F (ss.map f.s) (f.ms ms) R := by
  have e := ft.len.symm
  have lt := refs_low lo
  have er := refs_s (f := f) lo e
  refine ⟨fm, o, arg_s lo e h1, er ▸ nodup_map ft.ok h2 fun k hk => by rw [ft.len]; exact lt k hk, er ▸ cellsAt_map ft h3, by rw [loc_s lo e]; exact h4, ?_⟩
  have key : ∀ m : Ms, m.all cellOk = true → f.ms (setAll ms (refs ss) m) = setAll (f.ms ms) (refs (ss.map f.s)) m := fun m hm => by rw [setAll_s ft lt hm, er]
  cases o with
  | ret d m =>
    simp only [outOk, Bool.and_eq_true] at h5
    show R (.ret d (setAll _ _ m))
    rw [← key m h5.2]
    exact hR
  | nw ts m =>
    simp only [outOk, Bool.and_eq_true] at h5
    show R (.nw ts (setAll _ _ m))
    rw [← key m h5.1.2]
    exact hR
  | exc x m =>
    simp only [outOk, Bool.and_eq_true] at h5
    show R (.exc x (setAll _ _ m))
    rw [← key m h5.2]
    exact hR
theorem callF_low {ss : List Sv} {q : Pv} (hc : ∀ ss fm o, F ss fm = some o → outOk fm.length o = true) (lm : Lows ms.length ms) (h : callF F ss ms = some (q, ms')) : LowP ms.length q ∧ Lows ms.length ms' ∧ ms'.length = ms.length := by
  obtain ⟨fm, o, h1, h2, h3, h4, h5⟩ := callF_eq h
  have ho := hc _ _ _ h4
  rcases h5 with ⟨d, m, rfl, rfl, rfl⟩ | ⟨ts, m, rfl, rfl, rfl⟩ | ⟨x, m, rfl, rfl, rfl⟩
  · simp only [outOk, Bool.and_eq_true] at ho
    exact ⟨fun k e => (by cases e), setAll_lows lm ho.2, setAll_len _ _ _⟩
  · simp only [outOk, Bool.and_eq_true] at ho
    obtain ⟨ds, rfl⟩ := all_isD ho.2
    exact ⟨low_data _ ds, setAll_lows lm ho.1.2, setAll_len _ _ _⟩
  · simp only [outOk, Bool.and_eq_true] at ho
    exact ⟨trivial, setAll_lows lm ho.2, setAll_len _ _ _⟩
theorem call_eq {R : AD} {q : Pv} (h : call F R es ms = some (q, ms')) : (∃ ss m, R es ms = some (.v ss, m) ∧ callF F ss m = some (q, ms')) ∨ (∃ x, R es ms = some (.x x, ms') ∧ q = .x x) := by
  unfold call at h
  split at h
  · exact .inl ⟨_, _, ‹_›, h⟩
  · cases h; exact .inr ⟨_, ‹_›, rfl⟩
  · cases h
theorem DenA.fit {R : AD} {q : Av} (h : DenA X l R) (ft : Fit f es ms) (r : R es ms = some (q, ms')) : Fit f es ms' := ft.go (h.low ft.le ft.lm r).2
variable {PP : Program} {w : World} {K : PySem.W.Frag} {mg : Str → Option Value} {base : Heap} {x0 : Str} {k k' : Nat} {es0 : List Expr} {R : AD}
theorem den_call (G : Cal PP w K mg base x0 k F) (hX : PP = X.prog ∧ w = X.w ∧ K = X.K ∧ mg = X.mg ∧ base = X.base) (hr : Room k' X.A) (hk : k ≤ k') (hg : Gl X x0)
    (ha : DenA X (e :: es0) R) (hdb : (x0 == ("__debug__" : Str)) = false := by decide) (he : starEach (e :: es0) X.env = (false, eval e X.env) :: starEach es0 X.env := by rfl) (hpl : (backTo pos (starEach es0 X.env)).any (·.1) = false := by rfl) :
    Den X (.Call (.Name x0 p) (e :: es0) [] pos) (call F R) where
  val := fun {f es ms ms' s} ft q => by
    rcases call_eq q with ⟨ss, m1, h1, h2⟩ | ⟨x, h1, h3⟩
    · obtain ⟨fm, o, g1, g2, g3, g4, g5⟩ := callF_eq h2
      have ft1 := ha.fit ft h1
      have lo := (ha.low ft.le ft.lm h1)
      have ho := G.out _ _ _ g4
      rcases g5 with ⟨d, m, rfl, h5, rfl⟩ | ⟨ts, m, rfl, h5, rfl⟩ | ⟨x, m, rfl, h5, rfl⟩
      · cases h5
        exact d_fn G.cal hX hr hk hg (ha.val ft h1) (preF_s ft1 (by rw [lo.2.2]; exact lo.1 _ rfl) g1 g2 g3 g4 ho rfl) hdb he hpl
      · cases h5
      · cases h5
    · cases h3
  new := fun {f es ms ms' s} ft q => by
    rcases call_eq q with ⟨ss, m1, h1, h2⟩ | ⟨x, h1, h3⟩
    · obtain ⟨fm, o, g1, g2, g3, g4, g5⟩ := callF_eq h2
      have ft1 := ha.fit ft h1
      have lo := (ha.low ft.le ft.lm h1)
      have ho := G.out _ _ _ g4
      rcases g5 with ⟨d, m, rfl, h5, rfl⟩ | ⟨ts, m, rfl, h5, rfl⟩ | ⟨x, m, rfl, h5, rfl⟩
      · cases h5
      · cases h5
        have e1 : s.map f.s = s := by
          simp only [outOk, Bool.and_eq_true] at ho
          obtain ⟨ds, rfl⟩ := all_isD ho.2
          exact Fr.map_d
        rw [e1]
        exact n_fn G.cal hX hr hk hg (ha.val ft h1) (preF_s ft1 (by rw [lo.2.2]; exact lo.1 _ rfl) g1 g2 g3 g4 ho rfl) hdb he hpl
      · cases h5
    · cases h3
  exc := fun {W f es ms ms' x} tk ft q => by
    rcases call_eq q with ⟨ss, m1, h1, h2⟩ | ⟨x, h1, h3⟩
    · obtain ⟨fm, o, g1, g2, g3, g4, g5⟩ := callF_eq h2
      have ft1 := ha.fit ft h1
      have lo := (ha.low ft.le ft.lm h1)
      have ho := G.out _ _ _ g4
      rcases g5 with ⟨d, m, rfl, h5, rfl⟩ | ⟨ts, m, rfl, h5, rfl⟩ | ⟨x, m, rfl, h5, rfl⟩
      · cases h5
      · cases h5
      · cases h5
        exact d_fnX tk G.cal hX hr hk hg (ha.val ft h1) (preF_s ft1 (by rw [lo.2.2]; exact lo.1 _ rfl) g1 g2 g3 g4 ho rfl) hdb he hpl
    · cases h3
      obtain ⟨rfl, rfl, rfl, rfl, rfl⟩ := hX
      obtain ⟨f', fd, ps, j1, j2, j3, j4⟩ := G.cal.ok
      exact pe_w (pe_callS j1 (hr.mono hk) hg j2 j3 j4 (fun σ => passAt tk σ) (ha.exc tk ft h1) hdb he hpl) fun σ H Q ⟨as, s, kk⟩ => ⟨as, s, kk⟩
  low := fun {es ms ms' q0} le lm q => by
    rcases call_eq q with ⟨ss, m1, h1, h2⟩ | ⟨x, h1, rfl⟩
    · have l1 := ha.low le lm h1
      have l2 := callF_low G.out (by rw [l1.2.2]; exact l1.2.1) h2
      rw [l1.2.2] at l2
      exact l2
    · exact ⟨trivial, (ha.low le lm h1).2⟩
end
end Dn
/-! # Dn5: what is walked; targets; comprehensions -/
namespace Dn
open PySem PySem.Spec L2 Dv
abbrev ID := Es → Ms → Option (List Dt × Ms)
abbrev GD := Dt → Es → Option Es
structure DenI (X : Cx) (tg e : Expr) (A : ID) : Prop where
  val : ∀ {f : Fr} {es : Es} {ms ms' : Ms} {ds : List Dt}, Fit f es ms → A es ms = some (ds, ms') → PI X tg e (iD X.K (f.es es) (f.ms ms) ds (f.ms ms'))
  low : ∀ {es : Es} {ms ms' : Ms} {ds : List Dt}, LowE ms.length es → Lows ms.length ms → A es ms = some (ds, ms') → Lows ms.length ms' ∧ ms'.length = ms.length
structure DenTs (X : Cx) (l : List Expr) (A : TD) : Prop where
  val : ∀ {f : Fr} {es : Es} {ms ms' : Ms} {b : Bool}, Fit f es ms → A es ms = some (b, ms') → PTs X l (tBo X.K (f.es es) (f.ms ms) b (f.ms ms'))
  low : ∀ {es : Es} {ms ms' : Ms} {b : Bool}, LowE ms.length es → Lows ms.length ms → A es ms = some (b, ms') → Lows ms.length ms' ∧ ms'.length = ms.length
/-- a target, as a function of the slots -/
structure GOk (G : GD) : Prop where
  map : ∀ {f : Fr} {d : Dt} {es es1 : Es}, G d es = some es1 → G d (f.es es) = some (f.es es1)
  low : ∀ {n : Nat} {d : Dt} {es es1 : Es}, G d es = some es1 → LowE n es → LowE n es1
def tg1 (i : Nat) : GD := fun d es => some (es.set i (some (.d d)))
def tg2 (i j : Nat) : GD := fun d es => match d with
  | .tup [d1, d2] => some ((es.set i (some (.d d1))).set j (some (.d d2)))
  | _ => none
theorem tg1_ok (i : Nat) : GOk (tg1 i) where
  map := fun {f d es es1} h => by cases h; show some ((f.es es).set i _) = _; rw [Fr.es_set]; rfl
  low := fun {n d es es1} h l => by cases h; exact l.set fun k e => by cases e
theorem tg2_ok (i j : Nat) : GOk (tg2 i j) where
  map := fun {f d es es1} h => by
    unfold tg2 at h ⊢
    split at h
    · cases h; rw [Fr.es_set, Fr.es_set]; rfl
    · cases h
  low := fun {n d es es1} h l => by
    unfold tg2 at h
    split at h
    · cases h; exact (l.set fun k e => by cases e).set fun k e => by cases e
    · cases h
section
variable {X : Cx} {e a b c tg elt iter : Expr} {A B C : ED} {T U : TD} {J : ID} {G : GD} {f : Fr} {es : Es} {ms ms' ms1 ms2 : Ms} {p pos : Pos} {ifs : List Expr} {scope : Scope} {own : List (Str × Nat)} {N : List Str}
theorem Den.opD {d : Dt} (h : Den X e A) (ft : Fit f es ms) (q : opx A es ms = some (.v (.d d), ms')) : PE X e (tD X.K (f.es es) (f.ms ms) (.d d) (f.ms ms')) := h.opV ft q
/-! ### what is walked -/
def itL (A : ED) : ID := fun es ms => match opx A es ms with
  | some (.v (.d (.lst ds)), m) => some (ds, m)
  | some (.v (.d (.tup ds)), m) => some (ds, m)
  | _ => none
theorem di_list (ha : Den X a A) : DenI X tg a (itL A) where
  val := fun {f es ms ms' ds} ft q => by
    unfold itL at q
    split at q
    · cases q; exact i_list (ha.opD ft ‹_›)
    · cases q; exact i_tup (ha.opD ft ‹_›)
    · cases q
  low := fun {es ms ms' ds} le lm q => by
    unfold itL at q
    split at q
    · cases q; exact (ha.opL le lm ‹_›).2
    · cases q; exact (ha.opL le lm ‹_›).2
    · cases q
def itR (A : ED) : ID := fun es ms => match opx A es ms with
  | some (.v (.d (.int j)), m) => if -(2 ^ 62) ≤ j ∧ j < 2 ^ 62 then some (irange 0 j.toNat, m) else none
  | _ => none
theorem di_rng (hg : Gl X "range") (hm : X.mg "range" = none) (ha : Den X a A) (he : starEach [a] X.env = [(false, eval a X.env)] := by rfl) : DenI X tg (.Call (.Name "range" p) [a] [] pos) (itR A) where
  val := fun {f es ms ms' ds} ft q => by
    unfold itR at q
    split at q
    · split at q
      · cases q; exact i_rng hg hm (ha.opD ft ‹_›) ‹_› he
      · cases q
    · cases q
  low := fun {es ms ms' ds} le lm q => by
    unfold itR at q
    split at q
    · split at q
      · cases q; exact (ha.opL le lm ‹_›).2
      · cases q
    · cases q
theorem opx2_low (ha : Den X a A) (hb : Den X b B) {x y : Ov} (le : LowE ms.length es) (lm : Lows ms.length ms) (h1 : opx A es ms = some (x, ms1)) (h2 : opx B es ms1 = some (y, ms')) : Lows ms.length ms' ∧ ms'.length = ms.length := by
  have l1 := ha.opL le lm h1
  have l2 := hb.opL (ms := ms1) (by rw [l1.2.2]; exact le) (by rw [l1.2.2]; exact l1.2.1) h2
  exact ⟨by rw [← l1.2.2]; exact l2.2.1, l2.2.2.trans l1.2.2⟩
def itR2 (A B : ED) : ID := fun es ms => match opx A es ms with
  | some (.v (.d (.int i)), m1) => match opx B es m1 with
    | some (.v (.d (.int j)), m) => if -(2 ^ 62) ≤ i ∧ i < 2 ^ 62 ∧ -(2 ^ 62) ≤ j ∧ j < 2 ^ 62 then some (irange i (j - i).toNat, m) else none
    | _ => none
  | _ => none
theorem di_rng2 (hg : Gl X "range") (hm : X.mg "range" = none) (ha : Den X a A) (hb : Den X b B) (he : starEach [a, b] X.env = [(false, eval a X.env), (false, eval b X.env)] := by rfl) (he2 : starEach [b] X.env = [(false, eval b X.env)] := by rfl) : DenI X tg (.Call (.Name "range" p) [a, b] [] pos) (itR2 A B) where
  val := fun {f es ms ms' ds} ft q => by
    unfold itR2 at q
    split at q
    · split at q
      · split at q
        · cases q; exact i_rng2 hg hm (ha.opD ft ‹_›) (hb.opD (ha.opF ft ‹_›) ‹_›) ‹_› he he2
        · cases q
      · cases q
    · cases q
  low := fun {es ms ms' ds} le lm q => by
    unfold itR2 at q
    split at q
    · split at q
      · split at q
        · cases q; exact opx2_low ha hb le lm ‹_› ‹_›
        · cases q
      · cases q
    · cases q
def itE (A : ED) : ID := fun es ms => match opx A es ms with
  | some (.v (.d (.lst ds)), m) => some (enums ds, m)
  | _ => none
theorem di_enum {tpos : Pos} {elts : List Expr} {kk : Nat} (hg : Gl X "enumerate") (hm : X.mg "enumerate" = none) (ha : Den X a A) (he : starEach [a] X.env = [(false, eval a X.env)] := by rfl) : DenI X (.Tuple elts kk tpos) (.Call (.Name "enumerate" p) [a] [] pos) (itE A) where
  val := fun {f es ms ms' ds} ft q => by
    unfold itE at q
    split at q
    · cases q; exact i_enum hg hm (ha.opD ft ‹_›) he
    · cases q
  low := fun {es ms ms' ds} le lm q => by
    unfold itE at q
    split at q
    · cases q; exact (ha.opL le lm ‹_›).2
    · cases q
def itZ (A B : ED) : ID := fun es ms => match opx A es ms with
  | some (.v (.d (.lst ds)), m1) => match opx B es m1 with
    | some (.v (.d (.lst cs)), m) => some (zips ds cs, m)
    | _ => none
  | _ => none
theorem di_zip {tpos : Pos} {elts : List Expr} {kk : Nat} (hg : Gl X "zip") (hm : X.mg "zip" = none) (ha : Den X a A) (hb : Den X b B) (he : starEach [a, b] X.env = (false, eval a X.env) :: starEach [b] X.env := by rfl) (he2 : starEach [b] X.env = (false, eval b X.env) :: starEach [] X.env := by rfl) (hpl : (backTo pos (starEach [b] X.env)).any (·.1) = false := by rfl) :
    DenI X (.Tuple elts kk tpos) (.Call (.Name "zip" p) [a, b] [] pos) (itZ A B) where
  val := fun {f es ms ms' ds} ft q => by
    unfold itZ at q
    split at q
    · split at q
      · cases q; exact i_zip hg hm (ha.opD ft ‹_›) (hb.opD (ha.opF ft ‹_›) ‹_›) he he2 hpl
      · cases q
    · cases q
  low := fun {es ms ms' ds} le lm q => by
    unfold itZ at q
    split at q
    · split at q
      · cases q; exact opx2_low ha hb le lm ‹_› ‹_›
      · cases q
    · cases q
/-! ### targets -/
/-- a target of a loop -/
def DenG (X : Cx) (tg : Expr) (G : GD) : Prop := GOk G ∧ TgOk X tg (fun d es es' => G d es = some es')
theorem dg_name {x : Str} {i : Nat} (nd : X.N.Nodup) (hi : X.N[i]? = some x) (hl : Loc X.env.scope x := by first | exact Or.inl rfl | exact Or.inr rfl) (hf : X.fn x = true ∨ X.env.scope.names.lookup x = some .local := by first | exact .inl rfl | exact .inr rfl) : DenG X (.Name x pos) (tg1 i) :=
  ⟨tg1_ok i, gName i, pg_name nd hi hl hf, fun as es ms σ H v d es' Q s r hb k => k _ (s.put (sv := .d d) r (Option.some.inj hb).symm)⟩
theorem dg_two {x y : Str} {i j : Nat} {p1 p2 : Pos} {kk : Nat} (hc : X.calm = true) (nd : X.N.Nodup) (hi : X.N[i]? = some x) (hj : X.N[j]? = some y) (hl : Loc X.env.scope x := by first | exact Or.inl rfl | exact Or.inr rfl) (hf : X.fn x = true ∨ X.env.scope.names.lookup x = some .local := by first | exact .inl rfl | exact .inr rfl)
    (hl2 : Loc X.env.scope y := by first | exact Or.inl rfl | exact Or.inr rfl) (hf2 : X.fn y = true ∨ X.env.scope.names.lookup y = some .local := by first | exact .inl rfl | exact .inr rfl)
    (h1 : (assignEach [.Name x p1, .Name y p2] X.env).length = 2 := by rfl) (h2 : (assignEach [.Name x p1, .Name y p2] X.env).findIdx? (·.1) = none := by rfl)
    (h3 : (assignEach [.Name x p1, .Name y p2] X.env).map (·.2) = assign (.Name x p1) X.env :: (assignEach [.Name y p2] X.env).map (·.2) := by rfl) (h4 : (assignEach [.Name y p2] X.env).map (·.2) = assign (.Name y p2) X.env :: (assignEach [] X.env).map (·.2) := by rfl) : DenG X (.Tuple [.Name x p1, .Name y p2] kk pos) (tg2 i j) := by
  refine ⟨tg2_ok i j, _, pg_tup (n := 2) hc (pgs_cons (pg_name (i := i) nd hi hl hf) (pgs_cons (pg_name (i := j) nd hj hl2 hf2) pgs_nil h4) h3) h1 h2, fun as es ms σ H v d es' Q s r hb k => ?_⟩
  replace hb : tg2 i j d es = some es' := hb
  unfold tg2 at hb
  split at hb
  · cases hb
    cases r with | tup hs hx =>
      cases hx with | cons r1 hx => cases hx with | cons r2 hx =>
        cases hx
        exact ⟨_, _, rfl, sqT_same hid_sub hs, rfl, _, _, rfl, _, _, rfl, rfl, k _ ((s.put (sv := .d _) r1 rfl).put (sv := .d _) r2 rfl)⟩
  · cases hb
/-- a target of a comprehension -/
def DenB (X : Cx) (scope : Scope) (tg : Expr) (vs : List Nat) (G : GD) : Prop := GOk G ∧ TgB X scope tg vs (fun d es es' => G d es = some es')
theorem db_name {x : Str} {i : Nat} (nd : X.N.Nodup) (hi : X.N[i]? = some x) (hl : Blk X scope fun Y => Loc Y.env.scope x) (hf : Blk X scope fun Y => Y.fn x = true ∨ Y.env.scope.names.lookup x = some .local) : DenB X scope (.Name x pos) [i] (tg1 i) :=
  ⟨tg1_ok i, gName i, fun s H C cl fp => pg_name (X := X.blk s H scope (compEnvC scope cl C X.env) fp) nd hi (hl s H C cl fp) (hf s H C cl fp), fun as es ms σ H v d es' Q s r hb k => k _ (s.put (sv := .d d) r (Option.some.inj hb).symm) (wipe_set (List.mem_singleton.mpr rfl))⟩
theorem db_two {x y : Str} {i j : Nat} {p1 p2 : Pos} {kk : Nat} (hc : X.calm = true) (nd : X.N.Nodup) (hi : X.N[i]? = some x) (hj : X.N[j]? = some y) (hl : Blk X scope fun Y => Loc Y.env.scope x) (hf : Blk X scope fun Y => Y.fn x = true ∨ Y.env.scope.names.lookup x = some .local)
    (hl2 : Blk X scope fun Y => Loc Y.env.scope y) (hf2 : Blk X scope fun Y => Y.fn y = true ∨ Y.env.scope.names.lookup y = some .local)
    (h1 : Blk X scope fun Y => (assignEach [.Name x p1, .Name y p2] Y.env).length = 2) (h2 : Blk X scope fun Y => (assignEach [.Name x p1, .Name y p2] Y.env).findIdx? (·.1) = none)
    (h3 : Blk X scope fun Y => (assignEach [.Name x p1, .Name y p2] Y.env).map (·.2) = assign (.Name x p1) Y.env :: (assignEach [.Name y p2] Y.env).map (·.2)) (h4 : Blk X scope fun Y => (assignEach [.Name y p2] Y.env).map (·.2) = assign (.Name y p2) Y.env :: (assignEach [] Y.env).map (·.2)) :
    DenB X scope (.Tuple [.Name x p1, .Name y p2] kk pos) [i, j] (tg2 i j) := by
  refine ⟨tg2_ok i j, gTup X.K 2 (gCons (gName i) (gCons (gName j) gNil)), fun s H C cl fp => pg_tup (X := X.blk s H scope (compEnvC scope cl C X.env) fp) (n := 2) hc (pgs_cons (pg_name (i := i) nd hi (hl s H C cl fp) (hf s H C cl fp)) (pgs_cons (pg_name (i := j) nd hj (hl2 s H C cl fp) (hf2 s H C cl fp)) pgs_nil (h4 s H C cl fp)) (h3 s H C cl fp)) (h1 s H C cl fp) (h2 s H C cl fp), fun as es ms σ H v d es' Q s r hb k => ?_⟩
  replace hb : tg2 i j d es = some es' := hb
  unfold tg2 at hb
  split at hb
  · cases hb
    cases r with | tup hs hx =>
      cases hx with | cons r1 hx => cases hx with | cons r2 hx =>
        cases hx
        refine ⟨_, _, rfl, sqT_same hid_sub hs, rfl, _, _, rfl, _, _, rfl, rfl, k _ ((s.put (sv := .d _) r1 rfl).put (sv := .d _) r2 rfl) ?_⟩
        rw [wipe_set (by simp), wipe_set (by simp)]
  · cases hb
/-! ### comprehensions -/
def yesT : TD := fun _ ms => some (true, ms)
theorem dts_nil : DenTs X [] yesT where
  val := fun ft q => by
    cases q
    exact ⟨fun pins s σ H Q I ⟨as, sr, k⟩ => pts_nil.run pins s σ H Q I (k H sr.mem (Same.refl _))⟩
  low := fun le lm q => by cases q; exact ⟨lm, rfl⟩
theorem dts_one (h : DenT X c T) : DenTs X [c] T := ⟨fun ft q => pts_one (h.val ft q), h.low⟩
def lcGo (G : GD) (T : TD) (A : ED) (es0 : Es) : List Dt → List Sv → Ms → Option (List Sv × Ms)
  | [], acc, ms => some (acc, ms)
  | d :: ds, acc, ms => match G d es0 with
    | some es1 => match T es1 ms with
      | some (true, m1) => match opx A es1 m1 with
        | some (.v s, m2) => lcGo G T A es0 ds (acc ++ [s]) m2
        | _ => none
      | some (false, m1) => lcGo G T A es0 ds acc m1
      | none => none
    | none => none
def lc (J : ID) (G : GD) (own : List Nat) (T : TD) (A : ED) : ED := fun es ms => match J es ms with
  | some (ds, m1) => if ds.length ≤ 100000 then match lcGo G T A (wipeE es own) ds [] m1 with
    | some (ss, m2) => some (.n ss, m2)
    | none => none
    else none
  | none => none
theorem wipeE_low {n : Nat} {es : Es} : ∀ (vs : List Nat), LowE n es → LowE n (wipeE es vs)
  | [], h => h
  | v :: vs, h => (wipeE_low vs h).setN
theorem wipeE_es {f : Fr} {es : Es} : ∀ (vs : List Nat), f.es (wipeE es vs) = wipeE (f.es es) vs
  | [] => rfl
  | v :: vs => by
    show f.es ((wipeE es vs).set v none) = (wipeE (f.es es) vs).set v none
    rw [Fr.es_set, wipeE_es vs]
    rfl
theorem map_low {f : Fr} {ss : List Sv} {n : Nat} (ok : f.ok) (h : Low f.ks.length ss) (e : n = f.out.length) : Low n (ss.map f.s) := fun k hk => by
  obtain ⟨s, hs, q⟩ := List.mem_map.mp hk
  cases s with
  | m j =>
    have hj := h j hs
    have : f.s (.m j) = .m f.ks[j] := by show (match f.ks[j]? with | some k => Sv.m k | none => .u) = _; rw [List.getElem?_eq_getElem hj]
    rw [this] at q
    cases q
    rw [e]
    exact ok.lt _ (List.getElem_mem hj)
  | d x => cases q
  | x a c d y => cases q
  | u => cases q
theorem cell_low {f : Fr} {c : Cell} {n : Nat} (ok : f.ok) (h : Low f.ks.length c.all) (e : n = f.out.length) : Low n (c.map f.s).all := by
  cases c with
  | l ss => exact map_low ok h e
  | o C fs =>
    have h' : Low f.ks.length (fs.map fun p => p.2) := h
    have := map_low ok h' e
    show Low n ((fs.map _).map _)
    rw [List.map_map]
    rw [List.map_map] at this
    exact this
theorem ms_low {f : Fr} {es es' : Es} {m m1 : Ms} (ft : Fit f es m1) (ft' : Fit f es' m) (h : Lows (f.ms m1).length (f.ms m1)) : Lows (f.ms m1).length (f.ms m) := fun j c hj => by
  rw [Fr.len] at h ⊢
  by_cases q : j ∈ f.ks
  · obtain ⟨i, hi⟩ := List.getElem?_of_mem q
    rw [Fr.get ft'.ok ft'.len hi] at hj
    cases hm : m[i]? with
    | none => rw [hm] at hj; cases hj
    | some o =>
      rw [hm] at hj
      cases o with
      | none => cases hj
      | some c0 =>
        cases hj
        exact cell_low ft'.ok (by rw [ft'.len]; exact ft'.lm i c0 hm) rfl
  · unfold Fr.ms at hj
    rw [setAll_ne q] at hj
    refine h j c ?_
    unfold Fr.ms
    rw [setAll_ne q]
    exact hj
theorem lcGo_low (hT : Blk X scope fun Y => DenTs Y ifs T) (hA : Blk X scope fun Y => Den Y elt A) (hG : GOk G) {es0 : Es} : ∀ {ds : List Dt} {acc ss : List Sv} {ms ms' : Ms}, LowE ms.length es0 → Lows ms.length ms → Low ms.length acc → lcGo G T A es0 ds acc ms = some (ss, ms') → Low ms.length ss ∧ Lows ms.length ms' ∧ ms'.length = ms.length
  | [], acc, ss, ms, ms', le, lm, la, h => by cases h; exact ⟨la, lm, rfl⟩
  | d :: ds, acc, ss, ms, ms', le, lm, la, h => by
    unfold lcGo at h
    split at h
    · rename_i es1 hg
      have le1 := hG.low hg le
      split at h
      · have l1 := (hT X.s_0 X.H_0 default [] []).low le1 lm ‹_›
        split at h
        · have l2 := (hA X.s_0 X.H_0 default [] []).opL (by rw [l1.2]; exact le1) (by rw [l1.2]; exact l1.1) ‹_›
          have e2 := l2.2.2.trans l1.2
          have := lcGo_low hT hA hG (by rw [e2]; exact le) (by rw [e2, ← l1.2]; exact l2.2.1) (by rw [e2]; exact Low.app la (Low.cons (fun k e => by rw [← l1.2]; exact l2.1 k (by rw [e])) (low_nil _))) h
          rw [e2] at this
          exact this
        · cases h
      · have l1 := (hT X.s_0 X.H_0 default [] []).low le1 lm ‹_›
        have := lcGo_low hT hA hG (by rw [l1.2]; exact le) (by rw [l1.2]; exact l1.1) (by rw [l1.2]; exact la) h
        rw [l1.2] at this
        exact this
      · cases h
    · cases h
theorem lcH_of (hG : GOk G) (hT : Blk X scope fun Y => DenTs Y ifs T) (hA : Blk X scope fun Y => Den Y elt A) {vs : List Nat} {ds : List Dt} {res : List Sv} {m1 m2 : Ms} (ft : Fit f es m1) (h : lcGo G T A (wipeE es vs) ds [] m1 = some (res, m2)) :
    LcH X scope tg elt ifs vs (wipeE (f.es es) vs) (f.ms m1) ds (res.map f.s) (f.ms m2) (fun d es es' => G d es = some es') := by
  have ft0 : Fit f (wipeE es vs) m1 := ⟨ft.ok, ft.len, wipeE_low vs ft.le, ft.lm⟩
  refine ⟨fun i acc ms' => ∃ ac m, acc = ac.map f.s ∧ ms' = f.ms m ∧ Fit f (wipeE es vs) m ∧ m.length = m1.length ∧ Low m.length ac ∧ lcGo G T A (wipeE es vs) (ds.drop i) ac m = some (res, m2), ⟨[], m1, rfl, rfl, ft0, rfl, low_nil _, by simpa using h⟩, fun i d acc ms' hd hI => ?_, fun acc ms' hI => ?_, fun i acc ms' hl hI => ?_⟩
  · obtain ⟨ac, m, rfl, rfl, fm, em, la, hh⟩ := hI
    have hlt := (List.getElem?_eq_some_iff.mp hd).1
    have e1 : ds.drop i = d :: ds.drop (i + 1) := by
      rw [List.drop_eq_getElem_cons hlt, ← (List.getElem?_eq_some_iff.mp hd).2]
    rw [e1] at hh
    unfold lcGo at hh
    split at hh
    · rename_i es1 hg
      refine ⟨f.es es1, by rw [← wipeE_es]; exact hG.map hg, ?_⟩
      have le1 := hG.low hg fm.le
      have fe : Fit f es1 m := ⟨fm.ok, fm.len, le1, fm.lm⟩
      let f' := f.more [some (.l (ac.map f.s))]
      have fe' : Fit f' es1 m := ⟨Fr.more_ok fm.ok _, fm.len, le1, fm.lm⟩
      split at hh
      · rename_i mm ht
        have l1 := (hT X.s_0 X.H_0 default [] []).low le1 fm.lm ht
        have fe2 : Fit f' es1 mm := fe'.go l1
        refine ⟨true, f.ms mm, fun s H C cl fp => ?_, fun _ => ?_, fun z => Bool.noConfusion z⟩
        · have := (hT s H C cl fp).val fe' ht
          rw [Fr.more_ms fm.ok, Fr.more_ms fm.ok] at this
          exact this
        · split at hh
          · rename_i s m3 ha
            have l2 := (hA X.s_0 X.H_0 default [] []).opL (by rw [l1.2]; exact le1) (by rw [l1.2]; exact l1.1) ha
            have e2 := l2.2.2.trans l1.2
            refine ⟨f.s s, f.ms m3, fun s0 H C cl fp => ?_, ac ++ [s], m3, by rw [List.map_append]; rfl, rfl, fm.go ⟨by rw [← l1.2]; exact l2.2.1, e2⟩, e2.trans em, ?_, hh⟩
            · have := (hA s0 H C cl fp).opV fe2 ha
              rw [Fr.more_ms fm.ok, Fr.more_ms fm.ok] at this
              exact this
            · rw [e2]
              exact Low.app la (Low.cons (fun k e => by rw [← l1.2]; exact l2.1 k (by rw [e])) (low_nil _))
          · cases hh
      · rename_i mm ht
        have l1 := (hT X.s_0 X.H_0 default [] []).low le1 fm.lm ht
        refine ⟨false, f.ms mm, fun s H C cl fp => ?_, fun z => Bool.noConfusion z, fun _ => ⟨ac, mm, rfl, rfl, fm.go l1, l1.2.trans em, by rw [l1.2]; exact la, hh⟩⟩
        have := (hT s H C cl fp).val fe' ht
        rw [Fr.more_ms fm.ok, Fr.more_ms fm.ok] at this
        exact this
      · cases hh
    · cases hh
  · obtain ⟨ac, m, rfl, rfl, fm, em, la, hh⟩ := hI
    rw [List.drop_length] at hh
    cases hh
    exact ⟨rfl, rfl⟩
  · obtain ⟨ac, m, rfl, rfl, fm, em, la, hh⟩ := hI
    exact ⟨map_low fm.ok (by rw [fm.len]; exact la) (Fr.len f m1), ms_low ft fm hl⟩
theorem lc_eq {own : List Nat} {q : Pv} (h : lc J G own T A es ms = some (q, ms')) : ∃ ds m1 ss, J es ms = some (ds, m1) ∧ ds.length ≤ 100000 ∧ lcGo G T A (wipeE es own) ds [] m1 = some (ss, ms') ∧ q = .n ss := by
  unfold lc at h
  split at h
  · split at h
    · split at h
      · cases h; exact ⟨_, _, _, ‹_›, ‹_›, ‹_›, rfl⟩
      · cases h
    · cases h
  · cases h
theorem lc_low {own : List Nat} (hJ : DenI X tg iter J) (hG : GOk G) (hT : Blk X scope fun Y => DenTs Y ifs T) (hA : Blk X scope fun Y => Den Y elt A) {q : Pv} (le : LowE ms.length es) (lm : Lows ms.length ms) (h : lc J G own T A es ms = some (q, ms')) : LowP ms.length q ∧ Lows ms.length ms' ∧ ms'.length = ms.length := by
  obtain ⟨ds, m1, ss, h1, h2, h3, rfl⟩ := lc_eq h
  have l1 := hJ.low le lm h1
  have := lcGo_low hT hA hG (by rw [l1.2]; exact wipeE_low own le) (by rw [l1.2]; exact l1.1) (low_nil _) h3
  rw [l1.2] at this
  exact this
theorem den_lc (hc : X.calm = true) (nd : X.N.Nodup) (hJ : DenI X tg iter J) (ok : BlkOk X.N X.env.scope scope own) (hB : DenB X scope tg (own.map (·.2)) G) (hT : Blk X scope fun Y => DenTs Y ifs T) (hA : Blk X scope fun Y => Den Y elt A)
    (hs : ∀ x, foldedSetIterable iter X.env x = pure x := by intro _; rfl) : Den X (.ListComp elt [⟨tg, iter, ifs, 0⟩] scope pos) (lc J G (own.map (·.2)) T A) where
  val := fun ft q => by obtain ⟨ds, m1, ss, h1, h2, h3, h4⟩ := lc_eq q; cases h4
  new := fun {f es ms ms' s} ft q => by
    obtain ⟨ds, m1, ss, h1, h2, h3, h4⟩ := lc_eq q
    cases h4
    have ft1 := ft.go (hJ.low ft.le ft.lm h1)
    exact n_lc hc nd (hJ.val ft h1) ok h2 hB.2 (lcH_of hB.1 hT hA ft1 h3) hs
  exc := fun tk ft q => by obtain ⟨ds, m1, ss, h1, h2, h3, h4⟩ := lc_eq q; cases h4
  low := fun le lm q => lc_low hJ hB.1 hT hA le lm q
end
end Dn
/-! # Dn6: statements -/
namespace Dn
open PySem PySem.Spec L2 Dv
abbrev SD := Es → Ms → Option Out
/-- what a frame of a def keeps of its caller -/
structure Bs where
  n : Nat
  p : Nat
  O : Ms
  k0 : List Nat
structure FrB (b : Bs) (f : Fr) : Prop where
  out : f.out.take b.n = b.O
  ks : f.ks.take b.p = b.k0
  nl : b.n ≤ f.out.length
  pl : b.p ≤ f.ks.length
  up : ∀ (i k : Nat), b.p ≤ i → f.ks[i]? = some k → b.n ≤ k
  low : ∀ (i : Nat) (c : Cell), f.out[i]? = some (some c) → Low b.n c.all
def Fr.o (f : Fr) : Out → Out
  | .nx es ms => .nx (f.es es) (f.ms ms)
  | .rt d ms => .rt d (f.ms ms)
  | .rn k ms => .rn ((f.ks[k]?).getD 0) (f.ms ms)
  | .bk es ms => .bk (f.es es) (f.ms ms)
  | .ct es ms => .ct (f.es es) (f.ms ms)
  | .rs x es ms => .rs x (f.es es) (f.ms ms)
def OutFit (f : Fr) : Out → Prop
  | .nx es ms => Fit f es ms
  | .rt _ ms => Fit f [] ms
  | .rn k ms => Fit f [] ms ∧ k < ms.length
  | .bk es ms => Fit f es ms
  | .ct es ms => Fit f es ms
  | .rs _ es ms => Fit f es ms
def OutF (b : Bs) (o : Out) : Out → Prop := fun o' => ∃ f, FrB b f ∧ OutFit f o ∧ o' = f.o o
theorem FrB.push {b : Bs} {f : Fr} (h : FrB b f) : FrB b f.push where
  out := by show (f.out ++ [none]).take b.n = _; rw [List.take_append_of_le_length h.nl]; exact h.out
  ks := by show (f.ks ++ [f.out.length]).take b.p = _; rw [List.take_append_of_le_length h.pl]; exact h.ks
  nl := by show b.n ≤ (f.out ++ [none]).length; rw [List.length_append]; exact Nat.le_trans h.nl (Nat.le_add_right _ _)
  pl := by show b.p ≤ (f.ks ++ [f.out.length]).length; rw [List.length_append]; exact Nat.le_trans h.pl (Nat.le_add_right _ _)
  up := fun i k hi hk => by
    replace hk : (f.ks ++ [f.out.length])[i]? = some k := hk
    by_cases c : i < f.ks.length
    · rw [List.getElem?_append_left c] at hk; exact h.up i k hi hk
    · rw [List.getElem?_append_right (Nat.le_of_not_lt c)] at hk
      have := List.mem_of_getElem? hk
      rw [List.mem_singleton.mp this]
      exact h.nl
  low := fun i c hi => by
    replace hi : (f.out ++ [none])[i]? = some (some c) := hi
    by_cases q : i < f.out.length
    · rw [List.getElem?_append_left q] at hi; exact h.low i c hi
    · rw [List.getElem?_append_right (Nat.le_of_not_lt q)] at hi
      have := List.mem_of_getElem? hi
      simp at this
/-- P: how many things of its caller's a def is passed at most -/
structure DenS (X : Cx) (P : Nat) (l : List Stmt) (S : SD) : Prop where
  run : ∀ {W : WX} {b : Bs} {f : Fr} {es : Es} {ms : Ms} {o : Out}, Takes X W → PassesOwn (model X.prog X.w) X.A X.env X.xe → FrB b f → Fit f es ms → b.p ≤ P → S es ms = some o → PSs X l (tS X.K b.n W (f.es es) (f.ms ms) (OutF b o))
section
variable {X : Cx} {P : Nat} {e a b c tg elt iter : Expr} {A B C E : ED} {T U : TD} {J : ID} {G : GD} {S S1 S2 k : SD} {f : Fr} {es es1 : Es} {ms ms' ms1 ms2 : Ms} {p pos : Pos} {ifs : List Expr} {scope : Scope} {own : List (Str × Nat)} {N : List Str} {l u v rest body : List Stmt} {W : WX} {n : Nat} {sv : Sv} {Q : Out → Prop}
def done : SD := fun es ms => some (.nx es ms)
theorem ds_nil : DenS X P [] done := ⟨fun {W b f es ms o} tk hpo fb ft hp q => by
  cases q
  exact s_nil ⟨f, fb, ft, rfl⟩⟩
/-! ### x = e -/
theorem s_asgI {nm : Str} {i : Nat} {p' : Pos} (nd : X.N.Nodup) (hi : X.N[i]? = some nm) (he : PE X e (tD X.K es ms sv ms1)) (k : PSs X rest (tS X.K n W (es.set i (some sv)) ms1 Q)) (hl : Loc X.env.scope nm)
    (hs : swapsWith e (some (.Name nm p')) pos.line X.env = pure false) (hf : X.fn nm = true ∨ X.env.scope.names.lookup nm = some .local) : PSs X (.Assign [.Name nm p'] e pos :: rest) (tS X.K n W es ms Q) :=
  s_cons (P' := fun o => o = .nx (es.set i (some sv)) ms1) (ps_set (i := i) nd hi hl he hs hf) (fun D σ H as s l kk => ⟨as, s, fun v H1 m1 e1 r1 => kk _ rfl as H1 (Stp.of l e1) _ ((s.step m1 e1).put r1 rfl)⟩) (fun o ho => by subst ho; exact k)
theorem s_asgXI {nm : Str} {i : Nat} {p' : Pos} {x : Xc} (nd : X.N.Nodup) (hi : X.N[i]? = some nm) (he : PE X e (tX X.K W es ms x ms1)) (kk : Q (.rs x es ms1)) (hl : Loc X.env.scope nm)
    (hs : swapsWith e (some (.Name nm p')) pos.line X.env = pure false) (hf : X.fn nm = true ∨ X.env.scope.names.lookup nm = some .local) : PSs X (.Assign [.Name nm p'] e pos :: rest) (tS X.K n W es ms Q) :=
  s_cons (P' := fun o => o = .rs x es ms1) (ps_set (i := i) nd hi hl he hs hf) (fun D σ H as s l kk => ⟨as, s, fun cls d H1 m1 e1 r1 => kk _ rfl as H1 (Stp.of l e1) σ cls d (s.step m1 e1) r1⟩) (fun o ho => by subst ho; exact kk)
theorem s_asgNI {nm : Str} {i : Nat} {p' : Pos} {ds : List Sv} (nd : X.N.Nodup) (hi : X.N[i]? = some nm) (he : PE X e (tN X.K es ms ds ms1)) (k : PSs X rest (tS X.K n W (es.set i (some (.m ms1.length))) (ms1 ++ [some (.l ds)]) Q)) (hl : Loc X.env.scope nm)
    (hs : swapsWith e (some (.Name nm p')) pos.line X.env = pure false) (hf : X.fn nm = true ∨ X.env.scope.names.lookup nm = some .local) : PSs X (.Assign [.Name nm p'] e pos :: rest) (tS X.K n W es ms Q) := by
  refine s_cons (P' := fun o => o = .nx (es.set i (some (.m ms1.length))) (ms1 ++ [some (.l ds)])) (ps_set (i := i) nd hi hl he hs hf) (fun D σ H as s l kk => ?_) (fun o ho => by subst ho; exact k)
  exact ⟨as, s, fun p H1 nw => kk _ rfl (as ++ [some p]) H1 (Stp.more l nw.free nw.same) _ ((s.hide nw).put (sv := .m ms1.length) nw.at rfl)⟩
def asg (i : Nat) (A : ED) (k : SD) : SD := fun es ms => match A es ms with
  | some (.v s, m) => k (es.set i (some s)) m
  | some (.n ss, m) => match unD ss with
    | some ds => k (es.set i (some (.d (.lst ds)))) m
    | none => none
  | some (.x x, m) => some (.rs x es m)
  | none => none
theorem Fit.put {i : Nat} {s : Sv} (h : Fit f es ms) (hs : ∀ k, s = .m k → k < ms.length) : Fit f (es.set i (some s)) ms := ⟨h.ok, h.len, h.le.set hs, h.lm⟩
theorem ds_asg {nm : Str} {i : Nat} {p' : Pos} (nd : X.N.Nodup) (hi : X.N[i]? = some nm) (he : Den X e A) (hk : DenS X P rest k) (hl : Loc X.env.scope nm := by first | exact Or.inl rfl | exact Or.inr rfl)
    (hs : swapsWith e (some (.Name nm p')) pos.line X.env = pure false := by rfl) (hf : X.fn nm = true ∨ X.env.scope.names.lookup nm = some .local := by first | exact .inl rfl | exact .inr rfl) : DenS X P (.Assign [.Name nm p'] e pos :: rest) (asg i A k) := ⟨fun {W b f es ms o} tk hpo fb ft hp q => by
  unfold asg at q
  split at q
  · rename_i s m h
    have lo := he.low ft.le ft.lm h
    have := hk.run tk hpo fb ((ft.go lo.2).put fun k e => by rw [lo.2.2]; exact lo.1 k e) hp q
    rw [Fr.es_set] at this
    exact s_asgI nd hi (he.val ft h) this hl hs hf
  · split at q
    · rename_i ss m h _ ds hu
      rw [unD_eq hu] at h
      have lo := he.low ft.le ft.lm h
      have := hk.run tk hpo fb ((ft.go lo.2).put (s := .d (.lst ds)) fun k e => by cases e) hp q
      rw [Fr.es_set] at this
      have pe := he.new ft h
      rw [Fr.map_d] at pe
      exact s_asgI nd hi (d_ofN pe) this hl hs hf
    · cases q
  · rename_i x m h
    cases q
    exact s_asgXI nd hi (he.exc tk ft h) ⟨f, fb, ft.go (he.low ft.le ft.lm h).2, rfl⟩ hl hs hf
  · cases q⟩
def asgN (i : Nat) (A : ED) (k : SD) : SD := fun es ms => match A es ms with
  | some (.n ss, m) => k (es.set i (some (.m m.length))) (m ++ [some (.l ss)])
  | some (.x x, m) => some (.rs x es m)
  | _ => none
/-- a new thing of the def's own -/
theorem Fit.pushed {i : Nat} {c : Cell} (h : Fit f es ms) (hc : Low ms.length c.all) : Fit f.push (es.set i (some (.m ms.length))) (ms ++ [some c]) := by
  have l1 : (ms ++ [some c]).length = ms.length + 1 := by simp
  refine ⟨Fr.push_ok h.ok, ?_, ?_, ?_⟩
  · show (f.ks ++ [f.out.length]).length = _
    rw [l1, List.length_append, h.len]
    rfl
  · rw [l1]
    exact (h.le.up (Nat.le_succ _)).set fun k e => by cases e; exact Nat.lt_succ_self _
  · rw [l1]
    exact Lows.up (Lows.app h.lm hc) (Nat.le_succ _)
theorem Fit.push_es {i : Nat} (h : Fit f es ms) : f.push.es (es.set i (some (.m ms.length))) = (f.es es).set i (some (.m (f.ms ms).length)) := by
  rw [Fr.es_set, Fr.push_es (by rw [h.len]; exact h.le)]
  have : f.push.s (.m ms.length) = .m (f.ms ms).length := by
    show (match (f.ks ++ [f.out.length])[ms.length]? with | some k => Sv.m k | none => .u) = _
    rw [← h.len, Fr.len]
    simp
  show (f.es es).set i (some (f.push.s (.m ms.length))) = _
  rw [this]
theorem Fit.push_ms {c : Cell} (h : Fit f es ms) (hc : Low ms.length c.all) : f.push.ms (ms ++ [some c]) = f.ms ms ++ [some (c.map f.s)] := Fr.push_ms h.ok h.len (by rw [h.len]; exact h.lm) (by rw [h.len]; exact hc)
theorem ds_asgN {nm : Str} {i : Nat} {p' : Pos} (nd : X.N.Nodup) (hi : X.N[i]? = some nm) (he : Den X e A) (hk : DenS X P rest k) (hl : Loc X.env.scope nm := by first | exact Or.inl rfl | exact Or.inr rfl)
    (hs : swapsWith e (some (.Name nm p')) pos.line X.env = pure false := by rfl) (hf : X.fn nm = true ∨ X.env.scope.names.lookup nm = some .local := by first | exact .inl rfl | exact .inr rfl) : DenS X P (.Assign [.Name nm p'] e pos :: rest) (asgN i A k) := ⟨fun {W b f es ms o} tk hpo fb ft hp q => by
  unfold asgN at q
  split at q
  · rename_i ss m h
    have lo := he.low ft.le ft.lm h
    have ft1 := ft.go lo.2
    have ls : Low m.length (Cell.l ss).all := by rw [lo.2.2]; exact lo.1
    have := hk.run tk hpo fb.push (ft1.pushed ls) hp q
    rw [ft1.push_es, ft1.push_ms ls] at this
    exact s_asgNI nd hi (he.new ft h) this hl hs hf
  · rename_i x m h
    cases q
    exact s_asgXI nd hi (he.exc tk ft h) ⟨f, fb, ft.go (he.low ft.le ft.lm h).2, rfl⟩ hl hs hf
  · cases q⟩
/-! ### x = [.. for ..] -/
theorem s_asgLcI {y : Str} {i : Nat} {py spos : Pos} {ds : List Dt} {rd : List Dt} {R : Dt → Es → Es → Prop} (hc : X.calm = true) (nd : X.N.Nodup) (hy : X.N[i]? = some y) (hi : PI X tg iter (iD X.K es ms ds ms1)) (ok : BlkOk X.N X.env.scope scope own) (hz : ds.length ≤ 100000) (ht : TgB X scope tg (own.map (·.2)) R)
    (h : LcH X scope tg elt ifs (own.map (·.2)) (wipeE es (own.map (·.2))) ms1 ds (rd.map Sv.d) ms2 R) (kk : PSs X rest (tS X.K n W (es.set i (some (.d (.lst rd)))) ms2 Q)) (hyl : X.env.scope.names.lookup y = some .local)
    (hsw : swapsWith (.ListComp elt [⟨tg, iter, ifs, 0⟩] scope pos) (some (.Name y py)) spos.line X.env = pure true) (hs : ∀ x, foldedSetIterable iter X.env x = pure x) :
    PSs X (.Assign [.Name y py] (.ListComp elt [⟨tg, iter, ifs, 0⟩] scope pos) spos :: rest) (tS X.K n W es ms Q) := by
  obtain ⟨g, hg, q⟩ := ht
  refine s_cons (P' := fun o => o = .nx (es.set i (some (.d (.lst rd)))) ms2) (ps_setLc (i := i) (own := own) hc nd hy hyl hsw hi ok hg pts_self pe_self hs) (fun D σ H as s l kk => ?_) (fun o ho => by subst ho; exact kk)
  exact lc_read hz q h σ H _ ⟨as, s, fun p H1 nw => by
    obtain ⟨m1, e1, vs, hv, r⟩ := nw.back
    exact kk _ rfl as H1 (Stp.of l (nw.same.trans e1)) _ ((s.step m1 (nw.same.trans e1)).put (sv := .d (.lst rd)) (.lst (.inl (.inl hv)) r.data) rfl)⟩
theorem s_asgLcNI {y : Str} {i : Nat} {py spos : Pos} {ds : List Dt} {res : List Sv} {R : Dt → Es → Es → Prop} (hc : X.calm = true) (nd : X.N.Nodup) (hy : X.N[i]? = some y) (hi : PI X tg iter (iD X.K es ms ds ms1)) (ok : BlkOk X.N X.env.scope scope own) (hz : ds.length ≤ 100000) (ht : TgB X scope tg (own.map (·.2)) R)
    (h : LcH X scope tg elt ifs (own.map (·.2)) (wipeE es (own.map (·.2))) ms1 ds res ms2 R) (kk : PSs X rest (tS X.K n W (es.set i (some (.m ms2.length))) (ms2 ++ [some (.l res)]) Q)) (hyl : X.env.scope.names.lookup y = some .local)
    (hsw : swapsWith (.ListComp elt [⟨tg, iter, ifs, 0⟩] scope pos) (some (.Name y py)) spos.line X.env = pure true) (hs : ∀ x, foldedSetIterable iter X.env x = pure x) :
    PSs X (.Assign [.Name y py] (.ListComp elt [⟨tg, iter, ifs, 0⟩] scope pos) spos :: rest) (tS X.K n W es ms Q) := by
  obtain ⟨g, hg, q⟩ := ht
  refine s_cons (P' := fun o => o = .nx (es.set i (some (.m ms2.length))) (ms2 ++ [some (.l res)])) (ps_setLc (i := i) (own := own) hc nd hy hyl hsw hi ok hg pts_self pe_self hs) (fun D σ H as s l kk => ?_) (fun o ho => by subst ho; exact kk)
  exact lc_read hz q h σ H _ ⟨as, s, fun p H1 nw => kk _ rfl (as ++ [some p]) H1 (Stp.more l nw.free nw.same) _ ((s.hide nw).put (sv := .m ms2.length) nw.at rfl)⟩
theorem ds_asgLc {y : Str} {i : Nat} {py spos : Pos} (hc : X.calm = true) (nd : X.N.Nodup) (hy : X.N[i]? = some y) (hJ : DenI X tg iter J) (ok : BlkOk X.N X.env.scope scope own) (hB : DenB X scope tg (own.map (·.2)) G) (hT : Blk X scope fun Y => DenTs Y ifs T) (hA : Blk X scope fun Y => Den Y elt A) (hk : DenS X P rest k)
    (hyl : X.env.scope.names.lookup y = some .local := by rfl) (hsw : swapsWith (.ListComp elt [⟨tg, iter, ifs, 0⟩] scope pos) (some (.Name y py)) spos.line X.env = pure true := by rfl) (hs : ∀ x, foldedSetIterable iter X.env x = pure x := by intro _; rfl) :
    DenS X P (.Assign [.Name y py] (.ListComp elt [⟨tg, iter, ifs, 0⟩] scope pos) spos :: rest) (asg i (lc J G (own.map (·.2)) T A) k) := ⟨fun {W b f es ms o} tk hpo fb ft hp q => by
  unfold asg at q
  split at q
  · rename_i s m h; obtain ⟨_, _, _, _, _, _, e⟩ := lc_eq h; cases e
  · split at q
    · rename_i ss m h _ ds hu
      rw [unD_eq hu] at h
      obtain ⟨ds0, m1, ss', h1, h2, h3, h4⟩ := lc_eq h
      cases h4
      have lo := lc_low (own := own.map (·.2)) hJ hB.1 hT hA ft.le ft.lm h
      have ft1 := ft.go (hJ.low ft.le ft.lm h1)
      have := hk.run tk hpo fb ((ft.go lo.2).put (s := .d (.lst ds)) fun k e => by cases e) hp q
      rw [Fr.es_set] at this
      have hh := lcH_of (tg := tg) hB.1 hT hA ft1 h3
      rw [Fr.map_d] at hh
      exact s_asgLcI hc nd hy (hJ.val ft h1) ok h2 hB.2 hh this hyl hsw hs
    · cases q
  · rename_i x m h; obtain ⟨_, _, _, _, _, _, e⟩ := lc_eq h; cases e
  · cases q⟩
theorem ds_asgLcN {y : Str} {i : Nat} {py spos : Pos} (hc : X.calm = true) (nd : X.N.Nodup) (hy : X.N[i]? = some y) (hJ : DenI X tg iter J) (ok : BlkOk X.N X.env.scope scope own) (hB : DenB X scope tg (own.map (·.2)) G) (hT : Blk X scope fun Y => DenTs Y ifs T) (hA : Blk X scope fun Y => Den Y elt A) (hk : DenS X P rest k)
    (hyl : X.env.scope.names.lookup y = some .local := by rfl) (hsw : swapsWith (.ListComp elt [⟨tg, iter, ifs, 0⟩] scope pos) (some (.Name y py)) spos.line X.env = pure true := by rfl) (hs : ∀ x, foldedSetIterable iter X.env x = pure x := by intro _; rfl) :
    DenS X P (.Assign [.Name y py] (.ListComp elt [⟨tg, iter, ifs, 0⟩] scope pos) spos :: rest) (asgN i (lc J G (own.map (·.2)) T A) k) := ⟨fun {W b f es ms o} tk hpo fb ft hp q => by
  unfold asgN at q
  split at q
  · rename_i ss m h
    obtain ⟨ds0, m1, ss', h1, h2, h3, h4⟩ := lc_eq h
    cases h4
    have lo := lc_low (own := own.map (·.2)) hJ hB.1 hT hA ft.le ft.lm h
    have ft1 := ft.go (hJ.low ft.le ft.lm h1)
    have ft2 := ft.go lo.2
    have ls : Low m.length (Cell.l ss).all := by rw [lo.2.2]; exact lo.1
    have := hk.run tk hpo fb.push (ft2.pushed ls) hp q
    rw [ft2.push_es, ft2.push_ms ls] at this
    exact s_asgLcNI hc nd hy (hJ.val ft h1) ok h2 hB.2 (lcH_of hB.1 hT hA ft1 h3) this hyl hsw hs
  · rename_i x m h; obtain ⟨_, _, _, _, _, _, e⟩ := lc_eq h; cases e
  · cases q⟩
/-! ### x[i] = e -/
def putS (A B E : ED) (k : SD) : SD := fun es ms => match opx E es ms with
  | some (.v s, m1) => match opx A es m1 with
    | some (.v (.m j), m2) => match opx B es m2 with
      | some (.v (.d (.int i)), m3) => match cellL m3 j with
        | some ss => match ixN ss.length i with
          | some q => k es (m3.set j (some (.l (ss.set q s))))
          | none => none
        | none => none
      | _ => none
    | _ => none
  | _ => none
theorem low_set {n : Nat} {ss : List Sv} {s : Sv} {q : Nat} (h : Low n ss) (hs : ∀ k, s = .m k → k < n) : Low n (ss.set q s) := fun k hk => by
  rcases List.mem_or_eq_of_mem_set hk with z | z
  · exact h k z
  · exact hs k z.symm
theorem ds_put {sp : Pos} (he : Den X e E) (ha : Den X a A) (hb : Den X b B) (hk : DenS X P rest k)
    (hs : swapsWithSole [.Subscript a b sp] e pos.line X.env = pure false := by rfl) (hs2 : swappedStores [.Subscript a b sp] e X.env = pure none := by rfl) (hs3 : (assignEach [.Subscript a b sp] X.env).map (·.2) = [assign (.Subscript a b sp) X.env] := by rfl)
    (hsub : ∀ v : Value, assign (a.Subscript b sp) X.env v = (do
      let ov ← holding [v] (eval a X.env)
      let iv ← holding [v, ov] (eval b X.env)
      standAt sp
      holding [v, ov, iv] (setItem ov iv v)
      release [v, ov, iv] []) := by intro _; rfl) : DenS X P (.Assign [.Subscript a b sp] e pos :: rest) (putS A B E k) := ⟨fun {W b' f es ms o} tk hpo fb ft hp q => by
  unfold putS at q
  split at q
  · rename_i s m1 h1
    split at q
    · rename_i j m2 h2
      split at q
      · rename_i i m3 h3
        split at q
        · rename_i ss h4
          split at q
          · rename_i qq h5
            have l1 := he.opL ft.le ft.lm h1
            have ft1 := he.opF ft h1
            have l2 := ha.opL ft1.le ft1.lm h2
            have ft2 := ha.opF ft1 h2
            have l3 := hb.opL ft2.le ft2.lm h3
            have ft3 := hb.opF ft2 h3
            obtain ⟨kk, g1, g2, g3⟩ := ft3.cell (cellL_eq h4)
            have lj : j < ms.length := by rw [← l1.2.2]; exact l2.1 j rfl
            have e3 : m3.length = ms.length := l3.2.2.trans (l2.2.2.trans l1.2.2)
            have ft4 : Fit f es (m3.set j (some (.l (ss.set qq s)))) := ft3.go ⟨Lows.set ft3.lm (low_set (ft3.lm _ _ (cellL_eq h4)) fun k e => by rw [e3]; exact l1.1 k (by rw [e])), List.length_set⟩
            have := hk.run tk hpo fb ft4 hp q
            rw [Fr.set ft3.ok ft3.len g1] at this
            have pa := ha.opV ft1 h2
            rw [g2] at pa
            refine s_put (he.opV ft h1) pa (hb.opV ft2 h3) g3 (j := qq) (by rw [List.length_map]; exact h5) ?_ hs hs2 hs3 hsub
            rw [← List.map_set]
            exact this
          · cases q
        · cases q
      · cases q
    · cases q
  · cases q⟩
/-! ### x.append(e), x.insert(i, e) -/
def appS (A E : ED) (k : SD) : SD := fun es ms => match opx A es ms with
  | some (.v (.m j), m1) => match opx E es m1 with
    | some (.v s, m2) => match cellL m1 j, cellL m2 j with
      | some _, some ss => if ss.length < 100000 then k es (m2.set j (some (.l (ss ++ [s])))) else none
      | _, _ => none
    | _ => none
  | _ => none
theorem s_appendI {i : Nat} {d : Sv} {ds ds1 : List Sv} {ap cp : Pos} (ho : PE X a (tD X.K es ms (.m i) ms1)) (he : PE X e (tD X.K es ms1 d ms2)) (hm : ms2[i]? = some (some (.l ds))) (hz : ds.length < 100000) (hm1 : ms1[i]? = some (some (.l ds1)))
    (kk : PSs X rest (tS X.K n W es (ms2.set i (some (.l (ds ++ [d])))) Q))
    (hb : attributeBase a "append" X.env (eval a X.env) = eval a X.env)
    (h1 : ((((backTo cp (starEach [e] X.env)).all fun x => !x.1) && (backToKw cp (keywordEach [] X.env)).all fun x => x.1.isSome) && decide (([e].length + ([] : List Keyword).length + if ([] : List Keyword).isEmpty = true then 0 else 1) < 30)) = true)
    (h2 : (ap.endLine == cp.line) = true) (h3 : starEach [e] X.env = (false, eval e X.env) :: starEach [] X.env) (h4 : (backTo cp (starEach [] X.env)).any (·.1) = false) (hs : swapsWith (.Call (.Attribute a "append" ap) [e] [] cp) none pos.line X.env = pure false) :
    PSs X (.Expr (.Call (.Attribute a "append" ap) [e] [] cp) pos :: rest) (tS X.K n W es ms Q) :=
  s_cons (P' := fun o => o = .nx es (ms2.set i (some (.l (ds ++ [d]))))) (ps_expr (pe_bm PySem.F.plainAttrs_list PySem.F.slot_list_append PySem.F.type_list_append mt_append ho (pa_cons he pa_nil h3) hb h1 h2 h3 h4) hs) (fun D σ H as s l kk => ⟨as, s, fun u H2 m2 e2 r2 => by
    obtain ⟨q, g1, rfl⟩ := r2
    obtain ⟨vsa, ka2, ka3⟩ := m2.list g1 hm1
    refine ⟨.inl ⟨rfl, vsa, .inl (.inl ka2)⟩, as, s.step m2 e2, fun v H3 m3 e3 r3 => ?_⟩
    obtain ⟨vs', k2, k3⟩ := m3.list g1 hm
    refine ⟨q, vs', v, rfl, rfl, k2, by rw [k3.len]; exact Nat.lt_of_lt_of_le hz (by decide), ?_⟩
    have z := m3.put g1 (k3.app (.cons r3 .nil))
    have e4 := (e2.trans e3).trans z.2
    exact kk _ rfl as _ (Stp.of l e4) σ (s.step z.1 e4)⟩) (fun o ho => by subst ho; exact kk)
theorem ds_app {ap cp : Pos} (ha : Den X a A) (he : Den X e E) (hk : DenS X P rest k) (hb : attributeBase a "append" X.env (eval a X.env) = eval a X.env := by rfl)
    (h1 : ((((backTo cp (starEach [e] X.env)).all fun x => !x.1) && (backToKw cp (keywordEach [] X.env)).all fun x => x.1.isSome) && decide (([e].length + ([] : List Keyword).length + if ([] : List Keyword).isEmpty = true then 0 else 1) < 30)) = true := by rfl)
    (h2 : (ap.endLine == cp.line) = true := by rfl) (h3 : starEach [e] X.env = (false, eval e X.env) :: starEach [] X.env := by rfl) (h4 : (backTo cp (starEach [] X.env)).any (·.1) = false := by rfl) (hs : swapsWith (.Call (.Attribute a "append" ap) [e] [] cp) none pos.line X.env = pure false := by rfl) :
    DenS X P (.Expr (.Call (.Attribute a "append" ap) [e] [] cp) pos :: rest) (appS A E k) := ⟨fun {W b' f es ms o} tk hpo fb ft hp q => by
  unfold appS at q
  split at q
  · rename_i j m1 hh1
    split at q
    · rename_i s m2 hh2
      split at q
      · rename_i s1 ss g1 g2
        split at q
        · rename_i hz
          have l1 := ha.opL ft.le ft.lm hh1
          have ft1 := ha.opF ft hh1
          have l2 := he.opL ft1.le ft1.lm hh2
          have ft2 := he.opF ft1 hh2
          obtain ⟨k1, i1, i2, i3⟩ := ft1.cell (cellL_eq g1)
          obtain ⟨kk, j1, j2, j3⟩ := ft2.cell (cellL_eq g2)
          have ek : k1 = kk := Option.some.inj (i1.symm.trans j1)
          subst ek
          have ft3 : Fit f es (m2.set j (some (.l (ss ++ [s])))) := ft2.go ⟨Lows.set ft2.lm (Low.app (ft2.lm _ _ (cellL_eq g2)) (Low.cons (fun k e => by rw [l2.2.2]; exact l2.1 k (by rw [e])) (low_nil _))), List.length_set⟩
          have := hk.run tk hpo fb ft3 hp q
          rw [Fr.set ft2.ok ft2.len j1] at this
          have pa := ha.opV ft hh1
          rw [i2] at pa
          refine s_appendI pa (he.opV ft1 hh2) j3 (by rw [List.length_map]; exact hz) i3 ?_ hb h1 h2 h3 h4 hs
          have e1 : (Cell.l (ss ++ [s])).map f.s = .l (ss.map f.s ++ [f.s s]) := by show Cell.l ((ss ++ [s]).map f.s) = _; rw [List.map_append]; rfl
          rw [← e1]
          exact this
        · cases q
      · cases q
    · cases q
  · cases q⟩
def insS (A B E : ED) (k : SD) : SD := fun es ms => match opx A es ms with
  | some (.v (.m j), m1) => match opx B es m1 with
    | some (.v (.d (.int i)), m2) => match opx E es m2 with
      | some (.v s, m3) => match cellL m1 j, cellL m3 j with
        | some _, some ss => if ss.length < 100000 ∧ 0 ≤ i ∧ i < 2 ^ 63 then k es (m3.set j (some (.l (ss.take i.toNat ++ [s] ++ ss.drop i.toNat)))) else none
        | _, _ => none
      | _ => none
    | _ => none
  | _ => none
theorem ArR.take {K : PySem.W.Frag} {as : As} {H : Hp} : ∀ {vs : List V} {ss : List Sv} (n : Nat), ArR K as H vs ss → ArR K as H (vs.take n) (ss.take n)
  | _, _, 0, _ => .nil
  | _, _, _ + 1, .nil => .nil
  | _, _, n + 1, .cons r t => .cons r (ArR.take n t)
theorem ArR.drop {K : PySem.W.Frag} {as : As} {H : Hp} : ∀ {vs : List V} {ss : List Sv} (n : Nat), ArR K as H vs ss → ArR K as H (vs.drop n) (ss.drop n)
  | _, _, 0, r => r
  | _, _, _ + 1, .nil => .nil
  | _, _, n + 1, .cons r t => ArR.drop n t
theorem s_insI {j : Nat} {i : Int} {d : Sv} {ds ds1 : List Sv} {ap cp : Pos} (ho : PE X a (tD X.K es ms (.m j) ms1)) (hbb : PE X b (tD X.K es ms1 (.d (.int i)) ms2)) (he : PE X e (tD X.K es ms2 d ms')) (hm : ms'[j]? = some (some (.l ds))) (hz : ds.length < 100000) (h0 : 0 ≤ i ∧ i < 2 ^ 63) (hm1 : ms1[j]? = some (some (.l ds1)))
    (kk : PSs X rest (tS X.K n W es (ms'.set j (some (.l (ds.take i.toNat ++ [d] ++ ds.drop i.toNat)))) Q))
    (hb : attributeBase a "insert" X.env (eval a X.env) = eval a X.env)
    (h1 : ((((backTo cp (starEach [b, e] X.env)).all fun x => !x.1) && (backToKw cp (keywordEach [] X.env)).all fun x => x.1.isSome) && decide (([b, e].length + ([] : List Keyword).length + if ([] : List Keyword).isEmpty = true then 0 else 1) < 30)) = true)
    (h2 : (ap.endLine == cp.line) = true) (h3 : starEach [b, e] X.env = (false, eval b X.env) :: starEach [e] X.env) (h3' : starEach [e] X.env = (false, eval e X.env) :: starEach [] X.env) (h4 : (backTo cp (starEach [e] X.env)).any (·.1) = false) (hs : swapsWith (.Call (.Attribute a "insert" ap) [b, e] [] cp) none pos.line X.env = pure false) :
    PSs X (.Expr (.Call (.Attribute a "insert" ap) [b, e] [] cp) pos :: rest) (tS X.K n W es ms Q) :=
  s_cons (P' := fun o => o = .nx es (ms'.set j (some (.l (ds.take i.toNat ++ [d] ++ ds.drop i.toNat))))) (ps_expr (pe_bm PySem.F.plainAttrs_list PySem.F.slot_list_insert PySem.F.type_list_insert mt_insert ho (pa_cons hbb (pa_cons he pa_nil h3') h3) hb h1 h2 h3 h4) hs) (fun D σ H as s l kk => ⟨as, s, fun u H2 m2 e2 r2 => by
    obtain ⟨q, g1, rfl⟩ := r2
    obtain ⟨vsa, ka2, ka3⟩ := m2.list g1 hm1
    refine ⟨.inl ⟨rfl, vsa, .inl (.inl ka2)⟩, as, s.step m2 e2, fun v H3 m3 e3 r3 => ⟨as, s.step m3 (e2.trans e3), fun w H4 m4 e4 r4 => ?_⟩⟩
    cases r3
    obtain ⟨vs', k2, k3⟩ := m4.list g1 hm
    refine ⟨q, vs', i, w, rfl, rfl, k2, by rw [k3.len]; exact Nat.lt_of_lt_of_le hz (by decide), h0.1, h0.2, ?_⟩
    have z := m4.put g1 ((Dv.ArR.app (ArR.take i.toNat k3) (.cons r4 .nil)).app (ArR.drop i.toNat k3))
    have e5 := ((e2.trans e3).trans e4).trans z.2
    exact kk _ rfl as _ (Stp.of l e5) σ (s.step z.1 e5)⟩) (fun o ho => by subst ho; exact kk)
theorem ds_ins {ap cp : Pos} (ha : Den X a A) (hbb : Den X b B) (he : Den X e E) (hk : DenS X P rest k) (hb : attributeBase a "insert" X.env (eval a X.env) = eval a X.env := by rfl)
    (h1 : ((((backTo cp (starEach [b, e] X.env)).all fun x => !x.1) && (backToKw cp (keywordEach [] X.env)).all fun x => x.1.isSome) && decide (([b, e].length + ([] : List Keyword).length + if ([] : List Keyword).isEmpty = true then 0 else 1) < 30)) = true := by rfl)
    (h2 : (ap.endLine == cp.line) = true := by rfl) (h3 : starEach [b, e] X.env = (false, eval b X.env) :: starEach [e] X.env := by rfl) (h3' : starEach [e] X.env = (false, eval e X.env) :: starEach [] X.env := by rfl) (h4 : (backTo cp (starEach [e] X.env)).any (·.1) = false := by rfl) (hs : swapsWith (.Call (.Attribute a "insert" ap) [b, e] [] cp) none pos.line X.env = pure false := by rfl) :
    DenS X P (.Expr (.Call (.Attribute a "insert" ap) [b, e] [] cp) pos :: rest) (insS A B E k) := ⟨fun {W b' f es ms o} tk hpo fb ft hp q => by
  unfold insS at q
  split at q
  · rename_i j m1 hh1
    split at q
    · rename_i i m2 hh2
      split at q
      · rename_i s m3 hh3
        split at q
        · rename_i s1 ss g1 g2
          split at q
          · rename_i hz
            have l1 := ha.opL ft.le ft.lm hh1
            have ft1 := ha.opF ft hh1
            have l2 := hbb.opL ft1.le ft1.lm hh2
            have ft2 := hbb.opF ft1 hh2
            have l3 := he.opL ft2.le ft2.lm hh3
            have ft3 := he.opF ft2 hh3
            obtain ⟨k1, i1, i2, i3⟩ := ft1.cell (cellL_eq g1)
            obtain ⟨kk, j1, j2, j3⟩ := ft3.cell (cellL_eq g2)
            have ek : k1 = kk := Option.some.inj (i1.symm.trans j1)
            subst ek
            have lc := ft3.lm _ _ (cellL_eq g2)
            have ft4 : Fit f es (m3.set j (some (.l (ss.take i.toNat ++ [s] ++ ss.drop i.toNat)))) := ft3.go ⟨Lows.set ft3.lm (Low.app (Low.app (fun k h => lc k (List.mem_of_mem_take h)) (Low.cons (fun k e => by rw [l3.2.2]; exact l3.1 k (by rw [e])) (low_nil _))) (fun k h => lc k (List.mem_of_mem_drop h))), List.length_set⟩
            have := hk.run tk hpo fb ft4 hp q
            rw [Fr.set ft3.ok ft3.len j1] at this
            have pa := ha.opV ft hh1
            rw [i2] at pa
            refine s_insI pa (hbb.opV ft1 hh2) (he.opV ft2 hh3) j3 (by rw [List.length_map]; exact hz.1) hz.2 i3 ?_ hb h1 h2 h3 h3' h4 hs
            have e1 : (Cell.l (ss.take i.toNat ++ [s] ++ ss.drop i.toNat)).map f.s = .l ((ss.map f.s).take i.toNat ++ [f.s s] ++ (ss.map f.s).drop i.toNat) := by
              show Cell.l ((ss.take i.toNat ++ [s] ++ ss.drop i.toNat).map f.s) = _
              rw [List.map_append, List.map_append, List.map_take, List.map_drop]
              rfl
            rw [← e1]
            exact this
          · cases q
        · cases q
      · cases q
    · cases q
  · cases q⟩
/-! ### return, an expression alone, pass, break, continue -/
def ret (A : ED) : SD := fun es ms => match A es ms with
  | some (.v (.d d), m) => some (.rt d m)
  | some (.v (.m j), m) => some (.rn j m)
  | some (.n ss, m) => some (.rn m.length (m ++ [some (.l ss)]))
  | some (.x x, m) => some (.rs x es m)
  | _ => none
theorem Fit.nil (h : Fit f es ms) : Fit f [] ms := ⟨h.ok, h.len, fun i k e => by simp at e, h.lm⟩
theorem ds_ret (he : Den X e A) : DenS X P (.Return (some e) pos :: rest) (ret A) := ⟨fun {W b f es ms o} tk hpo fb ft hp q => by
  unfold ret at q
  split at q
  · rename_i d m h
    cases q
    exact s_ret (he.val ft h) ⟨f, fb, (ft.go (he.low ft.le ft.lm h).2).nil, rfl⟩
  · rename_i j m h
    cases q
    have lo := he.low ft.le ft.lm h
    have ft1 := ft.go lo.2
    obtain ⟨kk, hk⟩ := Fr.ix (f := f) ft1.len (i := j) (by rw [lo.2.2]; exact lo.1 j rfl)
    have pe := he.val ft h
    have e1 : f.s (.m j) = .m kk := by show (match f.ks[j]? with | some k => Sv.m k | none => .u) = _; rw [hk]
    rw [e1] at pe
    refine s_retM pe ⟨f, fb, ⟨ft1.nil, by rw [lo.2.2]; exact lo.1 j rfl⟩, ?_⟩
    show Out.rn kk _ = Out.rn ((f.ks[j]?).getD 0) _
    rw [hk]
    rfl
  · rename_i ss m h
    cases q
    have lo := he.low ft.le ft.lm h
    have ft1 := ft.go lo.2
    have ls : Low m.length (Cell.l ss).all := by rw [lo.2.2]; exact lo.1
    have ft2 := ft1.pushed (i := 0) ls
    refine s_retL (he.new ft h) ⟨f.push, fb.push, ⟨ft2.nil, by simp⟩, ?_⟩
    show Out.rn (f.ms m).length _ = Out.rn (((f.ks ++ [f.out.length])[m.length]?).getD 0) _
    rw [← ft1.len, Fr.len]
    simp
    exact (ft1.push_ms ls).symm
  · rename_i x m h
    cases q
    exact s_retX (he.exc tk ft h) ⟨f, fb, ft.go (he.low ft.le ft.lm h).2, rfl⟩
  · cases q⟩
def retN : SD := fun es ms => some (.rt .non ms)
theorem ds_retN : DenS X P (.Return none pos :: rest) retN := ⟨fun {W b f es ms o} tk hpo fb ft hp q => by cases q; exact s_retN ⟨f, fb, ft.nil, rfl⟩⟩
def exprS (A : ED) (k : SD) : SD := fun es ms => match opx A es ms with
  | some (.v _, m) => k es m
  | some (.x x, m) => some (.rs x es m)
  | none => none
theorem ds_expr (he : Den X e A) (hk : DenS X P rest k) (hs : swapsWith e none pos.line X.env = pure false := by rfl) : DenS X P (.Expr e pos :: rest) (exprS A k) := ⟨fun {W b f es ms o} tk hpo fb ft hp q => by
  unfold exprS at q
  split at q
  · exact s_expr (he.opV ft ‹_›) (hk.run tk hpo fb (he.opF ft ‹_›) hp q) hs
  · cases q
    exact s_exprX (he.opX tk ft ‹_›) ⟨f, fb, he.opF ft ‹_›, rfl⟩ hs
  · cases q⟩
theorem ds_pass (hk : DenS X P rest k) : DenS X P (.Pass pos :: rest) k := ⟨fun {W b f es ms o} tk hpo fb ft hp q => s_pass (hk.run tk hpo fb ft hp q)⟩
def brkS : SD := fun es ms => some (.bk es ms)
def contS : SD := fun es ms => some (.ct es ms)
theorem ds_brk : DenS X P (.Break pos :: rest) brkS := ⟨fun {W b f es ms o} tk hpo fb ft hp q => by cases q; exact s_brk ⟨f, fb, ft, rfl⟩⟩
theorem ds_cont : DenS X P (.Continue pos :: rest) contS := ⟨fun {W b f es ms o} tk hpo fb ft hp q => by cases q; exact s_cont ⟨f, fb, ft, rfl⟩⟩
/-! ### if -/
def seqO (o : Option Out) (k : SD) : Option Out := match o with
  | some (.nx es ms) => k es ms
  | o => o
def iff (T : TD) (S1 S2 k : SD) : SD := fun es ms => match T es ms with
  | some (true, m) => seqO (S1 es m) k
  | some (false, m) => seqO (S2 es m) k
  | none => none
theorem iff_if (T : TD) (S1 S2 k : SD) : iff T S1 S2 k = fun es ms => match T es ms with
    | some (r, m) => if r = true then seqO (S1 es m) k else seqO (S2 es m) k
    | none => none := by
  funext es ms
  unfold iff
  cases T es ms with
  | none => rfl
  | some r => obtain ⟨r, m⟩ := r; cases r <;> rfl
theorem seq_run {b : Bs} {o : Out} (hu : DenS X P u S) (hk : DenS X P rest k) (tk : Takes X W) (hpo : PassesOwn (model X.prog X.w) X.A X.env X.xe) (fb : FrB b f) (ft : Fit f es ms) (hp : b.p ≤ P) (q : seqO (S es ms) k = some o) : PSs X u (tS X.K b.n W (f.es es) (f.ms ms) (Then X b.n W rest (OutF b o))) := by
  cases h : S es ms with
  | none => rw [h] at q; cases q
  | some o1 =>
    rw [h] at q
    refine s_imp (fun o' ho => ?_) (hu.run tk hpo fb ft hp h)
    obtain ⟨f', fb', fo, rfl⟩ := ho
    cases o1 with
    | nx es' ms' => exact hk.run tk hpo fb' fo hp q
    | rt d m => cases q; exact ⟨f', fb', fo, rfl⟩
    | rn j m => cases q; exact ⟨f', fb', fo, rfl⟩
    | bk e m => cases q; exact ⟨f', fb', fo, rfl⟩
    | ct e m => cases q; exact ⟨f', fb', fo, rfl⟩
    | rs x e m => cases q; exact ⟨f', fb', fo, rfl⟩
theorem ds_if (hc : DenT X c T) (hu : DenS X P u S1) (hv : DenS X P v S2) (hk : DenS X P rest k) : DenS X P (.If c u v pos :: rest) (iff T S1 S2 k) := ⟨fun {W b f es ms o} tk hpo fb ft hp q => by
  unfold iff at q
  split at q
  · exact s_if (hc.val ft ‹_›) (fun _ => seq_run hu hk tk hpo fb (hc.fit ft ‹_›) hp q) (fun z => Bool.noConfusion z)
  · exact s_if (hc.val ft ‹_›) (fun z => Bool.noConfusion z) (fun _ => seq_run hv hk tk hpo fb (hc.fit ft ‹_›) hp q)
  · cases q⟩
/-! ### loops -/
def forGo (G : GD) (S : SD) : List Dt → Es → Ms → Option Out
  | [], es, ms => some (.nx es ms)
  | d :: ds, es, ms => match G d es with
    | some es1 => match S es1 ms with
      | some (.nx e m) => forGo G S ds e m
      | some (.ct e m) => forGo G S ds e m
      | some (.bk e m) => some (.nx e m)
      | o => o
    | none => none
def forS (J : ID) (G : GD) (S k : SD) : SD := fun es ms => match J es ms with
  | some (ds, m) => seqO (forGo G S ds es m) k
  | none => none
theorem ds_for (hJ : DenI X tg iter J) (hG : DenG X tg G) (hb : DenS X P body S) (hk : DenS X P rest k) (hc : X.calm = true) (hset : ∀ x, foldedSetIterable iter X.env x = pure x := by intro _; rfl) : DenS X P (.For tg iter body [] pos :: rest) (forS J G S k) := ⟨fun {W b f es ms o} tk hpo fb ft hp q => by
  unfold forS at q
  split at q
  · rename_i ds m h
    have ft1 := ft.go (hJ.low ft.le ft.lm h)
    refine s_for (hJ.val ft h) hG.2 (fun i es'' ms'' => ∃ f' e' m', FrB b f' ∧ Fit f' e' m' ∧ es'' = f'.es e' ∧ ms'' = f'.ms m' ∧ seqO (forGo G S (ds.drop i) e' m') k = some o) ⟨f, es, m, fb, ft1, rfl, rfl, by simpa using q⟩ (fun i d es'' ms'' hd hI => ?_) (fun es'' ms'' hI => ?_) hpo hc hset
    · obtain ⟨f', e', m', fb', ft', rfl, rfl, hh⟩ := hI
      have hlt := (List.getElem?_eq_some_iff.mp hd).1
      have e1 : ds.drop i = d :: ds.drop (i + 1) := by rw [List.drop_eq_getElem_cons hlt, ← (List.getElem?_eq_some_iff.mp hd).2]
      rw [e1] at hh
      unfold forGo at hh
      cases hg : G d e' with
      | none => rw [hg] at hh; cases hh
      | some es1 =>
        rw [hg] at hh
        dsimp only at hh
        refine ⟨f'.es es1, hG.1.map hg, ?_⟩
        have ft2 : Fit f' es1 m' := ⟨ft'.ok, ft'.len, hG.1.low hg ft'.le, ft'.lm⟩
        cases hs : S es1 m' with
        | none => rw [hs] at hh; cases hh
        | some o1 =>
          rw [hs] at hh
          refine s_imp (fun o' ho => ?_) (hb.run tk hpo fb' ft2 hp hs)
          obtain ⟨f3, fb3, fo, rfl⟩ := ho
          cases o1 with
          | nx e3 m3 => exact ⟨f3, e3, m3, fb3, fo, rfl, rfl, hh⟩
          | ct e3 m3 => exact ⟨f3, e3, m3, fb3, fo, rfl, rfl, hh⟩
          | bk e3 m3 => exact hk.run tk hpo fb3 fo hp hh
          | rt d3 m3 => cases hh; exact ⟨f3, fb3, fo, rfl⟩
          | rn d3 m3 => cases hh; exact ⟨f3, fb3, fo, rfl⟩
          | rs x3 e3 m3 => cases hh; exact ⟨f3, fb3, fo, rfl⟩
    · obtain ⟨f', e', m', fb', ft', rfl, rfl, hh⟩ := hI
      rw [List.drop_length] at hh
      exact hk.run tk hpo fb' ft' hp hh
  · cases q⟩
/-- at most so many turns -/
def whileGo (T : TD) (S : SD) : Nat → Es → Ms → Option Out
  | 0, _, _ => none
  | n + 1, es, ms => match T es ms with
    | some (true, m) => match S es m with
      | some (.nx e m) => whileGo T S n e m
      | some (.ct e m) => whileGo T S n e m
      | some (.bk e m) => some (.nx e m)
      | o => o
    | some (false, m) => some (.nx es m)
    | none => none
def whileS (F : Es → Ms → Nat) (T : TD) (S k : SD) : SD := fun es ms => seqO (whileGo T S (F es ms) es ms) k
theorem ds_while (F : Es → Ms → Nat) (hc : DenT X c T) (hb : DenS X P body S) (hk : DenS X P rest k) : DenS X P (.While c body [] pos :: rest) (whileS F T S k) := ⟨fun {W b f es ms o} tk hpo fb ft hp q => by
  unfold whileS at q
  refine s_while (fun i es'' ms'' => ∃ f' e' m', FrB b f' ∧ Fit f' e' m' ∧ es'' = f'.es e' ∧ ms'' = f'.ms m' ∧ seqO (whileGo T S i e' m') k = some o) ⟨f, es, ms, fb, ft, rfl, rfl, q⟩ (fun i es'' ms'' hI => ?_) hpo
  obtain ⟨f', e', m', fb', ft', rfl, rfl, hh⟩ := hI
  cases i with
  | zero => cases hh
  | succ i =>
    unfold whileGo at hh
    cases ht : T e' m' with
    | none => rw [ht] at hh; cases hh
    | some r =>
      obtain ⟨r, m1⟩ := r
      rw [ht] at hh
      have ft2 := hc.fit ft' ht
      refine ⟨r, f'.ms m1, hc.val ft' ht, fun hr => ?_, fun hr => ?_⟩
      · subst hr
        dsimp only at hh
        cases hs : S e' m1 with
        | none => rw [hs] at hh; cases hh
        | some o1 =>
          rw [hs] at hh
          refine s_imp (fun o' ho => ?_) (hb.run tk hpo fb' ft2 hp hs)
          obtain ⟨f3, fb3, fo, rfl⟩ := ho
          cases o1 with
          | nx e3 m3 => exact ⟨i, Nat.lt_succ_self _, f3, e3, m3, fb3, fo, rfl, rfl, hh⟩
          | ct e3 m3 => exact ⟨i, Nat.lt_succ_self _, f3, e3, m3, fb3, fo, rfl, rfl, hh⟩
          | bk e3 m3 => exact hk.run tk hpo fb3 fo hp hh
          | rt d3 m3 => cases hh; exact ⟨f3, fb3, fo, rfl⟩
          | rn d3 m3 => cases hh; exact ⟨f3, fb3, fo, rfl⟩
          | rs x3 e3 m3 => cases hh; exact ⟨f3, fb3, fo, rfl⟩
      · subst hr
        exact hk.run tk hpo fb' ft2 hp hh⟩
end
end Dn
/-! # Dn7: what a def means; its promise from its body -/
namespace Dn
open PySem PySem.Spec L2 Dv
/-- a def of np parameters, N slots, at most P things passed -/
def runDef (np N P : Nat) (S : SD) : FD := fun args fm =>
  if args.length = np ∧ fm.length ≤ P then match S (args.map some ++ List.replicate (N - np) none) fm with
    | some (.rt d m) => if fm.length ≤ m.length ∧ (m.take fm.length).all cellOk = true then some (.ret d (m.take fm.length)) else none
    | some (.nx _ m) => if fm.length ≤ m.length ∧ (m.take fm.length).all cellOk = true then some (.ret .non (m.take fm.length)) else none
    | some (.rs x _ m) => if fm.length ≤ m.length ∧ (m.take fm.length).all cellOk = true then some (.exc x (m.take fm.length)) else none
    | some (.rn k m) => if fm.length ≤ m.length ∧ (m.take fm.length).all cellOk = true then match cellL m k with
      | some ss => if fm.length ≤ k ∧ ss.all isD = true then some (.nw ss (m.take fm.length)) else none
      | none => none
      else none
    | _ => none
  else none
theorem runDef_out {np N P : Nat} {S : SD} (ss : List Sv) (fm : Ms) (o : Ro) (h : runDef np N P S ss fm = some o) : outOk fm.length o = true := by
  unfold runDef at h
  split at h
  · split at h
    · split at h
      · rename_i hh
        cases h
        simp only [outOk, Bool.and_eq_true]
        exact ⟨decide_eq_true (by rw [List.length_take]; omega), hh.2⟩
      · cases h
    · split at h
      · rename_i hh
        cases h
        simp only [outOk, Bool.and_eq_true]
        exact ⟨decide_eq_true (by rw [List.length_take]; omega), hh.2⟩
      · cases h
    · split at h
      · rename_i hh
        cases h
        simp only [outOk, Bool.and_eq_true]
        exact ⟨decide_eq_true (by rw [List.length_take]; omega), hh.2⟩
      · cases h
    · split at h
      · rename_i hh
        split at h
        · split at h
          · rename_i h2
            cases h
            simp only [outOk, Bool.and_eq_true]
            exact ⟨⟨decide_eq_true (by rw [List.length_take]; omega), hh.2⟩, h2.2⟩
          · cases h
        · cases h
      · cases h
    · cases h
  · cases h
theorem setAll_same : ∀ {ms : Ms} {ks : List Nat} {cs : Ms}, (∀ (i k : Nat), ks[i]? = some k → ms[k]? = cs[i]?) → setAll ms ks cs = ms
  | ms, [], cs, _ => by cases cs <;> rfl
  | ms, k :: ks, [], _ => rfl
  | ms, k :: ks, c :: cs, h => by
    have h0 := h 0 k rfl
    have e : ms.set k c = ms := by
      apply List.ext_getElem?
      intro j
      by_cases q : k = j
      · subst q
        rw [List.getElem?_set_self (List.getElem?_eq_some_iff.mp (h0.trans rfl)).1, h0]
        rfl
      · rw [List.getElem?_set_ne q]
    show setAll (ms.set k c) ks cs = ms
    rw [e]
    exact setAll_same fun i k' hk => h (i + 1) k' (by simpa using hk)
theorem setAll_takeL : ∀ {out : Ms} {ks : List Nat} {cs : Ms} {n : Nat}, (setAll out ks cs).take n = setAll (out.take n) ks cs
  | out, [], cs, n => by cases cs <;> rfl
  | out, k :: ks, [], n => rfl
  | out, k :: ks, c :: cs, n => by
    show (setAll (out.set k c) ks cs).take n = setAll ((out.take n).set k c) ks cs
    rw [setAll_takeL, List.take_set]
theorem lows_of_cut {n : Nat} {ms : Ms} (h : Dv.cut n ms = ms) : Lows n ms := fun i c hi => by
  have q : (Dv.cut n ms)[i]? = some (some c) := by rw [h]; exact hi
  unfold Dv.cut at q
  rw [List.getElem?_map] at q
  have hc : c.map (Dv.forget n) = c := by
    cases z : (ms.take n)[i]? with
    | none => rw [z] at q; cases q
    | some o =>
      rw [z] at q
      have : ms[i]? = some o := by
        rw [List.getElem?_take] at z
        split at z
        · exact z
        · cases z
      rw [hi] at this
      cases this
      simpa using q
  have low : ∀ ss : List Sv, ss.map (Dv.forget n) = ss → Low n ss := fun ss e k hk => by
    rw [← e] at hk
    obtain ⟨s, hs, q⟩ := List.mem_map.mp hk
    cases s with
    | m j =>
      rw [forget_m] at q
      by_cases c : j < n
      · rw [if_pos c] at q; cases q; exact c
      · rw [if_neg c] at q; cases q
    | d x => cases q
    | x a c d y => cases q
    | u => cases q
  cases c with
  | l ss => exact low ss (by injection hc)
  | o C fs =>
    have e : fs.map (fun p => (p.1, Dv.forget n p.2)) = fs := by injection hc
    have e2 : (fs.map (·.2)).map (Dv.forget n) = fs.map (·.2) := by
      conv => rhs; rw [← e]
      rw [List.map_map, List.map_map]
      rfl
    exact low _ e2
/-- what a frame leaves to its caller -/
theorem leave {b : Bs} {f : Fr} {es : Es} {m : Ms} (fb : FrB b f) (ft : Fit f es m) (hO : b.O.length = b.n) (hk : b.k0.length = b.p) (hl : Lows b.n b.O) (hd : (m.take b.p).all cellOk = true) : Dv.cut b.n (f.ms m) = setAll b.O b.k0 (m.take b.p) := by
  have e1 : (f.ms m).take b.n = setAll b.O b.k0 (m.take b.p) := by
    unfold Fr.ms
    have s1 : f.ks = b.k0 ++ f.ks.drop b.p := by rw [← fb.ks, List.take_append_drop]
    have s2 : m.map (Option.map (Cell.map f.s)) = (m.take b.p).map (Option.map (Cell.map f.s)) ++ (m.drop b.p).map (Option.map (Cell.map f.s)) := by rw [← List.map_append, List.take_append_drop]
    have hpm : b.p ≤ m.length := by rw [← ft.len]; exact fb.pl
    rw [s1, s2, setAll_app2 (by rw [hk, List.length_map, List.length_take]; omega), setAll_take (fun k hk2 => by
      obtain ⟨i, hi⟩ := List.getElem?_of_mem hk2
      rw [List.getElem?_drop] at hi
      exact fb.up _ k (Nat.le_add_right _ _) hi), setAll_takeL, fb.out, cells_map (g := f.s) (fun _ => rfl) hd]
  have e2 : Lows b.n (setAll b.O b.k0 (m.take b.p)) := setAll_lows hl hd
  have e3 : Dv.cut b.n (f.ms m) = Dv.cut b.n ((f.ms m).take b.n) := by unfold Dv.cut; rw [List.take_take, Nat.min_self]
  rw [e3, e1]
  exact cut_low (by rw [setAll_len]; exact hO) e2
theorem start_es {N : List Str} {ss : List Sv} {f : Fr} {np : Nat} (hn : ss.length = np) (e : (loc 0 ss).map f.s = ss) : f.es ((loc 0 ss).map some ++ List.replicate (N.length - np) none) = start0 N ss := by
  unfold Fr.es start0
  rw [List.map_append, List.map_map, List.map_replicate]
  have : (loc 0 ss).map (Option.map f.s ∘ some) = ss.map some := by
    conv => rhs; rw [← e]
    rw [List.map_map]
    rfl
  rw [this, hn]
  rfl
theorem loc_back {ks : List Nat} : ∀ {ss : List Sv} {j : Nat} {pre : List Nat}, pre.length = j → ks = pre ++ refs ss → ss.all argOk = true → ∀ out : Ms, (loc j ss).map (Fr.mk out ks).s = ss
  | [], _, _, _, _, _, _ => rfl
  | .m k :: r, j, pre, h, e, q, out => by
    rw [List.all_cons, Bool.and_eq_true] at q
    show (Fr.mk out ks).s (.m j) :: (loc (j + 1) r).map _ = _
    rw [loc_back (ss := r) (j := j + 1) (pre := pre ++ [k]) (by simp [h]) (by rw [e]; simp [refs]) q.2 out]
    have : (Fr.mk out ks).s (.m j) = .m k := by
      show (match ks[j]? with | some k => Sv.m k | none => .u) = _
      rw [e, ← h]
      simp [refs]
    rw [this]
  | .d d :: r, j, pre, h, e, q, out => by
    rw [List.all_cons, Bool.and_eq_true] at q
    show Sv.d d :: (loc j r).map _ = _
    rw [loc_back (ss := r) h e q.2 out]
  | .x _ _ _ _ :: r, j, pre, h, e, q, out => by simp [argOk] at q
  | .u :: r, j, pre, h, e, q, out => by simp [argOk] at q
theorem loc_low : ∀ {ss : List Sv} {j : Nat}, Low (j + (refs ss).length) (loc j ss)
  | [], _ => low_nil _
  | .m k :: r, j => by
    show Low (j + ((refs r).length + 1)) (Sv.m j :: loc (j + 1) r)
    refine Low.cons (fun k e => by cases e; omega) ?_
    have := loc_low (ss := r) (j := j + 1)
    rw [show j + 1 + (refs r).length = j + ((refs r).length + 1) by omega] at this
    exact this
  | .d d :: r, j => Low.cons (fun k e => by cases e) (loc_low (ss := r))
  | .x _ _ _ _ :: r, j => Low.cons (fun k e => by cases e) (loc_low (ss := r))
  | .u :: r, j => Low.cons (fun k e => by cases e) (loc_low (ss := r))
theorem loc_len : ∀ {ss : List Sv} {j : Nat}, (loc j ss).length = ss.length
  | [], _ => rfl
  | .m k :: r, j => congrArg Nat.succ (loc_len (ss := r))
  | .d d :: r, j => congrArg Nat.succ (loc_len (ss := r))
  | .x _ _ _ _ :: r, j => congrArg Nat.succ (loc_len (ss := r))
  | .u :: r, j => congrArg Nat.succ (loc_len (ss := r))
section
variable {PP : Program} {w : World} {K : PySem.W.Frag} {mg : Str → Option Value} {base : Heap}
theorem ok_run {x qual : Str} {st : Stmt} {f : Addr} {fd : FuncData} {N ps : List Str} {k P : Nat} {S : SD} (F : Fun K x qual st f fd) (Sc : FnScope N ps (defScope st))
    (hb : ∀ (cdv : Value) (A : Around) (outer : List Env) (s : Shared) (H : Hp) (E : XK) (X : Cx), X = cxOf (L2.CX PP w) PP w K mg base N qual (defScope st) f cdv A outer s H E → Room k X.A → DenS X P (defBody st) S) :
    FnOk PP w K mg base (L2.CX PP w) (k + 1) f fd ps (Pr K (preF (runDef ps.length N.length P S))) := by
  have hlen : ∀ {ss : List Sv} {fm : Ms} {o : Ro}, runDef ps.length N.length P S (loc 0 ss) fm = some o → ss.length = ps.length := fun {ss fm o} h => by
    unfold runDef at h
    split at h
    · rename_i hh
      rw [← loc_len (ss := ss) (j := 0)]
      exact hh.1
    · cases h
  refine body_ok F Sc (fun ss ms R h => ?_) (fun cdv A outer s H E X hX hr tk hpo ss ms R h hcu => ?_)
  · obtain ⟨fm, o, h1, h2, h3, h4, h5⟩ := h
    exact hlen h4
  · obtain ⟨fm, o, h1, h2, h3, h4, h5⟩ := h
    have hn := hlen h4
    obtain ⟨c1, c2, c3⟩ := cellsAt_eq h3
    let fr : Fr := ⟨ms, refs ss⟩
    let b : Bs := ⟨ms.length, (refs ss).length, ms, refs ss⟩
    have fok : fr.ok := ⟨h2, fun k hk => by
      obtain ⟨i, hi⟩ := List.getElem?_of_mem hk
      exact (c3 i k hi).2⟩
    have lms := lows_of_cut hcu
    have fb : FrB b fr := ⟨List.take_length, List.take_length, Nat.le_refl _, Nat.le_refl _, fun i k hi hk => by
      have := (List.getElem?_eq_some_iff.mp hk).1
      exact absurd hi (Nat.not_le.mpr this), fun i c hi => lms i c hi⟩
    have lowC : Lows fm.length fm := fun i c hi => by
      have : cellOk (some c) = true := List.all_eq_true.mp c2 _ (List.mem_of_getElem? hi)
      exact cellD_low _ this
    have lowA : LowE fm.length ((loc 0 ss).map some ++ List.replicate (N.length - ps.length) none) := fun i k hi => by
      have : some (Sv.m k) ∈ (loc 0 ss).map some ++ List.replicate (N.length - ps.length) none := List.mem_of_getElem? hi
      rcases List.mem_append.mp this with z | z
      · obtain ⟨s, hs, e⟩ := List.mem_map.mp z
        cases e
        have := loc_low (ss := ss) (j := 0) k hs
        rw [Nat.zero_add, ← c1] at this
        exact this
      · have := (List.mem_replicate.mp z).2
        cases this
    have ft : Fit fr ((loc 0 ss).map some ++ List.replicate (N.length - ps.length) none) fm := ⟨fok, c1.symm, lowA, lowC⟩
    have ems : fr.ms fm = ms := by
      unfold Fr.ms
      rw [cells_map (fun _ => rfl) c2]
      exact setAll_same fun i k hk => (c3 i k hk).1
    have ees := start_es (N := N) hn (loc_back (ks := refs ss) (pre := []) rfl rfl h1 ms)
    unfold runDef at h4
    split at h4
    · rename_i hc
      cases hS : S ((loc 0 ss).map some ++ List.replicate (N.length - ps.length) none) fm with
      | none => rw [hS] at h4; cases h4
      | some o1 =>
        rw [hS] at h4
        have hp : b.p ≤ P := by show (refs ss).length ≤ P; rw [← c1]; exact hc.2
        have body := (hb cdv A outer s H E X hX hr).run tk hpo fb ft hp hS
        have ek : X.K = K := by rw [hX]; rfl
        rw [ees, ems, ek] at body
        refine s_imp (fun o' ho => ?_) (show PSs X (defBody st) (tS X.K b.n _ (start0 N ss) ms _) by rw [ek]; exact body) |> fun z => by rw [ek] at z; exact z
        obtain ⟨f', fb', fo, rfl⟩ := ho
        have out : ∀ {es : Es} {m : Ms}, Fit f' es m → (m.take fm.length).all cellOk = true → Dv.cut ms.length (f'.ms m) = setAll ms (refs ss) (m.take fm.length) := fun {es m} g hd => by
          rw [c1] at hd ⊢
          exact leave (b := b) fb' g rfl rfl lms hd
        cases o1 with
        | rt d m =>
          dsimp only at h4
          split at h4
          · rename_i hh
            cases h4
            show R (.ret d (Dv.cut ms.length (f'.ms m)))
            rw [out fo hh.2]
            exact h5
          · cases h4
        | nx e m =>
          dsimp only at h4
          split at h4
          · rename_i hh
            cases h4
            show R (.ret .non (Dv.cut ms.length (f'.ms m)))
            rw [out fo hh.2]
            exact h5
          · cases h4
        | rs x e m =>
          dsimp only at h4
          split at h4
          · rename_i hh
            cases h4
            show R (.exc x (Dv.cut ms.length (f'.ms m)))
            rw [out fo hh.2]
            exact h5
          · cases h4
        | rn j m =>
          dsimp only at h4
          split at h4
          · rename_i hh
            split at h4
            · rename_i ts hts
              split at h4
              · rename_i h6
                cases h4
                obtain ⟨ds, rfl⟩ := all_isD h6.2
                obtain ⟨kk, g1, g2, g3⟩ := fo.1.cell (cellL_eq hts)
                show ms.length ≤ ((f'.ks[j]?).getD 0) ∧ ∃ ss', (f'.ms m)[((f'.ks[j]?).getD 0)]? = some (some (.l ss')) ∧ R (.nw (ss'.map (Dv.forget ms.length)) (Dv.cut ms.length (f'.ms m)))
                rw [g1]
                refine ⟨fb'.up j kk (by show (refs ss).length ≤ j; rw [← c1]; exact h6.1) g1, _, g3, ?_⟩
                rw [out fo.1 hh.2, Fr.map_d, forget_data]
                exact h5
              · cases h4
            · cases h4
          · cases h4
        | bk e m => cases h4
        | ct e m => cases h4
    · cases h4
end
end Dn
/-! # Dn8: more expressions; raise, unpacking; a list of ours made a datum -/
namespace Dn
open PySem PySem.Spec L2 Dv
section
variable {X : Cx} {P : Nat} {e a b c tg elt iter : Expr} {A B C E : ED} {T U : TD} {J : ID} {G : GD} {S S1 S2 k : SD} {R : AD} {f : Fr} {es es1 : Es} {ms ms' ms1 ms2 : Ms} {p pos : Pos} {l u v rest body : List Stmt} {W : WX} {n : Nat} {sv : Sv} {Q : Out → Prop} {es0 : List Expr}
/-! ### a module's constant -/
def glob (d : Dt) : ED := kst d
theorem den_globI {x : Str} {i : Int} (hg : Gl X x) (hm : ∃ u, X.mg x = some u ∧ RelV (V.int i) u) (hd : (x == ("__debug__" : Str)) = false := by decide) : Den X (.Name x pos) (glob (.int i)) := den_kst fun es ms => by
  obtain ⟨u, h1, h2⟩ := hm
  exact pe_w (pe_glob hg h1 h2 hd) fun σ H Q ⟨as, s, k⟩ => k _ H s.mem (Same.refl _) (.int i)
/-! ### a < b < c -/
def chain (op op' : CmpOp) (A B C : ED) : ED := fun es ms => match opx A es ms with
  | some (.v x, m1) => match opx B es m1 with
    | some (.v y, m2) => match cmpS op x y with
      | some false => some (.v (.d (.bl false)), m2)
      | some true => match opx C es m2 with
        | some (.v z, m3) => match cmpS op' y z with
          | some r => some (.v (.d (.bl r)), m3)
          | none => none
        | _ => none
      | none => none
    | _ => none
  | _ => none
theorem chain_eq {op op' : CmpOp} {q : Pv} (h : chain op op' A B C es ms = some (q, ms')) : (∃ x y m1, opx A es ms = some (.v x, m1) ∧ opx B es m1 = some (.v y, ms') ∧ cmpS op x y = some false ∧ q = .v (.d (.bl false))) ∨
    (∃ x y z r m1 m2, opx A es ms = some (.v x, m1) ∧ opx B es m1 = some (.v y, m2) ∧ cmpS op x y = some true ∧ opx C es m2 = some (.v z, ms') ∧ cmpS op' y z = some r ∧ q = .v (.d (.bl r))) := by
  unfold chain at h
  split at h
  · split at h
    · split at h
      · cases h; exact .inl ⟨_, _, _, ‹_›, ‹_›, ‹_›, rfl⟩
      · split at h
        · split at h
          · cases h; exact .inr ⟨_, _, _, _, _, _, ‹_›, ‹_›, ‹_›, ‹_›, ‹_›, rfl⟩
          · cases h
        · cases h
      · cases h
    · cases h
  · cases h
theorem den_chain {op op' : CmpOp} {n : Nat} (hr : Room n X.A) (ha : Den X a A) (hb : Den X b B) (hc : Den X c C) (hm : lastMarks [op, op'] [b, c] = false := by rfl) : Den X (.Compare a [op, op'] [b, c] pos) (chain op op' A B C) where
  val := fun {f es ms ms' s} ft q => by
    rcases chain_eq q with ⟨x, y, m1, h1, h2, h3, h4⟩ | ⟨x, y, z, r, m1, m2, h1, h2, h3, h5, h6, h4⟩
    · cases h4
      obtain ⟨r, ho, hr'⟩ := cmp_ok hr f h3
      exact pe_w (pe_chain ho (r' := fun _ _ _ _ => False) (op' := op') (fun _ _ _ _ _ _ _ _ _ _ _ _ h => h.elim) (ha.opV ft h1) (hb.opV (ha.opF ft h1) h2) pe_never hm) fun σ H Q ⟨as, s, k⟩ => ⟨as, s, fun v H1 m1 e1 r1 => ⟨as, s.step m1 e1, fun u H2 m2 e2 r2 => hr' as _ v u H2 _ m2 (r1.mono e2) r2 ⟨false, rfl, iteF (k _ H2 m2 (e1.trans e2) (.bl false))⟩⟩⟩
    · cases h4
      have ft1 := ha.opF ft h1
      have ft2 := hb.opF ft1 h2
      obtain ⟨r0, ho, hr'⟩ := cmp_ok hr f h3
      obtain ⟨r1', ho', hr2⟩ := cmp_ok hr f h6
      exact pe_w (pe_chain ho ho' (ha.opV ft h1) (hb.opV ft1 h2) (hc.opV ft2 h5) hm) fun σ H Q ⟨as, s, k⟩ => ⟨as, s, fun v H1 m1 e1 r1 => ⟨as, s.step m1 e1, fun u H2 m2 e2 r2 => hr' as _ v u H2 _ m2 (r1.mono e2) r2 ⟨true, rfl, iteT ⟨as, s.step m2 (e1.trans e2), fun w H3 m3 e3 r3 => hr2 as _ u w H3 _ m3 (r2.mono e3) r3 (k _ H3 m3 ((e1.trans e2).trans e3) (.bl _))⟩⟩⟩⟩
  new := fun ft q => by rcases chain_eq q with ⟨x, y, m1, h1, h2, h3, h4⟩ | ⟨x, y, z, r, m1, m2, h1, h2, h3, h5, h6, h4⟩ <;> cases h4
  exc := fun tk ft q => by rcases chain_eq q with ⟨x, y, m1, h1, h2, h3, h4⟩ | ⟨x, y, z, r, m1, m2, h1, h2, h3, h5, h6, h4⟩ <;> cases h4
  low := fun {es ms ms' p} le lm q => by
    rcases chain_eq q with ⟨x, y, m1, h1, h2, h3, rfl⟩ | ⟨x, y, z, r, m1, m2, h1, h2, h3, h5, h6, rfl⟩
    · exact ⟨fun k e => (by cases e), opx2_low ha hb le lm h1 h2⟩
    · have l2 := opx2_low ha hb le lm h1 h2
      have l3 := hc.opL (ms := m2) (by rw [l2.2]; exact le) (by rw [l2.2]; exact l2.1) h5
      rw [l2.2] at l3
      exact ⟨fun k e => (by cases e), l3.2⟩
def tchain (op op' : CmpOp) (A B C : ED) : TD := fun es ms => match chain op op' A B C es ms with
  | some (.v (.d (.bl r)), m) => some (r, m)
  | _ => none
theorem tchain_eq {op op' : CmpOp} {r : Bool} (h : tchain op op' A B C es ms = some (r, ms')) : chain op op' A B C es ms = some (.v (.d (.bl r)), ms') := by
  unfold tchain at h
  split at h
  · cases h; assumption
  · cases h
theorem dt_chain {op op' : CmpOp} {n : Nat} (hr : Room n X.A) (ha : Den X a A) (hb : Den X b B) (hc : Den X c C) (hm : lastMarks [op, op'] [b, c] = false := by rfl) : DenT X (.Compare a [op, op'] [b, c] pos) (tchain op op' A B C) where
  val := fun {f es ms ms' r} ft q => by
    rcases chain_eq (tchain_eq q) with ⟨x, y, m1, h1, h2, h3, h4⟩ | ⟨x, y, z, r, m1, m2, h1, h2, h3, h5, h6, h4⟩
    · cases h4
      obtain ⟨r, ho, hr'⟩ := cmp_ok hr f h3
      exact pt_w (pt_chain ho (r' := fun _ _ _ _ => False) (op' := op') (fun _ _ _ _ _ _ _ _ _ _ _ _ h => h.elim) (ha.opV ft h1) (hb.opV (ha.opF ft h1) h2) pe_never hm) fun σ H Q ⟨as, s, k⟩ => ⟨as, s, fun v H1 m1 e1 r1 => ⟨as, s.step m1 e1, fun u H2 m2 e2 r2 => hr' as _ v u H2 _ m2 (r1.mono e2) r2 ⟨false, rfl, iteF ⟨_, rfl, k H2 m2 (e1.trans e2)⟩⟩⟩⟩
    · cases h4
      have ft1 := ha.opF ft h1
      have ft2 := hb.opF ft1 h2
      obtain ⟨r0, ho, hr'⟩ := cmp_ok hr f h3
      obtain ⟨r1', ho', hr2⟩ := cmp_ok hr f h6
      exact pt_w (pt_chain ho ho' (ha.opV ft h1) (hb.opV ft1 h2) (hc.opV ft2 h5) hm) fun σ H Q ⟨as, s, k⟩ => ⟨as, s, fun v H1 m1 e1 r1 => ⟨as, s.step m1 e1, fun u H2 m2 e2 r2 => hr' as _ v u H2 _ m2 (r1.mono e2) r2 ⟨true, rfl, iteT ⟨as, s.step m2 (e1.trans e2), fun w H3 m3 e3 r3 => hr2 as _ u w H3 _ m3 (r2.mono e3) r3 ⟨_, rfl, k H3 m3 ((e1.trans e2).trans e3)⟩⟩⟩⟩⟩
  low := fun {es ms ms' r} le lm q => ((den_chain (pos := pos) hr ha hb hc hm).low le lm (tchain_eq q)).2
/-! ### l[lo:hi] -/
abbrev OD := Es → Ms → Option (Option Int × Ms)
structure DenO (X : Cx) (e : Option Expr) (A : OD) : Prop where
  val : ∀ {f : Fr} {es : Es} {ms ms' : Ms} {i : Option Int}, Fit f es ms → A es ms = some (i, ms') → PO X e (fun σ H Q => ∃ as, Sr X.K as (f.es es) (f.ms ms) σ H ∧ ∀ H', MsR X.K as (f.ms ms') H' → Same (hid as H) (hid as H') → Q i H')
  low : ∀ {es : Es} {ms ms' : Ms} {i : Option Int}, LowE ms.length es → Lows ms.length ms → A es ms = some (i, ms') → Lows ms.length ms' ∧ ms'.length = ms.length
def noO : OD := fun _ ms => some (none, ms)
def someO (A : ED) : OD := fun es ms => match opx A es ms with
  | some (.v (.d (.int i)), m) => some (some i, m)
  | _ => none
theorem po_w {e : Option Expr} {t t' : TO} (h : PO X e t) (w : ∀ σ H Q, t' σ H Q → t σ H Q) : PO X e t' := ⟨fun p s σ H Q I q => h.run p s σ H Q I (w σ H Q q)⟩
theorem do_no : DenO X none noO where
  val := fun ft q => by cases q; exact po_w po_none fun σ H Q ⟨as, s, k⟩ => k H s.mem (Same.refl _)
  low := fun le lm q => by cases q; exact ⟨lm, rfl⟩
theorem do_some (ha : Den X a A) : DenO X (some a) (someO A) where
  val := fun {f es ms ms' i} ft q => by
    unfold someO at q
    split at q
    · cases q
      exact po_w (po_some (ha.opV ft ‹_›)) fun σ H Q ⟨as, s, k⟩ => ⟨as, s, fun v H1 m1 e1 r1 => by cases r1; exact ⟨_, rfl, k H1 m1 e1⟩⟩
    · cases q
  low := fun {es ms ms' i} le lm q => by
    unfold someO at q
    split at q
    · cases q; exact (ha.opL le lm ‹_›).2
    · cases q
def cutS (ss : List Sv) (lo hi : Option Int) : List Sv := (ss.drop (HT.sIx ss.length 0 lo)).take (HT.sIx ss.length ss.length hi - HT.sIx ss.length 0 lo)
theorem cut_at {K : PySem.W.Frag} {as : As} {H : Hp} {vs : List V} {ss : List Sv} {lo hi : Option Int} (h : ArR K as H vs ss) : ArR K as H (cutV vs lo hi) (cutS ss lo hi) := by
  unfold cutV cutS
  rw [h.len]
  exact ArR.take _ (ArR.drop _ h)
theorem cutS_map {g : Sv → Sv} {ss : List Sv} {lo hi : Option Int} : cutS (ss.map g) lo hi = (cutS ss lo hi).map g := by
  unfold cutS
  rw [List.length_map, List.map_take, List.map_drop]
theorem cutS_low {n : Nat} {ss : List Sv} {lo hi : Option Int} (h : Low n ss) : Low n (cutS ss lo hi) := fun k hk => h k (List.mem_of_mem_drop (List.mem_of_mem_take hk))
def sliceL (A : ED) (L U : OD) : ED := fun es ms => match opx A es ms with
  | some (.v x, m1) => match L es m1 with
    | some (lo, m2) => match U es m2 with
      | some (hi, m3) => match seqL m3 x with
        | some ss => some (.n (cutS ss lo hi), m3)
        | none => none
      | none => none
    | none => none
  | _ => none
def slice (A : ED) (L U : Option ED) : ED := sliceL A (match L with | some B => someO B | none => noO) (match U with | some B => someO B | none => noO)
theorem slice_eq {L U : OD} {q : Pv} (h : sliceL A L U es ms = some (q, ms')) : ∃ x m1 lo m2 hi ss, opx A es ms = some (.v x, m1) ∧ L es m1 = some (lo, m2) ∧ U es m2 = some (hi, ms') ∧ seqL ms' x = some ss ∧ q = .n (cutS ss lo hi) := by
  unfold sliceL at h
  split at h
  · split at h
    · split at h
      · split at h
        · cases h; exact ⟨_, _, _, _, _, _, ‹_›, ‹_›, ‹_›, ‹_›, rfl⟩
        · cases h
      · cases h
    · cases h
  · cases h
theorem den_slice {L U : OD} {lo hi : Option Expr} {p2 : Pos} (ha : Den X a A) (hl : DenO X lo L) (hu : DenO X hi U) : Den X (.Subscript a (.Slice lo hi none p2) pos) (sliceL A L U) where
  val := fun ft q => by obtain ⟨x, m1, lo, m2, hi, ss, h1, h2, h3, h4, h5⟩ := slice_eq q; cases h5
  new := fun {f es ms ms' s} ft q => by
    obtain ⟨x, m1, lo, m2, hi, ss, h1, h2, h3, h4, h5⟩ := slice_eq q
    cases h5
    have ft1 := ha.opF ft h1
    have ft2 := ft1.go (hl.low ft1.le ft1.lm h2)
    have ft3 := ft2.go (hu.low ft2.le ft2.lm h3)
    exact pe_w (pe_slice sl_list (ha.opV ft h1) (hl.val ft1 h2) (hu.val ft2 h3)) fun σ H Q ⟨as, s, k⟩ => ⟨as, s, fun v H1 m1 e1 r1 => ⟨as, s.step m1 e1, fun H2 m2 e2 => ⟨as, s.step m2 (e1.trans e2), fun H3 m3 e3 => by
      obtain ⟨q, vs, rfl, g1, g2⟩ := seqL_at ft3 h4 m3 (r1.mono (e2.trans e3))
      refine ⟨q, vs, rfl, g1, fun p hp => ?_⟩
      have e4 := (e1.trans e2).trans e3
      have := cut_at (lo := lo) (hi := hi) g2
      rw [cutS_map] at this
      exact k p _ ((m3.more hp this).of e4 (old_of e4 m3 hp))⟩⟩⟩
  exc := fun tk ft q => by obtain ⟨x, m1, lo, m2, hi, ss, h1, h2, h3, h4, h5⟩ := slice_eq q; cases h5
  low := fun {es ms ms' p} le lm q => by
    obtain ⟨x, m1, lo, m2, hi, ss, h1, h2, h3, h4, rfl⟩ := slice_eq q
    have l1 := ha.opL le lm h1
    have l2 := hl.low (ms := m1) (by rw [l1.2.2]; exact le) (by rw [l1.2.2]; exact l1.2.1) h2
    have e2 := l2.2.trans l1.2.2
    have l3 := hu.low (ms := m2) (by rw [e2]; exact le) (by rw [e2, ← l1.2.2]; exact l2.1) h3
    have e3 := l3.2.trans e2
    have lm3 : Lows ms.length ms' := by rw [← e2]; exact l3.1
    refine ⟨?_, lm3, e3⟩
    show Low ms.length (cutS ss lo hi)
    rw [← e3] at lm3 ⊢
    exact cutS_low (seqS_low lm3 (seqL_s h4))
/-! ### x in l -/
def inS (neg : Bool) : Ms → Sv → Sv → Option Dt := fun ms x y => match x, seqL ms y with
  | .d d, some ss => match unD ss with
    | some ds => if eqOk d && eqOk (.lst ds) then some (.bl (neg ^^ (pyL ds).any fun z => PyData.eqv z (pyD d))) else none
    | none => none
  | _, _ => none
def inE (A B : ED) : ED := map2 (inS false) A B
def ninE (A B : ED) : ED := map2 (inS true) A B
theorem seqL_py {y : Sv} {ss : List Sv} {ds : List Dt} {as : As} {H : Hp} {v : V} {K : PySem.W.Frag} (ft : Fit f es ms) (h : seqL ms y = some ss) (hu : unD ss = some ds) (hd : eqOk (.lst ds) = true) (m : MsR K as (f.ms ms) H) (r : ValR K as H v (f.s y)) : Dp K H v (.list (pyL ds)) := by
  obtain ⟨q, vs, rfl, g1, g2⟩ := seqL_at ft h m r
  rw [unD_eq hu, Fr.map_d] at g2
  unfold eqOk at hd
  rw [Bool.and_eq_true] at hd
  exact .lst g1 (RpA.py hid_sub (deep_lst hd.1).1 g2.data)
theorem den_in {n : Nat} (hr : Room n X.A) (ha : Den X a A) (hb : Den X b B) (hm : behindInMarks .In b = false := by first | exact nomark _ | rfl) : Den X (.Compare a [.In] [b] pos) (inE A B) :=
  den_map2 ha hb fun f es0 es m0 m1 ms x y d ft lx ly g pa pb => by
    unfold inS at g
    split at g
    · split at g
      · split at g
        · rename_i hh
          cases g
          rw [Bool.and_eq_true] at hh
          have hd := hh.1
          unfold eqOk at hd
          rw [Bool.and_eq_true] at hd
          have hl := hh.2
          unfold eqOk at hl
          rw [Bool.and_eq_true] at hl
          exact pe_w (pe_cmpR (op_inD (X := X) (by have := hr.un; omega)) pa pb hm) fun σ H Q ⟨as, s, k⟩ => ⟨as, s, fun v H1 m1 e1 r1 => ⟨as, s.step m1 e1, fun u H2 m2 e2 r2 => ⟨_, _, Rp.py hid_sub hd.1 (r1.mono e2), seqL_py ft ‹_› ‹_› hh.2 m2 r2, hd.2, hl.2, by
            have := k (.bl ((pyL _).any fun z => PyData.eqv z (pyD _))) H2 m2 (e1.trans e2) (by show Rp _ _ _ (.bl (false ^^ _)); rw [Bool.false_xor]; exact .bl _)
            exact this⟩⟩⟩
        · cases g
      · cases g
    · cases g
theorem den_nin {n : Nat} (hr : Room n X.A) (ha : Den X a A) (hb : Den X b B) (hm : behindInMarks .NotIn b = false := by first | exact nomark _ | rfl) : Den X (.Compare a [.NotIn] [b] pos) (ninE A B) :=
  den_map2 ha hb fun f es0 es m0 m1 ms x y d ft lx ly g pa pb => by
    unfold inS at g
    split at g
    · split at g
      · split at g
        · rename_i hh
          cases g
          rw [Bool.and_eq_true] at hh
          have hd := hh.1
          unfold eqOk at hd
          rw [Bool.and_eq_true] at hd
          have hl := hh.2
          unfold eqOk at hl
          rw [Bool.and_eq_true] at hl
          exact pe_w (pe_cmpR (op_notInD (X := X) (by have := hr.un; omega)) pa pb hm) fun σ H Q ⟨as, s, k⟩ => ⟨as, s, fun v H1 m1 e1 r1 => ⟨as, s.step m1 e1, fun u H2 m2 e2 r2 => ⟨_, _, Rp.py hid_sub hd.1 (r1.mono e2), seqL_py ft ‹_› ‹_› hh.2 m2 r2, hd.2, hl.2, by
            have := k (.bl (!(pyL _).any fun z => PyData.eqv z (pyD _))) H2 m2 (e1.trans e2) (by show Rp _ _ _ (.bl (true ^^ _)); rw [Bool.true_xor]; exact .bl _)
            exact this⟩⟩⟩
        · cases g
      · cases g
    · cases g
/-! ### lcm -/
def lcmS : Ms → Sv → Sv → Option Dt := fun _ x y => match x, y with
  | .d (.int i), .d (.int j) => if i.natAbs < 2 ^ 64 ∧ j.natAbs < 2 ^ 64 then some (.int (Int.lcm i j : Int)) else none
  | _, _ => none
def lcmE (A B : ED) : ED := map2 lcmS A B
theorem cr_lcm : CallR X (.builtin "math.lcm") (fun vs H Q => ∃ a b : Int, vs = [.int a, .int b] ∧ a.natAbs < 2 ^ 64 ∧ b.natAbs < 2 ^ 64 ∧ Q (.int (Int.lcm a b : Int)) H) := by
  intro pins s σ H vs us Q I r h
  obtain ⟨a, b, rfl, h1, h2, q⟩ := h
  obtain ⟨t, u, rfl⟩ := Vals.int2 r
  have e : ((Nat.lcm 1 a.natAbs).lcm b.natAbs : Nat) = Int.lcm a b := by
    have : Nat.lcm 1 a.natAbs = a.natAbs := by simp [Nat.lcm]
    rw [this]
    rfl
  have le : a.natAbs.lcm b.natAbs ≤ a.natAbs * b.natAbs := by
    unfold Nat.lcm
    exact Nat.div_le_self _ _
  have lt : a.natAbs * b.natAbs < 2 ^ 128 := by
    have := Nat.mul_lt_mul'' h1 h2
    rw [← Nat.pow_add] at this
    exact this
  refine PySem.W.mg_lcm h1 h2 ?_ ?_
  · rw [e]
    have : ((Int.lcm a b : Nat) : Int).natAbs < 2 ^ 128 := Nat.lt_of_le_of_lt le lt
    exact Nat.lt_trans (PySem.Flt.log2_lt_of (by decide) this) (by decide)
  · rw [e]
    exact ⟨.int _, H, I.tok _, ⟨_, rfl⟩, q⟩
theorem den_lcm {nm : Str} (hg : Gl X nm) (hm : X.mg nm = some (.builtin "math.lcm")) (ha : Den X a A) (hb : Den X b B) (hdb : (nm == ("__debug__" : Str)) = false := by decide)
    (he : starEach [a, b] X.env = (false, eval a X.env) :: starEach [b] X.env := by rfl) (he2 : starEach [b] X.env = (false, eval b X.env) :: starEach [] X.env := by rfl) (hpl : (backTo pos (starEach [b] X.env)).any (·.1) = false := by rfl) : Den X (.Call (.Name nm p) [a, b] [] pos) (lcmE A B) :=
  den_map2 ha hb fun f es0 es m0 m1 ms x y d ft lx ly g pa pb => by
    unfold lcmS at g
    split at g
    · split at g
      · rename_i hh
        cases g
        exact pe_w (pe_callBfun cr_lcm hg hm (a_cons pa (a_cons pb a_nil he2) he) hdb he hpl) fun σ H Q ⟨as, s, k⟩ => ⟨as, s, fun vs H1 m1 e1 r1 => by
          cases r1 with | cons r1 r2 => cases r2 with | cons r2 r3 => cases r3; cases r1; cases r2; exact ⟨_, _, rfl, hh.1, hh.2, k _ H1 m1 e1 (.int _)⟩⟩
      · cases g
    · cases g
/-! ### a, b = e -/
def asg2 (i j : Nat) (A : ED) (k : SD) : SD := fun es ms => match opx A es ms with
  | some (.v (.d d), m) => match tg2 i j d es with
    | some es1 => k es1 m
    | none => none
  | some (.x x, m) => some (.rs x es m)
  | _ => none
theorem ds_asg2 {i j : Nat} (hG : DenG X tg (tg2 i j)) (he : Den X e A) (hk : DenS X P rest k)
    (hs : swapsWithSole [tg] e pos.line X.env = pure false := by rfl) (hs2 : swappedStores [tg] e X.env = pure none := by rfl) (hs3 : (assignEach [tg] X.env).map (·.2) = [assign tg X.env] := by rfl) : DenS X P (.Assign [tg] e pos :: rest) (asg2 i j A k) := ⟨fun {W b f es ms o} tk hpo fb ft hp q => by
  unfold asg2 at q
  split at q
  · split at q
    · rename_i hg
      have ft1 := he.opF ft ‹_›
      exact s_unpack (he.opD ft ‹_›) hG.2 (hG.1.map hg) (hk.run tk hpo fb ⟨ft1.ok, ft1.len, hG.1.low hg ft1.le, ft1.lm⟩ hp q) hs hs2 hs3
    · cases q
  · cases q
    exact s_unpackX (he.opX tk ft ‹_›) hG.2 ⟨f, fb, he.opF ft ‹_›, rfl⟩ hs hs2 hs3
  · cases q⟩
end
end Dn
/-! # Dn9: texts; raise; try -/
namespace Dn
open PySem PySem.Spec L2 Dv
section
variable {X : Cx} {P : Nat} {e a b c tg elt iter : Expr} {A B C E : ED} {T U : TD} {J : ID} {G : GD} {S S1 S2 k : SD} {R : AD} {f : Fr} {es es1 : Es} {ms ms' ms1 ms2 : Ms} {p pos : Pos} {l u v rest body : List Stmt} {W : WX} {n : Nat} {sv : Sv} {Q : Out → Prop} {es0 : List Expr}
/-! ### texts -/
theorem sizeLine_ge {n : Nat} (h : n ≤ 1000000) : n ≤ sizeLine := Nat.le_trans h (by rw [sizeLine_eq]; decide)
def fmtS : Ms → Sv → Option Dt := fun _ x => match x with
  | .d (.str y) => if y.length ≤ 1000000 then some (.str y) else none
  | .d (.int i) => if i.natAbs.log2 < 1920 then some (.str (toString i)) else none
  | _ => none
def fmtE (A : ED) : ED := map1 fmtS A
theorem den_fmt (ha : Den X a A) : Den X (.FormattedValue a (-1) none pos) (fmtE A) := den_map1 ha fun f es0 es m0 ms x d ft lx g pa => by
  unfold fmtS at g
  split at g
  · split at g
    · cases g
      exact pe_w (pe_fmt pa) fun σ H Q ⟨as, s, k⟩ => ⟨as, s, fun v H1 m1 e1 r1 => by cases r1; exact .inl ⟨_, rfl, sizeLine_ge ‹_›, k _ H1 m1 e1 (.str _)⟩⟩
    · cases g
  · split at g
    · cases g
      exact pe_w (pe_fmt pa) fun σ H Q ⟨as, s, k⟩ => ⟨as, s, fun v H1 m1 e1 r1 => by cases r1; exact .inr ⟨_, rfl, ‹_›, k _ H1 m1 e1 (.str _)⟩⟩
    · cases g
  · cases g
def joinGo : List ED → Str → Es → Ms → Option (Str × Ms)
  | [], acc, _, ms => some (acc, ms)
  | A :: r, acc, es, ms => match opx A es ms with
    | some (.v (.d (.str y)), m) => if (acc ++ y).length ≤ 1000000 then joinGo r (acc ++ y) es m else none
    | _ => none
structure DenJ (X : Cx) (l : List Expr) (L : List ED) : Prop where
  val : ∀ {f : Fr} {es : Es} {ms ms' : Ms} {acc out : Str}, Fit f es ms → joinGo L acc es ms = some (out, ms') → ∃ ts, PJ X l ts ∧ ∀ (σ : St) (H : Hp) (Q : Str → Hp → Prop) (as : As), Sr X.K as (f.es es) (f.ms ms) σ H → (∀ H', MsR X.K as (f.ms ms') H' → Same (hid as H) (hid as H') → Q out H') → tJs ts acc σ H Q
  low : ∀ {es : Es} {ms ms' : Ms} {acc out : Str}, LowE ms.length es → Lows ms.length ms → joinGo L acc es ms = some (out, ms') → Lows ms.length ms' ∧ ms'.length = ms.length
theorem dj_nil : DenJ X [] [] where
  val := fun ft q => by cases q; exact ⟨[], .nil, fun σ H Q as s k => k H s.mem (Same.refl _)⟩
  low := fun le lm q => by cases q; exact ⟨lm, rfl⟩
theorem dj_cons {L : List ED} (ha : Den X a A) (hl : DenJ X es0 L) : DenJ X (a :: es0) (A :: L) where
  val := fun {f es ms ms' acc out} ft q => by
    unfold joinGo at q
    split at q
    · split at q
      · obtain ⟨ts, h1, h2⟩ := hl.val (ha.opF ft ‹_›) q
        exact ⟨_, .cons (ha.opD ft ‹_›) h1, fun σ H Q as s k => ⟨as, s, fun v H1 m1 e1 r1 => by
          cases r1
          exact ⟨_, rfl, sizeLine_ge ‹_›, h2 σ H1 Q as (s.step m1 e1) fun H2 m2 e2 => k H2 m2 (e1.trans e2)⟩⟩⟩
      · cases q
    · cases q
  low := fun {es ms ms' acc out} le lm q => by
    unfold joinGo at q
    split at q
    · split at q
      · have l1 := ha.opL le lm ‹_›
        have l2 := hl.low (by rw [l1.2.2]; exact le) (by rw [l1.2.2]; exact l1.2.1) q
        rw [l1.2.2] at l2
        exact l2
      · cases q
    · cases q
def joinE (L : List ED) : ED := fun es ms => match joinGo L Str.empty es ms with
  | some (out, m) => some (.v (.d (.str out)), m)
  | none => none
theorem den_joined {v1 v2 : Expr} {L : List ED} (hl : DenJ X (v1 :: v2 :: es0) L) : Den X (.JoinedStr (v1 :: v2 :: es0) pos) (joinE L) where
  val := fun {f es ms ms' s} ft q => by
    unfold joinE at q
    split at q
    · cases q
      obtain ⟨ts, h1, h2⟩ := hl.val ft ‹_›
      exact pe_w (pe_joined h1) fun σ H Q ⟨as, s, k⟩ => h2 σ H _ as s fun H' m e => k _ H' m e (.str _)
    · cases q
  new := fun {f es ms ms' s} ft q => by unfold joinE at q; split at q <;> cases q
  exc := fun {W f es ms ms' s} tk ft q => by unfold joinE at q; split at q <;> cases q
  low := fun {es ms ms' p} le lm q => by
    unfold joinE at q
    split at q
    · cases q; exact ⟨fun k e => (by cases e), hl.low le lm ‹_›⟩
    · cases q
def strS : Ms → Sv → Option Dt := fun _ x => match x with
  | .d (.str y) => some (.str y)
  | .d (.int i) => if i.natAbs.log2 < 1920 then some (.str (toString i)) else none
  | _ => none
def strE (A : ED) : ED := map1 strS A
theorem den_strE (hg : Gl X "str") (hm : X.mg "str" = none) (ha : Den X a A) (he : starEach [a] X.env = (false, eval a X.env) :: starEach [] X.env := by rfl) : Den X (.Call (.Name "str" p) [a] [] pos) (strE A) := den_map1 ha fun f es0 es m0 ms x d ft lx g pa => by
  unfold strS at g
  split at g
  · cases g
    exact d_callTy SkE.call_str_str hg hm (by decide +kernel) (a_cons pa a_nil he) (fun as vs H Q m rr k => by
      cases rr with | cons r1 r2 => cases r2; cases r1; exact ⟨_, rfl, k _ H m (Same.refl _) (.str _)⟩) (he := he)
  · split at g
    · cases g
      exact d_callTy call_str_int hg hm (by decide +kernel) (a_cons pa a_nil he) (fun as vs H Q m rr k => by
        cases rr with | cons r1 r2 => cases r2; cases r1; exact ⟨_, rfl, ‹_›, k _ H m (Same.refl _) (.str _)⟩) (he := he)
    · cases g
  · cases g
def bitsS : Ms → Sv → Option Dt := fun _ x => match x with
  | .d (.int i) => some (.int (Builtin.Int.intBits i : Nat))
  | _ => none
def bitsE (A : ED) : ED := map1 bitsS A
theorem den_bits {apos : Pos} (ha : Den X a A) (hb : attributeBase a "bit_length" X.env (eval a X.env) = eval a X.env := by rfl) (hl : (apos.endLine == pos.line) = true := by rfl) : Den X (.Call (.Attribute a "bit_length" apos) [] [] pos) (bitsE A) := den_map1 ha fun f es0 es m0 ms x d ft lx g pa => by
  unfold bitsS at g
  split at g
  · cases g
    exact pe_w (pe_bits pa hb hl) fun σ H Q ⟨as, s, k⟩ => ⟨as, s, fun v H1 m1 e1 r1 => by cases r1; exact ⟨_, rfl, k _ H1 m1 e1 (.int _)⟩⟩
  · cases g
def unS : List Sv → Option (List Str)
  | [] => some []
  | .d (.str x) :: r => (unS r).map (x :: ·)
  | _ => none
theorem unS_eq : ∀ {ss : List Sv} {ns : List Str}, unS ss = some ns → ss = (ns.map Dt.str).map Sv.d
  | [], ns, h => by cases h; rfl
  | .d (.str x) :: r, ns, h => by
    unfold unS at h
    obtain ⟨cs, h1, rfl⟩ := Option.map_eq_some_iff.mp h
    rw [unS_eq h1]
    rfl
  | .d .non :: _, _, h => by cases h
  | .d (.bl _) :: _, _, h => by cases h
  | .d (.int _) :: _, _, h => by cases h
  | .d (.lst _) :: _, _, h => by cases h
  | .d (.tup _) :: _, _, h => by cases h
  | .d (.obj _ _) :: _, _, h => by cases h
  | .m _ :: _, _, h => by cases h
  | .x _ _ _ _ :: _, _, h => by cases h
  | .u :: _, _, h => by cases h
theorem RpA.strs {K : PySem.W.Frag} {H : Hp} : ∀ {vs : List V} {ns : List Str}, RpA K H vs (ns.map Dt.str) → vs = ns.map V.str
  | _, [], .nil => rfl
  | _, n :: ns, .cons (.str _) r => congrArg (V.str n :: ·) (RpA.strs r)
def joinSS : Ms → Sv → Sv → Option Dt := fun ms x y => match x, seqS ms y with
  | .d (.str a), some ss => match unS ss with
    | some ys => if (ys.map (·.length)).sum + ys.length * a.length ≤ 1000000 then some (.str (Txt.join a ys)) else none
    | none => none
  | _, _ => none
def joinS (A B : ED) : ED := map2 joinSS A B
theorem den_joinS {apos : Pos} (ha : Den X a A) (hb : Den X b B) (hs : starEach [b] X.env = [(false, eval b X.env)] := by rfl) (hbase : attributeBase a "join" X.env (eval a X.env) = eval a X.env := by rfl) (hline : (apos.endLine == pos.line) = true := by rfl) : Den X (.Call (.Attribute a "join" apos) [b] [] pos) (joinS A B) :=
  den_map2 ha hb fun f es0 es m0 m1 ms x y d ft lx ly g pa pb => by
    unfold joinSS at g
    split at g
    · split at g
      · split at g
        · rename_i hz
          cases g
          exact pe_w (pe_join pa pb hs hbase hline) fun σ H Q ⟨as, s, k⟩ => ⟨as, s, fun v H1 m1 e1 r1 => by
            cases r1
            refine ⟨⟨_, rfl⟩, as, s.step m1 e1, fun u H2 m2 e2 r2 => ?_⟩
            obtain ⟨q, vs, rfl, g1, g2⟩ := seqS_at ft ‹_› m2 r2
            have hu := ‹unS _ = some _›
            rw [unS_eq hu, Fr.map_d] at g2
            have hv := RpA.strs g2.data
            subst hv
            exact ⟨_, q, _, rfl, rfl, g1, Nat.le_trans hz (by decide), k _ H2 m2 (e1.trans e2) (.str _)⟩⟩
        · cases g
      · cases g
    · cases g
/-! ### raise C(..) -/
/-- M: the message, asked with the arguments behind the error itself -/
def msgOk (M : ED) (ds : List Dt) : Bool := match M (none :: ds.map fun d => some (.d d)) [] with
  | some (.v (.d _), []) => true
  | _ => false
def raiseS (nm : Str) (flds : List Str) (M : ED) (R : AD) : SD := fun es ms => match R es ms with
  | some (.v ss, m) => match unD ss with
    | some ds => if ds.length = flds.length ∧ ds.length ≤ 1000 ∧ msgOk M ds = true then some (.rs ⟨nm, (flds.zip ds).reverse⟩ es m) else none
    | none => none
  | _ => none
/-- what an error's __init__ asks of its arguments -/
def okM (K : PySem.W.Frag) (M : ED) : Hp → List V → Prop := fun H vs => ∃ ds, msgOk M ds = true ∧ RpA K H vs ds
variable {PP : Program} {w : World} {K : PySem.W.Frag} {mg : Str → Option Value} {base : Heap} {x0 : Str} {lev k' : Nat} {flds : List Str} {M : ED}
theorem ds_raise {p0 : Pos} (TE : Err PP w K mg base lev x0 flds (okM K M)) (hX : PP = X.prog ∧ w = X.w ∧ K = X.K ∧ mg = X.mg ∧ base = X.base) (hr : Room k' X.A) (hk : lev + 1 ≤ k') (hc : X.calm = true) (hg : Gl X x0) (ha : DenA X (e :: es0) R)
    (hdb : (x0 == ("__debug__" : Str)) = false := by decide) (he : starEach (e :: es0) X.env = (false, eval e X.env) :: starEach es0 X.env := by rfl) (hpl : (backTo p (starEach es0 X.env)).any (·.1) = false := by rfl) :
    DenS X P (.Raise (some (.Call (.Name x0 p0) (e :: es0) [] p)) none pos :: rest) (raiseS x0 flds M R) := ⟨fun {W b f es ms o} tk hpo fb ft hp q => by
  unfold raiseS at q
  split at q
  · split at q
    · split at q
      · rename_i hh
        cases q
        have hu := ‹unD _ = some _›
        have hq := ‹R es ms = some (.v _, _)›
        rw [unD_eq hu] at hq
        have pa := ha.val ft hq
        rw [Fr.map_d] at pa
        have ek : K = X.K := hX.2.2.1
        refine s_raise tk TE hX hr hk hc hg pa hh.1 hh.2.1 (fun H vs r => ⟨_, hh.2.2, ?_⟩) ⟨f, fb, ha.fit ft hq, rfl⟩ hdb he hpl
        rw [ek]
        exact r
      · cases q
    · cases q
  · cases q⟩
/-! ### try: .. except C as e: return .. -/
abbrev HE := Xc → Option Dt
def hk (d : Dt) : HE := fun _ => some d
def hf (f : Str) : HE := fun x => x.fs.lookup f
def htGo : List HE → Xc → Option (List Dt)
  | [], _ => some []
  | h :: r, x => match h x with
    | some d => (htGo r x).map (d :: ·)
    | none => none
def ht (l : List HE) : HE := fun x => match htGo l x with
  | some ds => if ds.length ≤ 1000 then some (.tup ds) else none
  | none => none
/-- a handler's expression: i the slot of the error, cn its class -/
def DenH (X : Cx) (i : Nat) (cn : Str) (e : Expr) (h : HE) : Prop := ∀ (a : Addr) (oe : Obj) (pn : List (Addr × Obj)) (dd : Option Addr) (x : Xc) (d : Dt) (es : Es) (ms : Ms), x.C = cn → h x = some d → Zc (.ref (clsA X.K x.C)) dd oe → (∃ vs, oe.data = .fields vs) → i < es.length →
  PE (X.suite a ((a, oe) :: pn)) e (tD X.K (es.set i (some (.x a (.ref (clsA X.K x.C)) dd x))) ms (.d d) ms)
theorem dh_str {i : Nat} {cn s : Str} {j} : DenH X i cn (.Constant (.str s) j pos) (hk (.str s)) := fun a oe pn dd x d es ms hx h hz hv hl => by cases h; exact d_str
theorem dh_int {i : Nat} {cn : Str} {s : Int} {j} : DenH X i cn (.Constant (.int s) j pos) (hk (.int s)) := fun a oe pn dd x d es ms hx h hz hv hl => by cases h; exact d_int
theorem dh_fld {i : Nat} {cn nm fl : Str} {p1 : Pos} (hi : X.N[i]? = some nm) (T : XfC X.K (clsA X.K cn)) (hno : PySem.W.findIn X.K (.ref (clsA X.K cn)) fl = some none)
    (hv : Vis X.env.scope nm := by first | exact Or.inl rfl | exact Or.inr (Or.inl rfl) | exact Or.inr (Or.inr rfl)) (hd : (nm == ("__debug__" : Str)) = false := by decide) (hcd : (nm == ("__classdict__" : Str)) = false := by decide)
    (hb : attributeBase (.Name nm p1) fl X.env (eval (.Name nm p1) X.env) = eval (.Name nm p1) X.env := by rfl) : DenH X i cn (.Attribute (.Name nm p1) fl pos) (hf fl) := fun a oe pn dd x d es ms hx h hz hv' hl => by
  subst hx
  refine d_xf (x := x) T hno hz hv' (pe_w (pe_var (X := X.suite a ((a, oe) :: pn)) (i := i) hi hv hd hcd) fun σ H Q ⟨as, sr, k⟩ => ?_) h hb
  obtain ⟨v, e1, e2⟩ := sr.env i (.x a (.ref (clsA X.K x.C)) dd x) (List.getElem?_set_self hl)
  exact ⟨v, e1, k v H sr.mem (Same.refl _) e2⟩
inductive DenHs (X : Cx) (i : Nat) (cn : Str) : List Expr → List HE → Prop
  | nil : DenHs X i cn [] []
  | cons {e : Expr} {es : List Expr} {h : HE} {hs : List HE} (he : DenH X i cn e h) (hst : starEach (e :: es) X.env = (false, eval e X.env) :: starEach es X.env) (r : DenHs X i cn es hs) : DenHs X i cn (e :: es) (h :: hs)
theorem dhs_run {i : Nat} {cn : Str} {l : List Expr} {hs : List HE} (h : DenHs X i cn l hs) : ∀ (a : Addr) (oe : Obj) (pn : List (Addr × Obj)) (dd : Option Addr) (x : Xc) (ds : List Dt) (es : Es) (ms : Ms), x.C = cn → htGo hs x = some ds → Zc (.ref (clsA X.K x.C)) dd oe → (∃ vs, oe.data = .fields vs) → i < es.length →
    PA (X.suite a ((a, oe) :: pn)) l (tAr X.K (es.set i (some (.x a (.ref (clsA X.K x.C)) dd x))) ms (ds.map Sv.d) ms) := by
  induction h with
  | nil => intro a oe pn dd x ds es ms hx q hz hv hl; cases q; exact a_nil
  | cons he hst r ih =>
    intro a oe pn dd x ds es ms hx q hz hv hl
    unfold htGo at q
    split at q
    · obtain ⟨ds', h1, rfl⟩ := Option.map_eq_some_iff.mp q
      exact a_cons (X := X.suite a ((a, oe) :: pn)) (he a oe pn dd x _ es ms hx ‹_› hz hv hl) (ih a oe pn dd x ds' es ms hx h1 hz hv hl) hst
    · cases q
theorem dh_tup {i : Nat} {cn : Str} {l : List Expr} {hs : List HE} {x1} (h : DenHs X i cn l hs) : DenH X i cn (.Tuple l x1 pos) (ht hs) := fun a oe pn dd x d es ms hx q hz hv hl => by
  unfold ht at q
  split at q
  · split at q
    · cases q
      exact d_tup (dhs_run h a oe pn dd x _ es ms hx ‹_› hz hv hl) ‹_›
    · cases q
  · cases q
/-- one handler: cn its class, oth the classes that it lets pass -/
def try1 (i : Nat) (S : SD) (cn : Str) (h : HE) (oth : List Str) (k : SD) : SD := fun es ms => match S es ms with
  | some (.rs x e m) => if x.C = cn then (if i < e.length then match h x with
      | some d => some (.rt d m)
      | none => none
      else none)
    else if x.C ∈ oth then some (.rs x e m) else none
  | o => seqO o k
theorem DenS.tr {pn : List (Addr × Obj)} {xe : Value → Shared → Prop} (hc : ∀ (W' : WX) (pn : List (Addr × Obj)) (xe : Value → Shared → Prop), Takes (X.tr pn xe) W' → True) : True := trivial
theorem ds_try1 {i : Nat} {nm cn : Str} {h : HE} {oth : List Str} {np pos' rp : Pos} {he : Expr} (nd : X.N.Nodup) (hi : X.N[i]? = some nm) (hb : ∀ pn xe, DenS (X.tr pn xe) P body S) (hh : DenH X i cn he h) (hk : DenS X P rest k)
    (hnm : Names X cn (.ref (clsA X.K cn))) (h1 : PySem.W.exmOne X.K (.ref (clsA X.K cn)) (.ref (clsA X.K cn)) = some true) (h2 : ∀ c ∈ oth, PySem.W.exmOne X.K (.ref (clsA X.K c)) (.ref (clsA X.K cn)) = some false)
    (hs : X.stack = X.env :: X.outer := by rfl) (hf : X.env.frame = some X.env.locals := by rfl) (hln : X.env.kindOf nm = some .local := by rfl) :
    DenS X P (.Try body [.ExceptHandler (some (.Name cn np)) (some nm) [.Return (some he) rp] pos'] [] [] pos :: rest) (try1 i S cn h oth k) := ⟨fun {W b f es ms o} tk hpo fb ft hp q => by
  unfold try1 at q
  cases hS : S es ms with
  | none => rw [hS] at q; cases q
  | some o1 =>
    rw [hS] at q
    refine s_try (i := i) (hp' := ⟨0, 0, 0, 0⟩) (Pb := OutF b o1) nd hi hs hf hln hnm tk (fun W' pn xe tk' hpo' => (hb pn xe).run tk' hpo' fb ft hp hS) (fun o' ho => ?_)
    obtain ⟨f', fb', fo, rfl⟩ := ho
    cases o1 with
    | nx e m => exact hk.run tk hpo fb' fo hp q
    | rt d m => cases q; exact ⟨f', fb', fo, rfl⟩
    | rn j m => cases q; exact ⟨f', fb', fo, rfl⟩
    | bk e m => cases q; exact ⟨f', fb', fo, rfl⟩
    | ct e m => cases q; exact ⟨f', fb', fo, rfl⟩
    | rs x e m =>
      dsimp only at q
      split at q
      · rename_i hx
        split at q
        · rename_i hl
          split at q
          · rename_i d hd
            cases q
            refine ⟨true, by rw [hx]; exact h1, fun z => Bool.noConfusion z, fun _ a dd oe pn hz hv => ?_⟩
            exact s_ret (hh a oe pn dd x d (f'.es e) (f'.ms m) hx hd hz hv (by unfold Fr.es; rw [List.length_map]; exact hl)) ⟨f', fb', fo.nil, rfl⟩
          · cases q
        · cases q
      · split at q
        · rename_i hx2
          cases q
          exact ⟨false, h2 _ hx2, fun _ => ⟨f', fb', fo, rfl⟩, fun z => Bool.noConfusion z⟩
        · cases q⟩
end
end Dn
/-! # Dn10: what the ties to a text ask -/
namespace Dn
open PySem PySem.Spec L2 Dv
def biNames : List Str := ["len", "int", "abs", "isinstance", "range", "list", "tuple", "bool", "str", "sum", "max", "min", "all", "any", "sorted", "enumerate", "zip", "dict"]
structure BlkH (X : Cx) (N : List Str) (sc : Scope) : Prop where
  hN : X.N = N
  hs : X.env.scope = sc
theorem blkApply {X : Cx} {N : List Str} {sc scope : Scope} {own : List (Str × Nat)} (h : BlkH X N sc) (q : blkC N sc scope own = true) : BlkOk X.N X.env.scope scope own := by
  rw [h.hN, h.hs]
  exact blkOk_by q
end Dn
namespace Dn
open PySem
structure Bx (mg : Str → Option Value) : Prop where
  all : ∀ nm, nm ∈ biNames → mg nm = none
theorem Bx.at {mg : Str → Option Value} {nm : Str} (h : Bx mg) (q : nm ∈ biNames) : mg nm = none := h.all nm q
end Dn
namespace Dn
open Dv
def natAt (i : Nat) (es : Es) (_ : Ms) : Nat := match es[i]? with
  | some (some (Sv.d (Dt.int j))) => j.natAbs + 1
  | _ => 0
end Dn
/-! # Dn11: defs that call themselves; the __init__ of an error; list(range(..)) -/
namespace Dn
open PySem PySem.Spec L2 Dv
section
variable {PP : Program} {w : World} {K : PySem.W.Frag} {mg : Str → Option Value} {base : Heap} {f : Addr} {fd : FuncData} {ps : List Str} {nm : Str} {k : Nat}
def noF : FD := fun _ _ => none
theorem fn_none {CX : CXT} : FnOk PP w K mg base CX k f fd ps (Pr K (preF noF)) where
  len := fun vs H Q E ⟨as, ss, ms, R, m, r, ⟨fm, o, h1, h2, h3, h4, h5⟩, _⟩ => by cases h4
  run := fun A outer s H args us vs Q E hr he hb hv ⟨as, ss, ms, R, m, r, ⟨fm, o, h1, h2, h3, h4, h5⟩, _⟩ => by cases h4
theorem cal_none (g : mg nm = some (.ref f)) (kp : PySem.W.keepIn K (.ref f) = true) (b : Binds K fd ps []) : Cal PP w K mg base nm k noF :=
  ⟨⟨⟨f, fd, ps, fn_none, g, kp, b⟩⟩, fun _ _ _ h => by cases h⟩
theorem cal_of {np N P : Nat} {S : SD} (F : FnOk PP w K mg base (L2.CX PP w) k f fd ps (Pr K (preF (runDef np N P S)))) (g : mg nm = some (.ref f)) (kp : PySem.W.keepIn K (.ref f) = true) (b : Binds K fd ps []) : Cal PP w K mg base nm k (runDef np N P S) :=
  ⟨⟨⟨f, fd, ps, F, g, kp, b⟩⟩, runDef_out⟩
/-- a def that calls itself, to the depth n -/
def recDef (np N P : Nat) (S : FD → SD) : Nat → FD
  | 0 => noF
  | n + 1 => runDef np N P (S (recDef np N P S n))
theorem cal_rec {np N P L : Nat} {S : FD → SD} (h : ∀ (n : Nat) (self : FD), Cal PP w K mg base nm (n + L) self → FnOk PP w K mg base (L2.CX PP w) (n + L + 1) f fd ps (Pr K (preF (runDef np N P (S self))))) (g : mg nm = some (.ref f)) (kp : PySem.W.keepIn K (.ref f) = true) (b : Binds K fd ps []) :
    ∀ n : Nat, Cal PP w K mg base nm (n + L) (recDef np N P S n)
  | 0 => cal_none g kp b
  | n + 1 => by
    have := cal_of (h n _ (cal_rec h g kp b n)) g kp b
    rw [show n + L + 1 = n + 1 + L by omega] at this
    exact this
end
/-! ### the __init__ of an error -/
theorem msg_run {X : Cx} {e : Expr} {M : ED} {ds : List Dt} (h : Den X e M) (hm : msgOk M ds = true) : ∃ d, PE X e (tD X.K (none :: ds.map fun d => some (.d d)) [] (.d d) []) := by
  unfold msgOk at hm
  split at hm
  · rename_i d hq
    have le : LowE 0 (none :: ds.map fun d => some (Sv.d d)) := fun i k hi => by
      cases i with
      | zero => cases hi
      | succ i =>
        rw [List.getElem?_cons_succ, List.getElem?_map] at hi
        cases q : ds[i]? with
        | none => rw [q] at hi; cases hi
        | some d => rw [q] at hi; cases hi
    have ft : Fit ⟨[], []⟩ (none :: ds.map fun d => some (.d d)) [] := ⟨⟨List.nodup_nil, fun k hk => by cases hk⟩, rfl, le, fun i c hi => by simp at hi⟩
    have := h.val ft hq
    have e1 : Fr.es ⟨[], []⟩ (none :: ds.map fun d => some (Sv.d d)) = (none :: ds.map fun d => some (.d d)) := by
      unfold Fr.es
      rw [List.map_cons, List.map_map]
      rfl
    rw [e1] at this
    exact ⟨d, this⟩
  · cases hm
theorem hid_nil (H : Hp) : hid [] H = H := by
  funext b
  unfold hid
  rw [if_neg (by simp)]
theorem init_sr {K : PySem.W.Frag} {H : Hp} {a : Addr} {xs : List V} {ds : List Dt} {N : List Str} (h : RpA K H xs ds) (hl : N.length = xs.length + 1) : Sr K [] (none :: ds.map fun d => some (.d d)) [] (L2.start N (.ref a :: xs)) H where
  len := by
    unfold L2.start
    simp [hl, h.len]
  env := fun i sv hi => by
    cases i with
    | zero => cases hi
    | succ i =>
      rw [List.getElem?_cons_succ, List.getElem?_map] at hi
      cases q : ds[i]? with
      | none => rw [q] at hi; cases hi
      | some d =>
        rw [q] at hi
        cases hi
        obtain ⟨v, h1, h2⟩ := h.get q
        refine ⟨v, ?_, by show Rp K (hid [] H) v d; rw [hid_nil]; exact h2⟩
        unfold L2.start
        rw [List.getElem?_append_left (by simp; exact (List.getElem?_eq_some_iff.mp h1).1)]
        simp [h1]
  mem := ⟨rfl, fun i j b hi => by simp at hi, fun i b hi => by simp at hi, fun i hi => by simp at hi⟩
/-! ### list(range(..)) -/
section
variable {X : Cx} {a b : Expr} {A B : ED} {f : Fr} {es : Es} {ms ms' : Ms} {p p2 pos pos2 : Pos}
def listR2 (A B : ED) : ED := fun es ms => match opx A es ms with
  | some (.v (.d (.int i)), m1) => match opx B es m1 with
    | some (.v (.d (.int j)), m) => if -(2 ^ 62) ≤ i ∧ i < 2 ^ 62 ∧ -(2 ^ 62) ≤ j ∧ j < 2 ^ 62 ∧ (j - i).toNat ≤ 100000 then some (.n ((irange i (j - i).toNat).map Sv.d), m) else none
    | _ => none
  | _ => none
theorem listR2_eq {q : Pv} (h : listR2 A B es ms = some (q, ms')) : ∃ i j m1, opx A es ms = some (.v (.d (.int i)), m1) ∧ opx B es m1 = some (.v (.d (.int j)), ms') ∧ (-(2 ^ 62) ≤ i ∧ i < 2 ^ 62 ∧ -(2 ^ 62) ≤ j ∧ j < 2 ^ 62 ∧ (j - i).toNat ≤ 100000) ∧ q = .n ((irange i (j - i).toNat).map Sv.d) := by
  unfold listR2 at h
  split at h
  · split at h
    · split at h
      · cases h; exact ⟨_, _, _, ‹_›, ‹_›, ‹_›, rfl⟩
      · cases h
    · cases h
  · cases h
theorem rg_data {K : PySem.W.Frag} {H : Hp} {i j : Int} : RpA K H (rgV i j) (irange i (j - i).toNat) := by
  unfold rgV irange
  generalize List.range (j - i).toNat = l
  induction l with
  | nil => exact .nil
  | cons x l ih => exact .cons (.int _) ih
theorem den_listR2 (hc : X.calm = true) (hg : Gl X "list") (hm : X.mg "list" = none) (hg2 : Gl X "range") (hm2 : X.mg "range" = none) (ha : Den X a A) (hb : Den X b B) (na : starEach [a, b] X.env = (false, eval a X.env) :: starEach [b] X.env := by rfl) (nb : starEach [b] X.env = (false, eval b X.env) :: starEach [] X.env := by rfl) (hp : (backTo pos2 (starEach [b] X.env)).any (fun x => x.fst) = false := by rfl) : Den X (.Call (.Name "list" p) [.Call (.Name "range" p2) [a, b] [] pos2] [] pos) (listR2 A B) where
  val := fun ft q => by obtain ⟨i, j, m1, h1, h2, h3, h4⟩ := listR2_eq q; cases h4
  new := fun {f es ms ms' s} ft q => by
    obtain ⟨i, j, m1, h1, h2, h3, h4⟩ := listR2_eq q
    cases h4
    rw [Fr.map_d]
    exact pe_w (pe_listRg hc hg hm (prg_2 hg2 hm2 (ha.opV ft h1) (hb.opV (ha.opF ft h1) h2) (na := na) (nb := nb) (hp := hp))) fun σ H Q ⟨as, s, k⟩ => ⟨as, s, fun v H1 m1 e1 r1 => ⟨as, s.step m1 e1, fun u H2 m2 e2 r2 => by
      cases r1
      cases r2
      have e3 := e1.trans e2
      exact ⟨_, _, rfl, rfl, ⟨h3.1, h3.2.1, h3.2.2.1, h3.2.2.2.1, Nat.le_trans h3.2.2.2.2 (by decide)⟩, fun q hq => k q _ ((m2.more hq (ArR.of rg_data)).of e3 (old_of e3 m2 hq))⟩⟩⟩
  exc := fun tk ft q => by obtain ⟨i, j, m1, h1, h2, h3, h4⟩ := listR2_eq q; cases h4
  low := fun {es ms ms' p} le lm q => by
    obtain ⟨i, j, m1, h1, h2, h3, rfl⟩ := listR2_eq q
    exact ⟨low_data _ _, opx2_low ha hb le lm h1 h2⟩
end
end Dn
/-! # Dn12: objects: fields, methods, making, len(o), o[k] -/
namespace Dn
open PySem PySem.Spec L2 Dv
/-! ### rules at the level of values -/
section
variable {X : Cx} {CX : CXT} {k : Nat} {f C : Addr} {fd : FuncData} {ps : List Str} {sp : Sp} {E : St → XK} {x m : Str} {p pos apos : Pos} {e o a b : Expr} {es : List Expr} {ta tb : TE} {t : TA}
def tMethT (C : Addr) (m : Str) (sp : Sp) (E : St → XK) (ta : TE) (t : TA) : TE := fun σ H Q => ta σ H fun x H1 => ∃ a dx fs, x = .ref a ∧ H1 a = some (.ins C dx fs) ∧ fs.lookup m = none ∧ t σ H1 fun vs H2 => sp (x :: vs) H2 Q (E σ)
theorem pe_methT {pl : Sem Bool} (he : PE X o ta) (c : Cls X.K C) (hm : Meth X.K C m f) (F : FnOk X.prog X.w X.K X.mg X.base CX k f fd ps sp) (hr : Room k X.A) (hb : Binds X.K fd ps []) (hx : ∀ σ, PassesAt CX X σ (E σ)) (ha : PA X (e :: es) t)
    (hst : starEach (e :: es) X.env = (false, eval e X.env) :: starEach es X.env := by rfl) (hpl : (backTo pos (starEach es X.env)).any (·.1) = false := by rfl)
    (ht : eval (.Call (.Attribute o m apos) (e :: es) [] pos) X.env = (do
      let ov ← eval o X.env
      standAt apos.atName
      let (f, first) ← holding [ov] (getMethod ov m pl)
      callWith pos f first (backTo pos (starEach (e :: es) X.env)) (backToKw pos (keywordEach [] X.env))) := by rfl) :
    PE X (.Call (.Attribute o m apos) (e :: es) [] pos) (tMethT C m sp E ta t) := by
  refine ⟨fun pins s σ H Q I h => ?_⟩
  refine PySem.W.methodCall_KW (pl := pl) (thn (he.run pins s σ H _ I h) fun u s1 ⟨x, H1, I1, rx, a, dx, fs, ex, ea, l, q⟩ => ?_) ht
  subst ex
  obtain rfl : u = Value.ref a := rx
  refine getmeth_ok I1 ea c hm l ?_
  refine PySem.W.callWith_K (first := [.ref a]) (h₀ := X.base) I.ok.mod.kin hm.kp (thn (ha.run pos pins s1 σ H1 _ I1 q) fun us s2 ⟨vs, H2, I2, r, q2⟩ => ⟨I2.kIn, ?_⟩) hst hpl
  exact run_fnS (us := .ref a :: us) (vs := .ref a :: vs) F hr hb (hx σ) I2 (.cons rfl r) q2
theorem pe_methT0 {pl : Sem Bool} (he : PE X o ta) (c : Cls X.K C) (hm : Meth X.K C m f) (F : FnOk X.prog X.w X.K X.mg X.base CX k f fd ps sp) (hr : Room k X.A) (hb : Binds X.K fd ps []) (hx : ∀ σ, PassesAt CX X σ (E σ))
    (ht : eval (.Call (.Attribute o m apos) [] [] pos) X.env = (do
      let ov ← eval o X.env
      standAt apos.atName
      let (f, first) ← holding [ov] (getMethod ov m pl)
      callWith pos f first (backTo pos (starEach [] X.env)) (backToKw pos (keywordEach [] X.env))) := by rfl) :
    PE X (.Call (.Attribute o m apos) [] [] pos) (tMethT C m sp E ta tNil) := by
  refine ⟨fun pins s σ H Q I h => ?_⟩
  refine PySem.W.methodCall_KW (pl := pl) (thn (he.run pins s σ H _ I h) fun u s1 ⟨x, H1, I1, rx, a, dx, fs, ex, ea, l, q⟩ => ?_) ht
  subst ex
  obtain rfl : u = Value.ref a := rx
  refine getmeth_ok I1 ea c hm l ?_
  exact PySem.W.callWith_K0 (first := [.ref a]) I1.kIn hm.kp (run_fnS (us := [.ref a]) (vs := [.ref a]) F hr hb (hx σ) I1 (.cons rfl .nil) q)
def tMakeT (C : Addr) (sp : Sp) (E : St → XK) (t : TA) : TE := fun σ H Q => t σ H fun vs H1 => ∀ x dx, H1 x = none → H1 dx = none → dx ≠ x →
  sp (V.ref x :: vs) (upd (upd H1 dx (.own x)) x (.ins C dx [])) (fun v H2 => v = .non ∧ Q (.ref x) H2) (E σ)
theorem run_makeT {pins : List (Addr × Obj)} {σ : St} {H : Hp} {s : Shared} {Q : VK} {us : List Value} {vs : List V} (M : Mk X.K C f) (F : FnOk X.prog X.w X.K X.mg X.base CX k f fd ps sp) (hr : Room (k + 1) X.A) (hb : Binds X.K fd ps [])
    (hx : PassesAt CX X σ (E σ)) (I : Inv X pins σ H s) (r : Vals vs us)
    (h : ∀ x dx, H x = none → H dx = none → dx ≠ x → sp (.ref x :: vs) (upd (upd H dx (.own x)) x (.ins C dx [])) (fun v H2 => v = .non ∧ Q (.ref x) H2) (E σ)) :
    wpAny (model X.prog X.w) X.A (PySem.call (.ref C) us) (EP X pins σ Q) X.xe s := by
  have hq := h (s.heap.objs.size + 1) s.heap.objs.size (I.hok.fresh (Nat.le_succ _)) (I.hok.fresh (Nat.le_refl _)) (Nat.ne_of_lt (Nat.lt_succ_self _))
  have I2 := Inv.made (C := C) I
  have r2 : Vals (V.ref (s.heap.objs.size + 1) :: vs) (Value.ref (s.heap.objs.size + 1) :: us) := .cons rfl r
  have hl : (Value.ref (s.heap.objs.size + 1) :: us).length = ps.length := by
    have e := r2.length
    rw [F.len _ _ _ _ hq] at e
    exact e.symm
  have hbs := hb _ (Value.ref (s.heap.objs.size + 1) :: us) I2.kIn (by rw [List.append_nil]; exact hl)
  rw [List.append_nil] at hbs
  refine wpAny_call (L2.make_map (f := f) I.kIn M.makes M.init (beq_iff_eq.mp M.fn) (codeAny_mono (F.run _ X.stack _ _ ⟨Value.ref (s.heap.objs.size + 1) :: us, []⟩ (Value.ref (s.heap.objs.size + 1) :: us) _ _ (E σ) (hr.make C us [])
    (I2.env0.make C us []) hbs r2 hq) fun r s' hq' => ?_))
  cases r with
  | error e => exact hx pins _ _ e s' I2 hq'
  | ok fl =>
    cases fl with
    | ret u =>
      obtain ⟨v, H', I3, rv, ev, q3⟩ := I2.after hq'
      subst ev
      exact ⟨rv, ⟨V.ref (s.heap.objs.size + 1), H', I3, rfl, q3⟩⟩
    | next => exact False.elim hq'
    | brk => exact False.elim hq'
    | cont => exact False.elim hq'
theorem pe_makeT (M : Mk X.K C f) (F : FnOk X.prog X.w X.K X.mg X.base CX k f fd ps sp) (hr : Room (k + 1) X.A) (hg : Gl X x) (hm : X.mg x = some (.ref C)) (hb : Binds X.K fd ps []) (hx : ∀ σ, PassesAt CX X σ (E σ))
    (ha : PA X (e :: es) t) (hdb : (x == ("__debug__" : Str)) = false := by decide) (he : starEach (e :: es) X.env = (false, eval e X.env) :: starEach es X.env := by rfl) (hpl : (backTo pos (starEach es X.env)).any (·.1) = false := by rfl) :
    PE X (.Call (.Name x p) (e :: es) [] pos) (tMakeT C sp E t) := by
  refine ⟨fun pins s σ H Q I h => ?_⟩
  refine wpAny_Call_Name_kw (ld_glob I hg hm ?_ hdb)
  refine PySem.W.callWith_K (h₀ := X.base) I.ok.mod.kin M.kp (thn (ha.run pos pins s σ H _ I h) fun us s1 ⟨vs, H1, I1, r, q⟩ => ⟨I1.kIn, ?_⟩) he hpl
  exact run_makeT M F hr hb (hx σ) I1 r q
/-- the callee runs, one call deeper -/
theorem run_in1 {pins : List (Addr × Obj)} {σ : St} {H : Hp} {s : Shared} {Q : VK} {us : List Value} {vs : List V} (F : FnOk X.prog X.w X.K X.mg X.base CX k f fd ps sp) (hr : Room (k + 1) X.A) (hb : Binds X.K fd ps []) (hx : PassesAt CX X σ (E σ))
    (I : Inv X pins σ H s) (r : Vals vs us) (h : sp vs H Q (E σ)) : wpAny (model X.prog X.w) X.A.in1 (PySem.call (.ref f) us) (EP X pins σ Q) X.xe s := by
  have hl : us.length = ps.length := by rw [← r.length]; exact F.len _ _ _ _ h
  have b := hb s us I.kIn (by rw [List.append_nil]; exact hl)
  rw [List.append_nil] at b
  refine wpAny_call (codeAny_mono (F.run X.A.in1 X.stack s H ⟨us, []⟩ us vs Q (E σ) hr.in1 I.env0.in1 b r h) fun r s' hq => ?_)
  cases r with
  | error e => exact hx pins H s e s' I hq
  | ok fl =>
    cases fl with
    | ret u => exact I.after hq
    | next => exact False.elim hq
    | brk => exact False.elim hq
    | cont => exact False.elim hq
/-- o[i] by the class's own def -/
def tItemO (C : Addr) (sp : Sp) (E : St → XK) (ta tb : TE) : TE := fun σ H Q => ta σ H fun x H1 => tb σ H1 fun y H2 => ∃ a dx fs, x = .ref a ∧ H2 a = some (.ins C dx fs) ∧ sp [x, y] H2 Q (E σ)
theorem pe_itemO (ha : PE X a ta) (hb : PE X b tb) (hs : PySem.W.findIn X.K (.ref C) "__getitem__" = some (some (.ref f))) (hf : PySem.W.fnIn X.K f = true) (hfn : PySem.W.isFn X.K (.ref f) = true) (F : FnOk X.prog X.w X.K X.mg X.base CX k f fd ps sp) (hr : Room (k + 1) X.A)
    (hbd : Binds X.K fd ps []) (hx : ∀ σ, PassesAt CX X σ (E σ)) (hp : PlainIx b := by exact fun _ _ => rfl)
    (hsl : ∀ x i, subscripted b true (.ref x) i = runValue (.builtin "lifetime.subscript" ⟨[.ref x, i], []⟩) := by intro _ _; with_unfolding_all rfl) : PE X (.Subscript a b pos) (tItemO C sp E ta tb) := by
  refine ⟨fun pins s σ H Q I h => ?_⟩
  refine PyProof.Rows.Subscript_ (binT ha hb I h fun v u s2 x y H2 I2 rx ry q => ?_)
  obtain ⟨q0, dx, fs, ex, ea, q⟩ := q
  subst ex
  obtain rfl : v = Value.ref q0 := rx
  obtain ⟨mA, J, _⟩ := ins_get I2.hok ea
  obtain ⟨od, J, _⟩ := J.look
  obtain ⟨m, hF⟩ := I2.fr
  refine PySem.W.sub_K hF I2.ok.mod.kin J hs hf hfn ?_ (hsl _ _)
  exact run_in1 (vs := [V.ref q0, y]) (us := [Value.ref q0, u]) F hr hbd (hx σ) I2 (.cons rfl (.cons ry .nil)) q
/-- len(o) by the class's own def -/
def rLenO (C : Addr) (sp : Sp) : List V → Hp → VK → Prop := fun xs H Q => ∃ a dx fs, xs = [.ref a] ∧ H a = some (.ins C dx fs) ∧ sp [V.ref a] H (fun z H' => ∃ n : Int, z = .int n ∧ (0 ≤ n ∧ n < 2 ^ 63) ∧ Q (.int n) H') (fun _ _ _ => False)
theorem cr_lenO (hs : PySem.W.findIn X.K (.ref C) "__len__" = some (some (.ref f))) (hfn : PySem.W.isFn X.K (.ref f) = true) (F : FnOk X.prog X.w X.K X.mg X.base (L2.CX X.prog X.w) k f fd ps sp) (hr : Room (k + 1) X.A)
    (hbd : Binds X.K fd ps []) : CallR X (.builtin "len") (rLenO C sp) := by
  intro pins s σ H xs us Q I r h
  obtain ⟨q0, dx, fs, rfl, ea, q⟩ := h
  cases r with | cons r1 r2 =>
    cases r2
    cases r1
    obtain ⟨mA, J, _⟩ := ins_get I.hok ea
    obtain ⟨od, J, _⟩ := J.look
    obtain ⟨m, hF⟩ := I.fr
    refine PySem.W.len_K hF I.ok.mod.kin J hs hfn ?_
    refine thn (run_in1 (vs := [V.ref q0]) (us := [Value.ref q0]) (E := fun _ _ _ _ => False) F hr hbd (fun pins H s e s' I c => passNone pins σ H s e s' I c) I (.cons rfl .nil) q) fun u s1 ⟨z, H1, I1, rz, n, ez, hn, q1⟩ => ?_
    subst ez
    obtain ⟨t, rfl⟩ := (show ∃ t, u = Value.int n t from rz)
    exact ⟨hn, ⟨.int n, H1, I1.tok _, ⟨_, rfl⟩, q1⟩⟩
end
end Dn
/-! # Dn13: what fields, methods, new objects mean -/
namespace Dn
open PySem PySem.Spec L2 Dv
/-! ### facts of a class -/
structure CalM (P : Program) (w : World) (K : PySem.W.Frag) (mg : Str → Option Value) (base : Heap) (cn m : Str) (k : Nat) (F : FD) : Prop where
  cal : ∃ f fd ps, FnOk P w K mg base (L2.CX P w) k f fd ps (Pr K (preF F)) ∧ Meth K (clsA K cn) m f ∧ PySem.W.fnIn K f = true ∧ L2.Binds K fd ps []
  cls : Cls K (clsA K cn)
  out : ∀ ss fm o, F ss fm = some o → outOk fm.length o = true
structure CalI (P : Program) (w : World) (K : PySem.W.Frag) (mg : Str → Option Value) (base : Heap) (cn : Str) (k : Nat) (F : FD) : Prop where
  cal : ∃ f fd ps, FnOk P w K mg base (L2.CX P w) k f fd ps (Pr K (preF F)) ∧ Mk K (clsA K cn) f ∧ L2.Binds K fd ps []
  mg : mg cn = some (.ref (clsA K cn))
  out : ∀ ss fm o, F ss fm = some o → outOk fm.length o = true
/-! ### objects in the store -/
section
variable {K : PySem.W.Frag} {as : As} {ms : Ms} {H H' : Hp}
theorem RpF.lookN {f : Str} : ∀ {fs : List (Str × V)} {ds : List (Str × Dt)}, RpF K H fs ds → ds.lookup f = none → fs.lookup f = none
  | _, _, .nil, _ => rfl
  | _, _, .cons (f := g) h r, e => by
    rw [List.lookup_cons] at e ⊢
    split at e
    · cases e
    · exact RpF.lookN r e
theorem FsR.lookN {f : Str} : ∀ {fs : List (Str × V)} {ds : List (Str × Sv)}, FsR K as H fs ds → ds.lookup f = none → fs.lookup f = none
  | _, _, .nil, _ => rfl
  | _, _, .cons (f := g) h r, e => by
    rw [List.lookup_cons] at e ⊢
    split at e
    · cases e
    · exact FsR.lookN r e
theorem FsR.look {f : Str} {s : Sv} : ∀ {fs : List (Str × V)} {ds : List (Str × Sv)}, FsR K as H fs ds → ds.lookup f = some s → ∃ v, fs.lookup f = some v ∧ ValR K as H v s
  | _, _, .nil, h => by simp at h
  | _, _, .cons (f := g) (v := v) h r, e => by
    rw [List.lookup_cons] at e ⊢
    split at e
    · cases e; exact ⟨v, rfl, h⟩
    · exact FsR.look r e
theorem FsR.data : ∀ {fs : List (Str × V)} {ds : List (Str × Dt)}, FsR K as H fs (ds.map fun p => (p.1, Sv.d p.2)) → RpF K (hid as H) fs ds
  | _, [], .nil => .nil
  | _, (_, _) :: _, .cons h r => .cons h (FsR.data r)
theorem FsR.len : ∀ {fs : List (Str × V)} {ds : List (Str × Sv)}, FsR K as H fs ds → fs.length = ds.length
  | _, _, .nil => rfl
  | _, _, .cons _ r => congrArg Nat.succ (FsR.len r)
/-- a new thing of ours, of any kind -/
theorem MsR.moreC (m : MsR K as ms H) {p : Addr} {o : HO} {c : Cell} (h : H p = none) (r : CellR K as H o c) : MsR K (as ++ [some p]) (ms ++ [some c]) (upd H p o) ∧ Same (hid as H) (hid (as ++ [some p]) (upd H p o)) := by
  have nf := m.fresh h
  have e : Same (hid as H) (hid (as ++ [some p]) (upd H p o)) := fun a u q => by
    have ne := ne_of_none (hid_of q).1 h
    refine hid_to (by rw [upd_ne ne]; exact (hid_of q).1) fun z => ?_
    rcases List.mem_append.mp z with z | z
    · exact (hid_of q).2 z
    · exact ne (Option.some.inj (List.mem_singleton.mp z))
  have small : ∀ {i : Nat} {a : Option Addr}, (as ++ [some p])[i]? = some a → (i < as.length ∧ as[i]? = some a) ∨ (i = as.length ∧ a = some p) := fun {i a} q => by
    by_cases c : i < as.length
    · rw [List.getElem?_append_left c] at q
      exact .inl ⟨c, q⟩
    · rw [List.getElem?_append_right (Nat.le_of_not_lt c)] at q
      have c2 : i - as.length = 0 := by
        have := (List.getElem?_eq_some_iff.mp q).1
        simp at this
        omega
      rw [c2] at q
      simp at q
      exact .inr ⟨by omega, q.symm⟩
  refine ⟨⟨by simp [m.len], fun i j a hi hj => ?_, fun i a hi => ?_, fun i hi => ?_⟩, e⟩
  · rcases small hi with ⟨_, h1⟩ | ⟨h1, h2⟩
    · rcases small hj with ⟨_, h3⟩ | ⟨_, h4⟩
      · exact m.uniq i j a h1 h3
      · cases h4
        exact absurd (List.mem_of_getElem? h1) nf
    · rcases small hj with ⟨_, h3⟩ | ⟨h3, _⟩
      · cases h2
        exact absurd (List.mem_of_getElem? h3) nf
      · omega
  · rcases small hi with ⟨c, h1⟩ | ⟨h1, h2⟩
    · obtain ⟨ds', vs', k1, k2, k3⟩ := m.is i a h1
      exact ⟨ds', vs', by rw [List.getElem?_append_left (by rw [m.len]; exact c)]; exact k1, by rw [upd_ne (ne_of_none k2 h)]; exact k2, k3.grow e as_more⟩
    · cases h2
      refine ⟨c, o, ?_, upd_same, r.grow e as_more⟩
      rw [h1, ← m.len, List.getElem?_append_right (Nat.le_refl _)]
      simp
  · rcases small hi with ⟨c, h1⟩ | ⟨h1, h2⟩
    · rw [List.getElem?_append_left (by rw [m.len]; exact c)]
      exact m.no i h1
    · cases h2
/-- the last thing of ours is ours no more -/
theorem MsR.backC {p : Addr} {c : Cell} (m : MsR K (as ++ [some p]) (ms ++ [some c]) H') (hl : Lows as.length ms) (hc : Low as.length c.all) : MsR K as ms H' ∧ Same (hid (as ++ [some p]) H') (hid as H') ∧ ∃ o, hid as H' p = some o ∧ CellR K as H' o c := by
  have e : Same (hid (as ++ [some p]) H') (hid as H') := hid_less fun a z => List.mem_append_left _ z
  have hlen : ms.length = as.length := by
    have := m.len
    simp at this
    exact this
  have pre : ∀ k : Nat, k < as.length → as[k]? = (as ++ [some p])[k]? := fun k c => by rw [List.getElem?_append_left c]
  refine ⟨⟨hlen, fun i j a hi hj => ?_, fun i a hi => ?_, fun i hi => ?_⟩, e, ?_⟩
  · refine m.uniq i j a ?_ ?_
    · rw [List.getElem?_append_left (List.getElem?_eq_some_iff.mp hi).1]; exact hi
    · rw [List.getElem?_append_left (List.getElem?_eq_some_iff.mp hj).1]; exact hj
  · have c := (List.getElem?_eq_some_iff.mp hi).1
    obtain ⟨ds', vs', k1, k2, k3⟩ := m.is i a (by rw [List.getElem?_append_left c]; exact hi)
    rw [List.getElem?_append_left (by rw [hlen]; exact c)] at k1
    exact ⟨ds', vs', k1, k2, k3.less e as.length pre (hl i ds' k1)⟩
  · have c := (List.getElem?_eq_some_iff.mp hi).1
    have := m.no i (by rw [List.getElem?_append_left c]; exact hi)
    rw [List.getElem?_append_left (by rw [hlen]; exact c)] at this
    exact this
  · have hp : (as ++ [some p])[as.length]? = some (some p) := by simp
    obtain ⟨c', o, k1, k2, k3⟩ := m.is as.length p hp
    rw [← hlen] at k1
    simp at k1
    subst k1
    refine ⟨o, hid_to k2 fun z => ?_, k3.less e as.length pre hc⟩
    obtain ⟨j, hj⟩ := List.getElem?_of_mem z
    have hj' := (List.getElem?_eq_some_iff.mp hj).1
    have := m.uniq j as.length p (by rw [List.getElem?_append_left hj']; exact hj) hp
    omega
end
/-! ### a receiver -/
def isO (cn m : Str) (ms : Ms) : Sv → Bool
  | .d (.obj C fs) => decide (C = cn) && (fs.lookup m).isNone
  | .m k => match ms[k]? with
    | some (some (.o C fs)) => decide (C = cn) && (fs.lookup m).isNone
    | _ => false
  | _ => false
section
variable {X : Cx} {e a b c : Expr} {A B C E : ED} {T U : TD} {f : Fr} {es : Es} {ms ms' ms1 ms2 ms3 : Ms} {p pos apos : Pos} {rest l es0 : List Expr} {F : FD} {R : AD} {cn m x0 : Str} {k k' n : Nat} {W : WX}
variable {PP : Program} {w : World} {K : PySem.W.Frag} {mg : Str → Option Value} {base : Heap}
theorem map_lookup (g : Sv → Sv) (m : Str) : ∀ fs : List (Str × Sv), (fs.map fun p => (p.1, g p.2)).lookup m = (fs.lookup m).map g
  | [] => rfl
  | (x, s) :: r => by
    rw [List.map_cons, List.lookup_cons, List.lookup_cons]
    cases m == x
    · exact map_lookup g m r
    · rfl
theorem Fit.obj {k : Nat} {C : Str} {fs : List (Str × Sv)} (ft : Fit f es ms) (h : ms[k]? = some (some (.o C fs))) : ∃ kk, f.ks[k]? = some kk ∧ f.s (.m k) = .m kk ∧ (f.ms ms)[kk]? = some (some (.o C (fs.map fun p => (p.1, f.s p.2)))) := by
  obtain ⟨kk, hk⟩ := Fr.ix (f := f) ft.len (List.getElem?_eq_some_iff.mp h).1
  refine ⟨kk, hk, by show (match f.ks[k]? with | some k => Sv.m k | none => .u) = _; rw [hk], ?_⟩
  rw [Fr.get ft.ok ft.len hk, h]
  rfl
/-- the receiver, in the heap -/
def Rcv (K : PySem.W.Frag) (cn m : Str) (ms : Ms) (s : Sv) : Prop := ∀ as v H, MsR K as ms H → ValR K as H v s → ∃ a dx fs, v = .ref a ∧ H a = some (.ins (clsA K cn) dx fs) ∧ fs.lookup m = none
theorem isO_at {s : Sv} (ft : Fit f es ms) (h : isO cn m ms s = true) : Rcv K cn m (f.ms ms) (f.s s) := by
  intro as v H mm r
  unfold isO at h
  split at h
  · simp at h
    obtain ⟨rfl, h2⟩ := h
    cases r with | obj h3 h4 => exact ⟨_, _, _, rfl, (hid_of h3).1, RpF.lookN h4 (by simpa using h2)⟩
  · rename_i k
    split at h
    · rename_i C fs hk
      simp at h
      obtain ⟨rfl, h2⟩ := h
      obtain ⟨kk, g1, g2, g3⟩ := ft.obj hk
      rw [g2] at r
      obtain ⟨a, r1, rfl⟩ := r
      obtain ⟨dx, gs, r2, r3⟩ := mm.obj r1 g3
      exact ⟨a, dx, gs, rfl, r2, FsR.lookN r3 (by rw [map_lookup, show fs.lookup m = none by simpa using h2]; rfl)⟩
    · cases h
  · cases h
/-! ### o.f -/
def fldS (cn f : Str) (ms : Ms) : Sv → Option Sv
  | .d (.obj C fs) => if C = cn then (fs.lookup f).map Sv.d else none
  | .m k => match ms[k]? with
    | some (some (.o C fs)) => if C = cn then fs.lookup f else none
    | _ => none
  | _ => none
def fld (cn : Str) (A : ED) (f : Str) : ED := fun es ms => match opx A es ms with
  | some (.v x, m) => match fldS cn f m x with
    | some s => some (.v s, m)
    | none => none
  | _ => none
theorem fld_eq {f : Str} {q : Pv} (h : fld cn A f es ms = some (q, ms')) : ∃ x s, opx A es ms = some (.v x, ms') ∧ fldS cn f ms' x = some s ∧ q = .v s := by
  unfold fld at h
  split at h
  · split at h
    · cases h; exact ⟨_, _, ‹_›, ‹_›, rfl⟩
    · cases h
  · cases h
theorem den_fld {fl : Str} (hc : Cls X.K (clsA X.K cn)) (hn : NoAttr X.K (clsA X.K cn) fl) (ha : Den X e A) (hb : attributeBase e fl X.env (eval e X.env) = eval e X.env := by rfl) : Den X (.Attribute e fl pos) (fld cn A fl) where
  val := fun {f es ms ms' s} ft q => by
    obtain ⟨x, s', h1, h2, h3⟩ := fld_eq q
    cases h3
    have ft1 := ha.opF ft h1
    refine pe_w (pe_fld (ha.opV ft h1) hb) fun σ H Q ⟨as, sr, kk⟩ => ⟨as, sr, fun v H1 m1 e1 r1 => ?_⟩
    unfold fldS at h2
    split at h2
    · split at h2
      · rename_i hC
        subst hC
        cases hz : List.lookup fl ‹List (Str × Dt)› with
        | none => rw [hz] at h2; cases h2
        | some d =>
          rw [hz] at h2
          cases h2
          cases r1 with | obj h3 h4 =>
            obtain ⟨u, g1, g2⟩ := h4.look hz
            exact ⟨_, _, _, _, u, rfl, (hid_of h3).1, hc, hn, g1, kk u H1 m1 e1 g2⟩
      · cases h2
    · split at h2
      · rename_i C fs hk
        split at h2
        · rename_i hC
          subst hC
          obtain ⟨k1, g1, g2, g3⟩ := ft1.obj hk
          rw [g2] at r1
          obtain ⟨a, r2, rfl⟩ := r1
          obtain ⟨dx, gs, r3, r4⟩ := m1.obj r2 g3
          obtain ⟨u, r5, r6⟩ := FsR.look (f := fl) (s := f.s s) r4 (by rw [map_lookup, h2]; rfl)
          exact ⟨a, _, dx, gs, u, rfl, r3, hc, hn, r5, kk u H1 m1 e1 r6⟩
        · cases h2
      · cases h2
    · cases h2
  new := fun ft q => by obtain ⟨x, s', h1, h2, h3⟩ := fld_eq q; cases h3
  exc := fun tk ft q => by obtain ⟨x, s', h1, h2, h3⟩ := fld_eq q; cases h3
  low := fun {es ms ms' q0} le lm q => by
    obtain ⟨x, s', h1, h2, rfl⟩ := fld_eq q
    have l1 := ha.opL le lm h1
    refine ⟨fun k e => ?_, l1.2⟩
    subst e
    unfold fldS at h2
    split at h2
    · split at h2
      · obtain ⟨_, _, z⟩ := Option.map_eq_some_iff.mp h2; cases z
      · cases h2
    · split at h2
      · rename_i C fs hk
        split at h2
        · refine l1.2.1 _ _ hk k (List.mem_map.mpr ?_)
          obtain ⟨l1, l2, hfs⟩ : ∃ l1 l2, fs = l1 ++ (fl, .m k) :: l2 := by
            clear hk
            induction fs with
            | nil => simp at h2
            | cons p r ih =>
              obtain ⟨x, s⟩ := p
              rw [List.lookup_cons] at h2
              split at h2
              · rename_i hx; cases h2; exact ⟨[], r, by rw [show fl = x by simpa using hx]; rfl⟩
              · obtain ⟨a1, a2, e⟩ := ih h2; exact ⟨(x, s) :: a1, a2, by rw [e]; rfl⟩
          exact ⟨(fl, .m k), by rw [hfs]; simp, rfl⟩
        · cases h2
      · cases h2
    · cases h2
end
end Dn
/-! # Dn14: o.f = e; o.m(..); C(..); len(o); o[i] -/
namespace Dn
open PySem PySem.Spec L2 Dv
def putG (f : Str) (s : Sv) : List (Str × Sv) → List (Str × Sv)
  | [] => [(f, s)]
  | (g, x) :: r => if g = f then (g, s) :: r else (g, x) :: putG f s r
theorem putG_map (g : Sv → Sv) (f : Str) (s : Sv) : ∀ fs : List (Str × Sv), (putG f s fs).map (fun p => (p.1, g p.2)) = putG f (g s) (fs.map fun p => (p.1, g p.2))
  | [] => rfl
  | (x, y) :: r => by
    unfold putG
    rw [List.map_cons]
    by_cases c : x = f
    · rw [if_pos c]; dsimp only; rw [if_pos c]; rfl
    · rw [if_neg c]; dsimp only; rw [if_neg c, List.map_cons, putG_map g f s r]
theorem putG_low {n : Nat} {f : Str} {s : Sv} (hs : ∀ k, s = .m k → k < n) : ∀ {fs : List (Str × Sv)}, Low n (fs.map (·.2)) → Low n ((putG f s fs).map (·.2))
  | [], _ => fun k hk => by simp [putG] at hk; exact hs k hk.symm
  | (x, y) :: r, h => by
    unfold putG
    split
    · rw [List.map_cons] at h ⊢
      exact Low.cons hs fun k hk => h k (List.mem_cons_of_mem _ hk)
    · rw [List.map_cons] at h ⊢
      exact Low.cons (fun k e => h k (by rw [← e]; exact List.mem_cons_self)) (putG_low hs fun k hk => h k (List.mem_cons_of_mem _ hk))
theorem FsR.putG {K : PySem.W.Frag} {as : As} {H : Hp} {f : Str} {v : V} {s : Sv} (hv : ValR K as H v s) : ∀ {gs : List (Str × V)} {fs : List (Str × Sv)}, FsR K as H gs fs → FsR K as H (L2.putF f v gs) (putG f s fs)
  | _, _, .nil => .cons hv .nil
  | _, _, .cons (f := g) h r => by
    unfold L2.putF Dn.putG
    by_cases c : g = f
    · rw [if_pos c, if_pos c]; exact .cons hv r
    · rw [if_neg c, if_neg c]; exact .cons h (FsR.putG hv r)
section
variable {X : Cx} {P : Nat} {e a b c o : Expr} {A B C E : ED} {T U : TD} {f : Fr} {es : Es} {ms ms' ms1 ms2 ms3 : Ms} {p pos apos : Pos} {rest : List Stmt} {l es0 : List Expr} {F : FD} {R : AD} {cn m x0 : Str} {k' n : Nat} {W : WX} {k S : SD} {Q : Out → Prop} {s sv : Sv} {ss : List Sv} {d : Dt} {x : Xc}
variable {PP : Program} {w : World} {K : PySem.W.Frag} {mg : Str → Option Value} {base : Heap} {lev : Nat}
/-! ### o.f = e -/
theorem s_setF {fl : Str} {i : Nat} {fs : List (Str × Sv)} {ap : Pos} (hc : Cls X.K (clsA X.K cn)) (hno : NoAttr X.K (clsA X.K cn) fl) (he : PE X e (tD X.K es ms sv ms1)) (ho : PE X o (tD X.K es ms1 (.m i) ms2)) (hm : ms2[i]? = some (some (.o cn fs))) (hz : fs.length < 1000)
    (kk : PSs X rest (tS X.K n W es (ms2.set i (some (.o cn (putG fl sv fs)))) Q))
    (hs : swapsWith e (some (.Attribute o fl ap)) pos.line X.env = pure false := by rfl) : PSs X (.Assign [.Attribute o fl ap] e pos :: rest) (tS X.K n W es ms Q) :=
  s_cons (P' := fun o => o = .nx es (ms2.set i (some (.o cn (putG fl sv fs))))) (ps_fld ho he hs) (fun D σ H as s l kk => ⟨as, s, fun v H1 m1 e1 r1 => ⟨as, s.step m1 e1, fun u H2 m2 e2 r2 => by
    obtain ⟨q, h1, rfl⟩ := r2
    obtain ⟨dx, gs, k2, k3⟩ := m2.obj h1 hm
    refine ⟨q, _, dx, gs, rfl, k2, hc, hno, by rw [Dn.FsR.len k3]; exact hz, ?_⟩
    have z := m2.putC (c := .o cn (putG fl sv fs)) h1 ⟨dx, _, rfl, FsR.putG (f := fl) (r1.mono e2) k3⟩
    have e4 := (e1.trans e2).trans z.2
    exact kk _ rfl as _ (Stp.of l e4) σ (s.step z.1 e4)⟩⟩) (fun o ho => by subst ho; exact kk)
def setF (cn fl : Str) (A E : ED) (k : SD) : SD := fun es ms => match opx E es ms with
  | some (.v s, m1) => match opx A es m1 with
    | some (.v (.m j), m2) => match m2[j]? with
      | some (some (.o C fs)) => if C = cn ∧ fs.length < 1000 then k es (m2.set j (some (.o C (putG fl s fs)))) else none
      | _ => none
    | _ => none
  | some (.x x, m1) => some (.rs x es m1)
  | none => none
theorem ps_fldX {ap : Pos} {fl : Str} {x : Xc} (he : PE X e (tX X.K W es ms x ms1)) (kk : Q (.rs x es ms1))
    (hs : swapsWith e (some (.Attribute o fl ap)) pos.line X.env = pure false := by rfl) : PSs X (.Assign [.Attribute o fl ap] e pos :: rest) (tS X.K n W es ms Q) :=
  s_cons (P' := fun o => o = .rs x es ms1) (ps_fld pe_never he hs) (fun D σ H as s l kk => ⟨as, s, fun cls d H1 m1 e1 r1 => kk _ rfl as H1 (Stp.of l e1) σ cls d (s.step m1 e1) r1⟩) (fun o ho => by subst ho; exact kk)
theorem ds_setF {fl : Str} {ap : Pos} (hc : Cls X.K (clsA X.K cn)) (hno : NoAttr X.K (clsA X.K cn) fl) (he : Den X e E) (ha : Den X o A) (hk : DenS X P rest k)
    (hs : swapsWith e (some (.Attribute o fl ap)) pos.line X.env = pure false := by rfl) : DenS X P (.Assign [.Attribute o fl ap] e pos :: rest) (setF cn fl A E k) := ⟨fun {W b' f es ms o'} tk hpo fb ft hp q => by
  unfold setF at q
  split at q
  · rename_i s m1 h1
    split at q
    · rename_i j m2 h2
      split at q
      · rename_i C fs h4
        split at q
        · rename_i hh
          obtain ⟨rfl, hz⟩ := hh
          have l1 := he.opL ft.le ft.lm h1
          have ft1 := he.opF ft h1
          have l2 := ha.opL ft1.le ft1.lm h2
          have ft2 := ha.opF ft1 h2
          obtain ⟨kk, g1, g2, g3⟩ := ft2.obj h4
          have e2 : m2.length = ms.length := l2.2.2.trans l1.2.2
          have ft4 : Fit f es (m2.set j (some (.o C (putG fl s fs)))) := ft2.go ⟨Lows.set ft2.lm (putG_low (fun k e => by rw [e2]; exact l1.1 k (by rw [e])) (ft2.lm _ _ h4)), List.length_set⟩
          have := hk.run tk hpo fb ft4 hp q
          rw [Fr.set ft2.ok ft2.len g1] at this
          have pa := ha.opV ft1 h2
          rw [g2] at pa
          refine s_setF hc hno (he.opV ft h1) pa g3 (by rw [List.length_map]; exact hz) ?_ hs
          rw [← putG_map]
          exact this
        · cases q
      · cases q
    · cases q
  · rename_i x m1 h1
    cases q
    exact ps_fldX (he.opX tk ft h1) ⟨f, fb, he.opF ft h1, rfl⟩ hs
  · cases q⟩
/-! ### o.m(..) -/
theorem w_methD {E : St → XK} {C : Addr} {σ : St} {H : Hp} {QV : VK} (hR : Rcv X.K cn m ms1 s) (hC : C = clsA X.K cn) (hS : preF F (s :: ss) ms2 (fun o => o = .ret d ms3)) (q : tD X.K es ms (.d d) ms3 σ H QV) :
    tMethT C m (Pr X.K (preF F)) E (tD X.K es ms s ms1) (tAr X.K es ms1 ss ms2) σ H QV := by
  subst hC
  obtain ⟨as, s0, kk⟩ := q
  refine ⟨as, s0, fun v H1 m1 e1 r1 => ?_⟩
  obtain ⟨a, dx, fs, rfl, h1, h2⟩ := hR as v H1 m1 r1
  exact ⟨a, dx, fs, rfl, h1, h2, as, s0.step m1 e1, fun vs H2 m2 e2 r2 => ⟨as, s :: ss, ms2, _, m2, .cons (r1.mono e2) r2, hS, fun d' ms' v H' q m' e' r' => by
    cases q
    exact kk v H' m' ((e1.trans e2).trans e') r', fun x ms' cls dd H' q => (nomatch q), fun ds ms' p H' q => (nomatch q)⟩⟩
theorem w_methN {E : St → XK} {C : Addr} {σ : St} {H : Hp} {QV : VK} {ts : List Sv} (hR : Rcv X.K cn m ms1 s) (hC : C = clsA X.K cn) (hS : preF F (s :: ss) ms2 (fun o => o = .nw ts ms3)) (q : tN X.K es ms ts ms3 σ H QV) :
    tMethT C m (Pr X.K (preF F)) E (tD X.K es ms s ms1) (tAr X.K es ms1 ss ms2) σ H QV := by
  subst hC
  obtain ⟨as, s0, kk⟩ := q
  refine ⟨as, s0, fun v H1 m1 e1 r1 => ?_⟩
  obtain ⟨a, dx, fs, rfl, h1, h2⟩ := hR as v H1 m1 r1
  exact ⟨a, dx, fs, rfl, h1, h2, as, s0.step m1 e1, fun vs H2 m2 e2 r2 => ⟨as, s :: ss, ms2, _, m2, .cons (r1.mono e2) r2, hS, fun d' ms' v H' q => (nomatch q), fun x ms' cls dd H' q => (nomatch q), fun ds' ms' p H' q nw => by
    cases q
    exact kk p H' (nw.of (e1.trans e2) (old_of (e1.trans e2) m2 nw.free))⟩⟩
theorem w_methX {C : Addr} {σ : St} {H : Hp} {QV : VK} (hR : Rcv X.K cn m ms1 s) (hC : C = clsA X.K cn) (hS : preF F (s :: ss) ms2 (fun o => o = .exc x ms3)) (q : tX X.K W es ms x ms3 σ H QV) :
    tMethT C m (Pr X.K (preF F)) (WE W) (tD X.K es ms s ms1) (tAr X.K es ms1 ss ms2) σ H QV := by
  subst hC
  obtain ⟨as, s0, kk⟩ := q
  refine ⟨as, s0, fun v H1 m1 e1 r1 => ?_⟩
  obtain ⟨a, dx, fs, rfl, h1, h2⟩ := hR as v H1 m1 r1
  exact ⟨a, dx, fs, rfl, h1, h2, as, s0.step m1 e1, fun vs H2 m2 e2 r2 => ⟨as, s :: ss, ms2, _, m2, .cons (r1.mono e2) r2, hS, fun d' ms' v H' q => (nomatch q), fun x' ms' cls dd H' q m' e' r' => by
    cases q
    exact kk cls dd H' m' ((e1.trans e2).trans e') r', fun ds ms' p H' q => (nomatch q)⟩⟩
theorem w_nil {E : St → XK} {C : Addr} {sp : Sp} {σ : St} {H : Hp} {QV : VK} (q : tMethT C m sp E (tD X.K es ms s ms1) (tAr X.K es ms1 [] ms1) σ H QV) : tMethT C m sp E (tD X.K es ms s ms1) tNil σ H QV := by
  obtain ⟨as, s0, kk⟩ := q
  refine ⟨as, s0, fun v H1 m1 e1 r1 => ?_⟩
  obtain ⟨a, dx, fs, h0, h1, h2, as', s', k2⟩ := kk v H1 m1 e1 r1
  exact ⟨a, dx, fs, h0, h1, h2, k2 [] H1 s'.mem (Same.refl _) .nil⟩
def methG (late : Bool) (cn m : Str) (F : FD) (A : ED) (R : AD) : ED := fun es ms => match opx A es ms with
  | some (.v s, m1) => match R es m1 with
      | some (.v ss, m2) => if isO cn m (if late then m2 else m1) s = true then callF F (s :: ss) m2 else none
      | _ => none
  | _ => none
/-- o.m(..) -/
abbrev meth := methG false
/-- o[i], len(o) -/
abbrev slot := methG true
theorem meth_eq {late : Bool} {q : Pv} (h : methG late cn m F A R es ms = some (q, ms')) : ∃ s m1 ss m2, opx A es ms = some (.v s, m1) ∧ isO cn m (if late then m2 else m1) s = true ∧ R es m1 = some (.v ss, m2) ∧ callF F (s :: ss) m2 = some (q, ms') := by
  unfold methG at h
  split at h
  · split at h
    · rename_i s m1 h1 _ ss m2 h2
      by_cases c : isO cn m (if late = true then m2 else m1) s = true
      · rw [if_pos c] at h; exact ⟨_, _, _, _, h1, c, h2, h⟩
      · rw [if_neg c] at h; cases h
    · cases h
  · cases h
/-- a call whose first argument is told apart -/
theorem den_recv {late : Bool} (hF : ∀ ss fm o, F ss fm = some o → outOk fm.length o = true) (ha : Den X a A) (hr : ∀ {es : Es} {ms ms' : Ms} {q : Av}, LowE ms.length es → Lows ms.length ms → R es ms = some (q, ms') → (∀ ss, q = .v ss → Low ms.length ss) ∧ Lows ms.length ms' ∧ ms'.length = ms.length)
    (hd : ∀ {f : Fr} {es : Es} {ms m1 m2 : Ms} {s : Sv} {ss : List Sv} {d : Dt} {m3 : Ms}, Fit f es ms → opx A es ms = some (.v s, m1) → isO cn m (if late then m2 else m1) s = true → R es m1 = some (.v ss, m2) → preF F (f.s s :: ss.map f.s) (f.ms m2) (fun o => o = .ret d m3) → PE X e (tD X.K (f.es es) (f.ms ms) (.d d) m3))
    (hn : ∀ {f : Fr} {es : Es} {ms m1 m2 : Ms} {s : Sv} {ss : List Sv} {ts : List Sv} {m3 : Ms}, Fit f es ms → opx A es ms = some (.v s, m1) → isO cn m (if late then m2 else m1) s = true → R es m1 = some (.v ss, m2) → preF F (f.s s :: ss.map f.s) (f.ms m2) (fun o => o = .nw ts m3) → PE X e (tN X.K (f.es es) (f.ms ms) ts m3))
    (hx : ∀ {W : WX} {f : Fr} {es : Es} {ms m1 m2 : Ms} {s : Sv} {ss : List Sv} {x : Xc} {m3 : Ms}, Takes X W → Fit f es ms → opx A es ms = some (.v s, m1) → isO cn m (if late then m2 else m1) s = true → R es m1 = some (.v ss, m2) → preF F (f.s s :: ss.map f.s) (f.ms m2) (fun o => o = .exc x m3) → PE X e (tX X.K W (f.es es) (f.ms ms) x m3)) :
    Den X e (methG late cn m F A R) where
  val := fun {f es ms ms' s} ft q => by
    obtain ⟨s0, m1, ss, m2, h1, h2, h3, h4⟩ := meth_eq q
    obtain ⟨fm, o, g1, g2, g3, g4, g5⟩ := callF_eq h4
    have l1 := ha.opL ft.le ft.lm h1
    have ft1 := ha.opF ft h1
    have l2 := hr ft1.le ft1.lm h3
    have ft2 := ft1.go l2.2
    have ho := hF _ _ _ g4
    have lo : Low m2.length (s0 :: ss) := by rw [l2.2.2]; exact Low.cons (fun k e => by rw [l1.2.2]; exact l1.1 k (by rw [e])) (l2.1 _ rfl)
    rcases g5 with ⟨d, m, rfl, h5, rfl⟩ | ⟨ts, m, rfl, h5, rfl⟩ | ⟨x, m, rfl, h5, rfl⟩
    · cases h5; exact hd ft h1 h2 h3 (preF_s ft2 lo g1 g2 g3 g4 ho rfl)
    · cases h5
    · cases h5
  new := fun {f es ms ms' s} ft q => by
    obtain ⟨s0, m1, ss, m2, h1, h2, h3, h4⟩ := meth_eq q
    obtain ⟨fm, o, g1, g2, g3, g4, g5⟩ := callF_eq h4
    have l1 := ha.opL ft.le ft.lm h1
    have ft1 := ha.opF ft h1
    have l2 := hr ft1.le ft1.lm h3
    have ft2 := ft1.go l2.2
    have ho := hF _ _ _ g4
    have lo : Low m2.length (s0 :: ss) := by rw [l2.2.2]; exact Low.cons (fun k e => by rw [l1.2.2]; exact l1.1 k (by rw [e])) (l2.1 _ rfl)
    rcases g5 with ⟨d, m, rfl, h5, rfl⟩ | ⟨ts, m, rfl, h5, rfl⟩ | ⟨x, m, rfl, h5, rfl⟩
    · cases h5
    · cases h5
      have e1 : s.map f.s = s := by
        simp only [outOk, Bool.and_eq_true] at ho
        obtain ⟨ds, rfl⟩ := all_isD ho.2
        exact Fr.map_d
      rw [e1]
      exact hn ft h1 h2 h3 (preF_s ft2 lo g1 g2 g3 g4 ho rfl)
    · cases h5
  exc := fun {W f es ms ms' x} tk ft q => by
    obtain ⟨s0, m1, ss, m2, h1, h2, h3, h4⟩ := meth_eq q
    obtain ⟨fm, o, g1, g2, g3, g4, g5⟩ := callF_eq h4
    have l1 := ha.opL ft.le ft.lm h1
    have ft1 := ha.opF ft h1
    have l2 := hr ft1.le ft1.lm h3
    have ft2 := ft1.go l2.2
    have ho := hF _ _ _ g4
    have lo : Low m2.length (s0 :: ss) := by rw [l2.2.2]; exact Low.cons (fun k e => by rw [l1.2.2]; exact l1.1 k (by rw [e])) (l2.1 _ rfl)
    rcases g5 with ⟨d, m, rfl, h5, rfl⟩ | ⟨ts, m, rfl, h5, rfl⟩ | ⟨x, m, rfl, h5, rfl⟩
    · cases h5
    · cases h5
    · cases h5; exact hx tk ft h1 h2 h3 (preF_s ft2 lo g1 g2 g3 g4 ho rfl)
  low := fun {es ms ms' q0} le lm q => by
    obtain ⟨s0, m1, ss, m2, h1, h2, h3, h4⟩ := meth_eq q
    have l1 := ha.opL le lm h1
    have l2 := hr (ms := m1) (by rw [l1.2.2]; exact le) (by rw [l1.2.2]; exact l1.2.1) h3
    have e2 : m2.length = ms.length := l2.2.2.trans l1.2.2
    have l3 := callF_low hF (ms := m2) (by rw [e2, ← l1.2.2]; exact l2.2.1) h4
    rw [e2] at l3
    exact l3
theorem isO_rcv {f : Fr} {m1 m2 : Ms} {s : Sv} (ha : Den X a A) (ft : Fit f es ms) (h1 : opx A es ms = some (.v s, m1)) (h2 : isO cn m m1 s = true) : Rcv X.K cn m (f.ms m1) (f.s s) := isO_at (ha.opF ft h1) h2
theorem den_meth {pl : Sem Bool} (G : CalM PP w K mg base cn m lev F) (hX : PP = X.prog ∧ w = X.w ∧ K = X.K ∧ mg = X.mg ∧ base = X.base) (hr : Room k' X.A) (hk : lev ≤ k') (ha : Den X o A) (hR : DenA X (e :: es0) R)
    (hst : starEach (e :: es0) X.env = (false, eval e X.env) :: starEach es0 X.env := by rfl) (hpl : (backTo pos (starEach es0 X.env)).any (·.1) = false := by rfl)
    (ht : eval (.Call (.Attribute o m apos) (e :: es0) [] pos) X.env = (do
      let ov ← eval o X.env
      standAt apos.atName
      let (f, first) ← holding [ov] (getMethod ov m pl)
      callWith pos f first (backTo pos (starEach (e :: es0) X.env)) (backToKw pos (keywordEach [] X.env))) := by rfl) :
    Den X (.Call (.Attribute o m apos) (e :: es0) [] pos) (meth cn m F A R) := by
  obtain ⟨rfl, rfl, rfl, rfl, rfl⟩ := hX
  obtain ⟨g, fd, ps, hF, hm, hfn, hb⟩ := G.cal
  exact den_recv G.out ha (fun le lm q => hR.low le lm q)
    (fun ft h1 h2 h3 hS => pe_w (pe_methT (pl := pl) (ha.opV ft h1) G.cls hm hF (hr.mono hk) hb (fun σ => passAt takes0 σ) (hR.val (ha.opF ft h1) h3) hst hpl ht) fun σ H Q q => w_methD (isO_at (ha.opF ft h1) h2) rfl hS q)
    (fun ft h1 h2 h3 hS => pe_w (pe_methT (pl := pl) (ha.opV ft h1) G.cls hm hF (hr.mono hk) hb (fun σ => passAt takes0 σ) (hR.val (ha.opF ft h1) h3) hst hpl ht) fun σ H Q q => w_methN (isO_at (ha.opF ft h1) h2) rfl hS q)
    (fun tk ft h1 h2 h3 hS => pe_w (pe_methT (pl := pl) (ha.opV ft h1) G.cls hm hF (hr.mono hk) hb (fun σ => passAt tk σ) (hR.val (ha.opF ft h1) h3) hst hpl ht) fun σ H Q q => w_methX (isO_at (ha.opF ft h1) h2) rfl hS q)
theorem nilA_eq {q : Av} (h : nilA es ms = some (q, ms')) : q = .v [] ∧ ms' = ms := by cases h; exact ⟨rfl, rfl⟩
theorem den_meth0 {pl : Sem Bool} (G : CalM PP w K mg base cn m lev F) (hX : PP = X.prog ∧ w = X.w ∧ K = X.K ∧ mg = X.mg ∧ base = X.base) (hr : Room k' X.A) (hk : lev ≤ k') (ha : Den X o A)
    (ht : eval (.Call (.Attribute o m apos) [] [] pos) X.env = (do
      let ov ← eval o X.env
      standAt apos.atName
      let (f, first) ← holding [ov] (getMethod ov m pl)
      callWith pos f first (backTo pos (starEach [] X.env)) (backToKw pos (keywordEach [] X.env))) := by rfl) :
    Den X (.Call (.Attribute o m apos) [] [] pos) (meth cn m F A nilA) := by
  obtain ⟨rfl, rfl, rfl, rfl, rfl⟩ := hX
  obtain ⟨g, fd, ps, hF, hm, hfn, hb⟩ := G.cal
  refine den_recv G.out ha (fun le lm q => by obtain ⟨rfl, rfl⟩ := nilA_eq q; exact ⟨fun ss e => by cases e; exact low_nil _, lm, rfl⟩) ?_ ?_ ?_
  · intro f es ms m1 m2 s ss d m3 ft h1 h2 h3 hS
    obtain ⟨e1, rfl⟩ := nilA_eq h3
    cases e1
    exact pe_w (pe_methT0 (pl := pl) (ha.opV ft h1) G.cls hm hF (hr.mono hk) hb (fun σ => passAt takes0 σ) ht) fun σ H Q q => w_nil (w_methD (isO_at (ha.opF ft h1) h2) rfl hS q)
  · intro f es ms m1 m2 s ss d m3 ft h1 h2 h3 hS
    obtain ⟨e1, rfl⟩ := nilA_eq h3
    cases e1
    exact pe_w (pe_methT0 (pl := pl) (ha.opV ft h1) G.cls hm hF (hr.mono hk) hb (fun σ => passAt takes0 σ) ht) fun σ H Q q => w_nil (w_methN (isO_at (ha.opF ft h1) h2) rfl hS q)
  · intro W f es ms m1 m2 s ss d m3 tk ft h1 h2 h3 hS
    obtain ⟨e1, rfl⟩ := nilA_eq h3
    cases e1
    exact pe_w (pe_methT0 (pl := pl) (ha.opV ft h1) G.cls hm hF (hr.mono hk) hb (fun σ => passAt tk σ) ht) fun σ H Q q => w_nil (w_methX (isO_at (ha.opF ft h1) h2) rfl hS q)
/-! ### o[i] -/
theorem w_itemD {E : St → XK} {C : Addr} {σ : St} {H : Hp} {QV : VK} {i : Sv} (hR : Rcv X.K cn m ms2 s) (hC : C = clsA X.K cn) (hS : preF F [s, i] ms2 (fun o => o = .ret d ms3)) (q : tD X.K es ms (.d d) ms3 σ H QV) :
    tItemO C (Pr X.K (preF F)) E (tD X.K es ms s ms1) (tD X.K es ms1 i ms2) σ H QV := by
  subst hC
  obtain ⟨as, s0, kk⟩ := q
  refine ⟨as, s0, fun v H1 m1 e1 r1 => ⟨as, s0.step m1 e1, fun u H2 m2 e2 r2 => ?_⟩⟩
  obtain ⟨a, dx, fs, rfl, h1, h2⟩ := hR as v H2 m2 (r1.mono e2)
  exact ⟨a, dx, fs, rfl, h1, as, [s, i], ms2, _, m2, .cons (r1.mono e2) (.cons r2 .nil), hS, fun d' ms' v H' q m' e' r' => by
    cases q
    exact kk v H' m' ((e1.trans e2).trans e') r', fun x ms' cls dd H' q => (nomatch q), fun ds ms' p H' q => (nomatch q)⟩
theorem w_itemN {E : St → XK} {C : Addr} {σ : St} {H : Hp} {QV : VK} {i : Sv} {ts : List Sv} (hR : Rcv X.K cn m ms2 s) (hC : C = clsA X.K cn) (hS : preF F [s, i] ms2 (fun o => o = .nw ts ms3)) (q : tN X.K es ms ts ms3 σ H QV) :
    tItemO C (Pr X.K (preF F)) E (tD X.K es ms s ms1) (tD X.K es ms1 i ms2) σ H QV := by
  subst hC
  obtain ⟨as, s0, kk⟩ := q
  refine ⟨as, s0, fun v H1 m1 e1 r1 => ⟨as, s0.step m1 e1, fun u H2 m2 e2 r2 => ?_⟩⟩
  obtain ⟨a, dx, fs, rfl, h1, h2⟩ := hR as v H2 m2 (r1.mono e2)
  exact ⟨a, dx, fs, rfl, h1, as, [s, i], ms2, _, m2, .cons (r1.mono e2) (.cons r2 .nil), hS, fun d' ms' v H' q => (nomatch q), fun x ms' cls dd H' q => (nomatch q), fun ds' ms' p H' q nw => by
    cases q
    exact kk p H' (nw.of (e1.trans e2) (old_of (e1.trans e2) m2 nw.free))⟩
theorem w_itemX {C : Addr} {σ : St} {H : Hp} {QV : VK} {i : Sv} (hR : Rcv X.K cn m ms2 s) (hC : C = clsA X.K cn) (hS : preF F [s, i] ms2 (fun o => o = .exc x ms3)) (q : tX X.K W es ms x ms3 σ H QV) :
    tItemO C (Pr X.K (preF F)) (WE W) (tD X.K es ms s ms1) (tD X.K es ms1 i ms2) σ H QV := by
  subst hC
  obtain ⟨as, s0, kk⟩ := q
  refine ⟨as, s0, fun v H1 m1 e1 r1 => ⟨as, s0.step m1 e1, fun u H2 m2 e2 r2 => ?_⟩⟩
  obtain ⟨a, dx, fs, rfl, h1, h2⟩ := hR as v H2 m2 (r1.mono e2)
  exact ⟨a, dx, fs, rfl, h1, as, [s, i], ms2, _, m2, .cons (r1.mono e2) (.cons r2 .nil), hS, fun d' ms' v H' q => (nomatch q), fun x' ms' cls dd H' q m' e' r' => by
    cases q
    exact kk cls dd H' m' ((e1.trans e2).trans e') r', fun ds ms' p H' q => (nomatch q)⟩
theorem consA_one {m1 m2 : Ms} {q : Av} (h : consA B nilA es m1 = some (q, m2)) : (∃ i, q = .v [i] ∧ opx B es m1 = some (.v i, m2)) ∨ (∃ x, q = .x x ∧ opx B es m1 = some (.x x, m2)) := by
  rcases consA_eq h with ⟨s, m, ts, h1, h2, h3⟩ | ⟨s, m, x, h1, h2, h3⟩ | ⟨x, h1, h3⟩
  · obtain ⟨e, rfl⟩ := nilA_eq h2; cases e; exact .inl ⟨s, h3, h1⟩
  · obtain ⟨e, rfl⟩ := nilA_eq h2; cases e
  · exact .inr ⟨x, h3, h1⟩
theorem oneA_low (hb : Den X b B) {es : Es} {ms ms' : Ms} {q : Av} (le : LowE ms.length es) (lm : Lows ms.length ms) (h : consA B nilA es ms = some (q, ms')) : (∀ ss, q = .v ss → Low ms.length ss) ∧ Lows ms.length ms' ∧ ms'.length = ms.length := by
  rcases consA_one h with ⟨i, rfl, h1⟩ | ⟨x, rfl, h1⟩
  · have l := hb.opL le lm h1
    exact ⟨fun ss e => by cases e; exact Low.cons (fun k e => l.1 k (by rw [e])) (low_nil _), l.2⟩
  · exact ⟨fun ss e => by (cases e), (hb.opL le lm h1).2⟩
theorem den_subO (G : CalM PP w K mg base cn "__getitem__" lev F) (hX : PP = X.prog ∧ w = X.w ∧ K = X.K ∧ mg = X.mg ∧ base = X.base) (hr : Room k' X.A) (hk : lev + 1 ≤ k') (ha : Den X a A) (hb' : Den X b B) (hp : PlainIx b := by exact fun _ _ => rfl)
    (hsl : ∀ x i, subscripted b true (.ref x) i = runValue (.builtin "lifetime.subscript" ⟨[.ref x, i], []⟩) := by intro _ _; with_unfolding_all rfl) :
    Den X (.Subscript a b pos) (slot cn "__getitem__" F A (consA B nilA)) := by
  obtain ⟨rfl, rfl, rfl, rfl, rfl⟩ := hX
  obtain ⟨g, fd, ps, hF, hm, hfn, hb⟩ := G.cal
  have rcv : ∀ {f : Fr} {es : Es} {ms m1 m2 : Ms} {s i : Sv}, Fit f es ms → opx A es ms = some (.v s, m1) → isO cn "__getitem__" m2 s = true → opx B es m1 = some (.v i, m2) → Rcv X.K cn "__getitem__" (f.ms m2) (f.s s) := fun {f es ms m1 m2 s i} ft h1 h2 h3 => isO_at (hb'.opF (ha.opF ft h1) h3) h2
  refine den_recv G.out ha (fun le lm q => oneA_low hb' le lm q) ?_ ?_ ?_
  · intro f es ms m1 m2 s ss d m3 ft h1 h2 h3 hS
    rcases consA_one h3 with ⟨i, e, h4⟩ | ⟨x, e, h4⟩
    · cases e
      exact pe_w (pe_itemO (ha.opV ft h1) (hb'.opV (ha.opF ft h1) h4) hm.at_ hfn hm.fn hF (hr.mono hk) hb (fun σ => passAt takes0 σ) hp hsl) fun σ H Q q => w_itemD (rcv ft h1 h2 h4) rfl hS q
    · cases e
  · intro f es ms m1 m2 s ss d m3 ft h1 h2 h3 hS
    rcases consA_one h3 with ⟨i, e, h4⟩ | ⟨x, e, h4⟩
    · cases e
      exact pe_w (pe_itemO (ha.opV ft h1) (hb'.opV (ha.opF ft h1) h4) hm.at_ hfn hm.fn hF (hr.mono hk) hb (fun σ => passAt takes0 σ) hp hsl) fun σ H Q q => w_itemN (rcv ft h1 h2 h4) rfl hS q
    · cases e
  · intro W f es ms m1 m2 s ss x m3 tk ft h1 h2 h3 hS
    rcases consA_one h3 with ⟨i, e, h4⟩ | ⟨x, e, h4⟩
    · cases e
      exact pe_w (pe_itemO (ha.opV ft h1) (hb'.opV (ha.opF ft h1) h4) hm.at_ hfn hm.fn hF (hr.mono hk) hb (fun σ => passAt tk σ) hp hsl) fun σ H Q q => w_itemX (rcv ft h1 h2 h4) rfl hS q
    · cases e
/-! ### len(o) -/
def lenO (cn : Str) (F : FD) (A : ED) : ED := fun es ms => match opx A es ms with
  | some (.v s, m1) => if isO cn "__len__" m1 s = true then match callF F [s] m1 with
      | some (.v (.d (.int n)), m2) => if 0 ≤ n ∧ n < 2 ^ 63 then some (.v (.d (.int n)), m2) else none
      | _ => none
    else none
  | _ => none
theorem lenO_eq {q : Pv} (h : lenO cn F A es ms = some (q, ms')) : ∃ s m1 n, opx A es ms = some (.v s, m1) ∧ isO cn "__len__" m1 s = true ∧ callF F [s] m1 = some (.v (.d (.int n)), ms') ∧ (0 ≤ n ∧ n < 2 ^ 63) ∧ q = .v (.d (.int n)) := by
  unfold lenO at h
  split at h
  · split at h
    · split at h
      · split at h
        · cases h; exact ⟨_, _, _, ‹_›, ‹_›, ‹_›, ‹_›, rfl⟩
        · cases h
      · cases h
    · cases h
  · cases h
theorem den_lenO (G : CalM PP w K mg base cn "__len__" lev F) (hX : PP = X.prog ∧ w = X.w ∧ K = X.K ∧ mg = X.mg ∧ base = X.base) (hr : Room k' X.A) (hk : lev + 1 ≤ k') (hg : Gl X "len") (hmg : X.mg "len" = none) (ha : Den X a A)
    (he : starEach [a] X.env = (false, eval a X.env) :: starEach [] X.env := by rfl) : Den X (.Call (.Name "len" p) [a] [] pos) (lenO cn F A) where
  val := fun {f es ms ms' s} ft q => by
    obtain ⟨rfl, rfl, rfl, rfl, rfl⟩ := hX
    obtain ⟨g, fd, ps, hF, hm, hfn, hb⟩ := G.cal
    obtain ⟨s0, m1, n, h1, h2, h3, h4, h5⟩ := lenO_eq q
    cases h5
    obtain ⟨fm, o, g1, g2, g3, g4, g5⟩ := callF_eq h3
    have l1 := ha.opL ft.le ft.lm h1
    have ft1 := ha.opF ft h1
    have ho := G.out _ _ _ g4
    have lo : Low m1.length [s0] := Low.cons (fun k e => by rw [l1.2.2]; exact l1.1 k (by rw [e])) (low_nil _)
    rcases g5 with ⟨d, m, rfl, h5, rfl⟩ | ⟨ts, m, rfl, h5, rfl⟩ | ⟨x, m, rfl, h5, rfl⟩
    · cases h5
      have hS : preF F [f.s s0] (f.ms m1) (fun o => o = .ret (.int n) (f.ms (setAll m1 (refs [s0]) m))) := preF_s ft1 lo g1 g2 g3 g4 ho rfl
      refine pe_w (pe_callB (cr_lenO hm.at_ hm.fn hF (hr.mono hk) hb) hg hmg PySem.boot_len (pa_cons (ha.opV ft h1) pa_nil he) (by decide) (by decide) he) fun σ H Q ⟨as, s1, kk⟩ => ⟨as, s1, fun v H1 mm e1 r1 => ?_⟩
      obtain ⟨a, dx, fs, rfl, j1, j2⟩ := isO_at ft1 h2 as _ H1 mm r1
      refine ⟨a, dx, fs, rfl, j1, as, [f.s s0], f.ms m1, _, mm, .cons r1 .nil, hS, fun d' ms' v H' q m' e' r' => ?_, fun x ms' cls dd H' q => (nomatch q), fun ds ms' p H' q => (nomatch q)⟩
      cases q
      cases r'
      exact ⟨n, rfl, h4, kk _ _ m' (e1.trans e') (.int n)⟩
    · cases h5
    · cases h5
  new := fun ft q => by obtain ⟨s0, m1, n, h1, h2, h3, h4, h5⟩ := lenO_eq q; cases h5
  exc := fun tk ft q => by obtain ⟨s0, m1, n, h1, h2, h3, h4, h5⟩ := lenO_eq q; cases h5
  low := fun {es ms ms' q0} le lm q => by
    obtain ⟨s0, m1, n, h1, h2, h3, h4, rfl⟩ := lenO_eq q
    have l1 := ha.opL le lm h1
    have l3 := callF_low G.out (ms := m1) (by rw [l1.2.2]; exact l1.2.1) h3
    rw [l1.2.2] at l3
    exact ⟨fun k e => (by cases e), l3.2⟩
end
end Dn
/-! # Dn15: C(..): a new object, which is a datum behind its __init__ -/
namespace Dn
open PySem PySem.Spec L2 Dv
def unF : List (Str × Sv) → Option (List (Str × Dt))
  | [] => some []
  | (f, .d x) :: r => (unF r).map ((f, x) :: ·)
  | _ => none
theorem unF_eq : ∀ {fs : List (Str × Sv)} {gs : List (Str × Dt)}, unF fs = some gs → fs = gs.map fun p => (p.1, Sv.d p.2)
  | [], gs, h => by cases h; rfl
  | (f, .d x) :: r, gs, h => by
    unfold unF at h
    obtain ⟨cs, h1, rfl⟩ := Option.map_eq_some_iff.mp h
    rw [unF_eq h1]
    rfl
  | (_, .m _) :: _, _, h => by cases h
  | (_, .x _ _ _ _) :: _, _, h => by cases h
  | (_, .u) :: _, _, h => by cases h
theorem cellsAt_app : ∀ {ms ox : Ms} {ks : List Nat} {fm : Ms}, cellsAt ms ks = some fm → cellsAt (ms ++ ox) ks = some fm
  | ms, ox, [], fm, h => h
  | ms, ox, k :: ks, fm, h => by
    unfold cellsAt at h ⊢
    split at h
    · split at h
      · rename_i c hc hd
        rw [List.getElem?_append_left (List.getElem?_eq_some_iff.mp hc).1, hc]
        obtain ⟨gm, h1, h2⟩ := Option.map_eq_some_iff.mp h
        show (if Cell.isD c = true then _ else none) = _
        rw [if_pos hd, cellsAt_app h1]
        exact congrArg some h2
      · cases h
    · cases h
def make (cn : Str) (F : FD) (R : AD) : ED := fun es ms => match R es ms with
  | some (.v ss, m) => if ss.all argOk = true ∧ (refs ss).Nodup then match cellsAt m (refs ss) with
      | some fm => match F (.m 0 :: loc 1 ss) (some (.o cn []) :: fm) with
        | some (.ret .non (some (.o C fs) :: mm)) => if C = cn then match unF fs with
            | some gs => some (.v (.d (.obj cn gs)), setAll m (refs ss) mm)
            | none => none
          else none
        | some (.exc x (_ :: mm)) => some (.x x, setAll m (refs ss) mm)
        | _ => none
      | none => none
    else none
  | some (.x x, m) => some (.x x, m)
  | none => none
section
variable {X : Cx} {e a b c : Expr} {A B : ED} {f : Fr} {es : Es} {ms ms' ms1 : Ms} {p pos : Pos} {es0 : List Expr} {F : FD} {R : AD} {cn : Str} {k' lev : Nat}
variable {PP : Program} {w : World} {K : PySem.W.Frag} {mg : Str → Option Value} {base : Heap}
theorem make_eq {q : Pv} (h : make cn F R es ms = some (q, ms')) : (∃ ss m fm, R es ms = some (.v ss, m) ∧ ss.all argOk = true ∧ (refs ss).Nodup ∧ cellsAt m (refs ss) = some fm ∧
    ((∃ gs mm, F (.m 0 :: loc 1 ss) (some (.o cn []) :: fm) = some (.ret .non (some (.o cn (gs.map fun p => (p.1, Sv.d p.2))) :: mm)) ∧ q = .v (.d (.obj cn gs)) ∧ ms' = setAll m (refs ss) mm) ∨
     (∃ x c mm, F (.m 0 :: loc 1 ss) (some (.o cn []) :: fm) = some (.exc x (c :: mm)) ∧ q = .x x ∧ ms' = setAll m (refs ss) mm))) ∨ (∃ x, R es ms = some (.x x, ms') ∧ q = .x x) := by
  unfold make at h
  split at h
  · rename_i ss m h1
    split at h
    · rename_i hh
      split at h
      · rename_i fm h2
        split at h
        · rename_i C fs mm h3
          split at h
          · rename_i hC
            subst hC
            split at h
            · rename_i gs h4
              cases h
              exact .inl ⟨ss, m, fm, h1, hh.1, hh.2, h2, .inl ⟨gs, mm, by rw [h3, ← unF_eq h4], rfl, rfl⟩⟩
            · cases h
          · cases h
        · rename_i x c mm h3
          cases h
          exact .inl ⟨ss, m, fm, h1, hh.1, hh.2, h2, .inr ⟨x, c, mm, h3, rfl, rfl⟩⟩
        · cases h
      · cases h
    · cases h
  · cases h; exact .inr ⟨_, ‹_›, rfl⟩
  · cases h
/-- what the whole store is for the __init__ -/
theorem pre_init {ss : List Sv} {msw fm : Ms} {o : Ro} {Rr : Ro → Prop} (lo : Low msw.length ss) (g1 : ss.all argOk = true) (g2 : (refs ss).Nodup) (g3 : cellsAt msw (refs ss) = some fm)
    (g4 : F (.m 0 :: loc 1 ss) (some (.o cn []) :: fm) = some o) (hR : Rr (unf (msw ++ [some (.o cn [])]) (msw.length :: refs ss) o)) : preF F (.m msw.length :: ss) (msw ++ [some (.o cn [])]) Rr := by
  refine ⟨some (.o cn []) :: fm, o, ?_, ?_, ?_, g4, hR⟩
  · rw [List.all_cons, g1]; rfl
  · show (msw.length :: refs ss).Nodup
    rw [List.nodup_cons]
    exact ⟨fun z => Nat.lt_irrefl _ (refs_low lo _ z), g2⟩
  · show cellsAt (msw ++ [some (.o cn [])]) (msw.length :: refs ss) = _
    unfold cellsAt
    rw [show (msw ++ [some (Cell.o cn [])])[msw.length]? = some (some (Cell.o cn [])) by simp, cellsAt_app g3]
    rfl
theorem unf_init {msw mm : Ms} {c0 c1 : Option Cell} {ks : List Nat} (hk : ∀ k ∈ ks, k < msw.length) : setAll (msw ++ [c0]) (msw.length :: ks) (c1 :: mm) = setAll msw ks mm ++ [c1] := by
  show setAll ((msw ++ [c0]).set msw.length c1) ks mm = _
  rw [List.set_append_right _ _ (Nat.le_refl _), Nat.sub_self, List.set_cons_zero, setAll_app hk]
theorem den_make (G : CalI PP w K mg base cn lev F) (hX : PP = X.prog ∧ w = X.w ∧ K = X.K ∧ mg = X.mg ∧ base = X.base) (hr : Room k' X.A) (hk : lev + 1 ≤ k') (hg : Gl X cn) (ha : DenA X (e :: es0) R)
    (hdb : (cn == ("__debug__" : Str)) = false := by decide) (he : starEach (e :: es0) X.env = (false, eval e X.env) :: starEach es0 X.env := by rfl) (hpl : (backTo pos (starEach es0 X.env)).any (·.1) = false := by rfl) :
    Den X (.Call (.Name cn p) (e :: es0) [] pos) (make cn F R) where
  val := fun {f es ms ms' s} ft q => by
    obtain ⟨rfl, rfl, rfl, rfl, rfl⟩ := hX
    obtain ⟨g, fd, ps, hF, hm, hb⟩ := G.cal
    rcases make_eq q with ⟨ss, m, fm, h1, g1, g2, g3, h5⟩ | ⟨x, h1, h3⟩
    · rcases h5 with ⟨gs, mm, g4, h6, h7⟩ | ⟨x, c, mm, g4, h6, h7⟩
      · cases h6
        subst h7
        have l1 := ha.low ft.le ft.lm h1
        have ft1 := ft.go l1.2
        have lo : Low m.length ss := by rw [l1.2.2]; exact l1.1 _ rfl
        have lok : ∀ k ∈ refs ss, k < m.length := refs_low lo
        have ho := G.out _ _ _ g4
        simp only [outOk, Bool.and_eq_true, List.all_cons] at ho
        have hmm : mm.all cellOk = true := ho.2.2
        have er := refs_s (f := f) lo ft1.len.symm
        have ef : f.ms (setAll m (refs ss) mm) = setAll (f.ms m) (refs (ss.map f.s)) mm := by rw [setAll_s ft1 lok hmm, er]
        refine pe_w (pe_makeT hm hF (hr.mono hk) hg G.mg hb (fun σ => passAt takes0 σ) (ha.val ft h1) hdb he hpl) fun σ H Q ⟨as, s0, kk⟩ => ⟨as, s0, fun vs H1 m1 e1 r1 => fun x dx hx hdx hne => ?_⟩
        have n1 := m1.new (p := dx) (o := .own x) hdx
        have hx1 : upd H1 dx (.own x) x = none := by rw [upd_ne (Ne.symm hne)]; exact hx
        have n2 := Dn.MsR.moreC n1.1 (p := x) (o := .ins (clsA X.K cn) dx []) (c := .o cn []) hx1 ⟨dx, [], rfl, .nil⟩
        have e12 := n1.2.trans n2.2
        have lw : Low (f.ms m).length (ss.map f.s) := by rw [m1.len]; exact r1.low
        have lkw := refs_low lw
        refine ⟨as ++ [some x], .m (f.ms m).length :: ss.map f.s, f.ms m ++ [some (.o cn [])], fun o => o = .ret .non (setAll (f.ms m) (refs (ss.map f.s)) mm ++ [some (.o cn (gs.map fun p => (p.1, Sv.d p.2)))]), n2.1, .cons ⟨x, by rw [m1.len]; simp, rfl⟩ (r1.grow e12 as_more), ?_, fun d ms' v H' hq mq eq rq => ?_, fun x ms' cls dd H' q => (nomatch q), fun ds ms' p H' q => (nomatch q)⟩
        · refine pre_init lw (arg_s lo ft1.len.symm g1) (er ▸ nodup_map ft1.ok g2 fun k hk => by rw [ft1.len]; exact lok k hk) (er ▸ cellsAt_map ft1 g3) ?_ ?_ (o := .ret .non (some (.o cn (gs.map fun p => (p.1, Sv.d p.2))) :: mm))
          · rw [loc_s lo ft1.len.symm]; exact g4
          · show Ro.ret _ _ = _
            rw [unf_init lkw]
        · cases hq
          cases rq
          refine ⟨rfl, ?_⟩
          have lm1 : Lows as.length (f.ms m) := m1.lows
          have b := Dn.MsR.backC mq (setAll_lows lm1 hmm) (cellD_low _ ho.2.1)
          obtain ⟨b1, b2, o, b3, dx', gs', b4, b5⟩ := b
          subst b4
          refine kk _ H' (by rw [ef]; exact b1) (e1.trans (e12.trans (eq.trans b2))) (.obj b3 (FsR.data b5))
      · cases h6
    · cases h3
  new := fun ft q => by
    rcases make_eq q with ⟨ss, m, fm, h1, g1, g2, g3, h5⟩ | ⟨x, h1, h3⟩
    · rcases h5 with ⟨gs, mm, g4, h6, h7⟩ | ⟨x, c, mm, g4, h6, h7⟩ <;> cases h6
    · cases h3
  exc := fun {W f es ms ms' x0} tk ft q => by
    obtain ⟨rfl, rfl, rfl, rfl, rfl⟩ := hX
    obtain ⟨g, fd, ps, hF, hm, hb⟩ := G.cal
    rcases make_eq q with ⟨ss, m, fm, h1, g1, g2, g3, h5⟩ | ⟨x, h1, h3⟩
    · rcases h5 with ⟨gs, mm, g4, h6, h7⟩ | ⟨x, c, mm, g4, h6, h7⟩
      · cases h6
      · cases h6
        subst h7
        have l1 := ha.low ft.le ft.lm h1
        have ft1 := ft.go l1.2
        have lo : Low m.length ss := by rw [l1.2.2]; exact l1.1 _ rfl
        have lok : ∀ k ∈ refs ss, k < m.length := refs_low lo
        have ho := G.out _ _ _ g4
        simp only [outOk, Bool.and_eq_true, List.all_cons] at ho
        have hmm : mm.all cellOk = true := ho.2.2
        have er := refs_s (f := f) lo ft1.len.symm
        have ef : f.ms (setAll m (refs ss) mm) = setAll (f.ms m) (refs (ss.map f.s)) mm := by rw [setAll_s ft1 lok hmm, er]
        obtain ⟨c0, rfl⟩ : ∃ c0, c = some c0 := by
          cases c with
          | none => exact absurd ho.2.1 (by simp [cellOk])
          | some c0 => exact ⟨c0, rfl⟩
        refine pe_w (pe_makeT hm hF (hr.mono hk) hg G.mg hb (fun σ => passAt tk σ) (ha.val ft h1) hdb he hpl) fun σ H Q ⟨as, s0, kk⟩ => ⟨as, s0, fun vs H1 m1 e1 r1 => fun x dx hx hdx hne => ?_⟩
        have n1 := m1.new (p := dx) (o := .own x) hdx
        have hx1 : upd H1 dx (.own x) x = none := by rw [upd_ne (Ne.symm hne)]; exact hx
        have n2 := Dn.MsR.moreC n1.1 (p := x) (o := .ins (clsA X.K cn) dx []) (c := .o cn []) hx1 ⟨dx, [], rfl, .nil⟩
        have e12 := n1.2.trans n2.2
        have lw : Low (f.ms m).length (ss.map f.s) := by rw [m1.len]; exact r1.low
        have lkw := refs_low lw
        refine ⟨as ++ [some x], .m (f.ms m).length :: ss.map f.s, f.ms m ++ [some (.o cn [])], fun o => o = unf (f.ms m ++ [some (.o cn [])]) ((f.ms m).length :: refs (ss.map f.s)) (.exc x0 (some c0 :: mm)), n2.1, .cons ⟨x, by rw [m1.len]; simp, rfl⟩ (r1.grow e12 as_more), pre_init (Rr := fun o => o = unf (f.ms m ++ [some (.o cn [])]) ((f.ms m).length :: refs (ss.map f.s)) (.exc x0 (some c0 :: mm))) lw (arg_s lo ft1.len.symm g1) (er ▸ nodup_map ft1.ok g2 fun k hk => by rw [ft1.len]; exact lok k hk) (er ▸ cellsAt_map ft1 g3) (by rw [loc_s lo ft1.len.symm]; exact g4) rfl, fun d ms' v H' q => (nomatch q), fun x' ms' cls dd H' hq mq eq rq => ?_, fun ds ms' p H' q => (nomatch q)⟩
        replace hq : Ro.exc x' ms' = .exc x0 (setAll (f.ms m ++ [some (.o cn [])]) ((f.ms m).length :: refs (ss.map f.s)) (some c0 :: mm)) := hq
        rw [unf_init lkw] at hq
        cases hq
        have lm1 : Lows as.length (f.ms m) := m1.lows
        obtain ⟨b1, b2, _⟩ := Dn.MsR.backC mq (setAll_lows lm1 hmm) (cellD_low _ ho.2.1)
        exact kk cls dd H' (by rw [ef]; exact b1) (e1.trans (e12.trans (eq.trans b2))) (rq.mono b2)
    · cases h3
      exact pe_w (pe_makeT hm hF (hr.mono hk) hg G.mg hb (fun σ => passAt tk σ) (ha.exc tk ft h1) hdb he hpl) fun σ H Q ⟨as, s0, kk⟩ => ⟨as, s0, kk⟩
  low := fun {es ms ms' q0} le lm q => by
    rcases make_eq q with ⟨ss, m, fm, h1, g1, g2, g3, h5⟩ | ⟨x, h1, rfl⟩
    · have l1 := ha.low le lm h1
      rcases h5 with ⟨gs, mm, g4, rfl, rfl⟩ | ⟨x, c, mm, g4, rfl, rfl⟩
      · have ho := G.out _ _ _ g4
        simp only [outOk, Bool.and_eq_true, List.all_cons] at ho
        exact ⟨fun k e => (by cases e), setAll_lows l1.2.1 ho.2.2, (setAll_len _ _ _).trans l1.2.2⟩
      · have ho := G.out _ _ _ g4
        simp only [outOk, Bool.and_eq_true, List.all_cons] at ho
        exact ⟨trivial, setAll_lows l1.2.1 ho.2.2, (setAll_len _ _ _).trans l1.2.2⟩
    · exact ⟨trivial, (ha.low le lm h1).2⟩
end
end Dn
/-! # Dn16: things of ours that become data, or nothing -/
namespace Dn
open PySem PySem.Spec L2 Dv
def rep (j : Nat) (r : Sv) : Sv → Sv
  | .m k => if k = j then r else .m k
  | s => s
def repE (j : Nat) (r : Sv) (es : Es) : Es := es.map (Option.map (rep j r))
def repM (j : Nat) (r : Sv) (ms : Ms) : Ms := (ms.map (Option.map (Cell.map (rep j r)))).set j none
theorem rep_m {j k : Nat} {r : Sv} : rep j r (.m k) = if k = j then r else .m k := rfl
inductive Repl : Cell → Sv → Prop
  | u {c : Cell} : Repl c .u
  | l {ds : List Dt} : Repl (.l (ds.map Sv.d)) (.d (.lst ds))
  | o {C : Str} {gs : List (Str × Dt)} : Repl (.o C (gs.map fun p => (p.1, Sv.d p.2))) (.d (.obj C gs))
section
variable {X : Cx} {n : Nat} {W : WX} {es : Es} {ms : Ms} {Q : Out → Prop} {l : List Stmt}
theorem s_rep {i : Nat} {c : Cell} {r : Sv} (hi : ms[i]? = some (some c)) (hr : Repl c r) (hn : n ≤ i) (h : PSs X l (tS X.K n W (repE i r es) (repM i r ms) Q)) : PSs X l (tS X.K n W es ms Q) := pss_w h fun D σ H ⟨as, s, ln, kk⟩ => by
  have hlt : i < as.length := by rw [← s.mem.len]; exact (List.getElem?_eq_some_iff.mp hi).1
  have less : ∀ a : Addr, some a ∈ as.set i none → some a ∈ as := fun a h => by
    rcases List.mem_or_eq_of_mem_set h with h | h
    · exact h
    · cases h
  have e : Same (hid as H) (hid (as.set i none) H) := hid_less less
  have get : ∀ {j : Nat} {a : Addr}, (as.set i none)[j]? = some (some a) → i ≠ j ∧ as[j]? = some (some a) := fun {j a} h => by
    by_cases c : i = j
    · subst c
      rw [List.getElem?_set_self hlt] at h
      cases h
    · rw [List.getElem?_set_ne c] at h
      exact ⟨c, h⟩
  have val : ∀ {v : V} {sv : Sv}, ValR X.K as H v sv → ValR X.K (as.set i none) H v (rep i r sv) := fun {v sv} h2 => by
    cases sv with
    | d x => exact Rp.mono e h2
    | m q =>
      obtain ⟨a, g1, rfl⟩ := h2
      rw [rep_m]
      by_cases c : q = i
      · rw [if_pos c]
        subst c
        have vis : ∀ o, H a = some o → hid (as.set q none) H a = some o := fun o ho => hid_to ho fun z => by
          obtain ⟨j', hj'⟩ := List.getElem?_of_mem z
          have := s.mem.uniq j' q a (get hj').2 g1
          exact (get hj').1 this.symm
        cases hr with
        | u => exact True.intro
        | l =>
          obtain ⟨vs', k2, k3⟩ := s.mem.list g1 hi
          exact Rp.lst (.inl (.inl (vis _ k2))) (k3.data.mono e)
        | o =>
          obtain ⟨dx, gs', k2, k3⟩ := s.mem.obj g1 hi
          exact Rp.obj (vis _ k2) (RpF.mono e (FsR.data k3))
      · rw [if_neg c]
        exact ⟨a, by rw [List.getElem?_set_ne (Ne.symm c)]; exact g1, rfl⟩
    | x a c dd y => exact ⟨h2.1, h2.2.mono e⟩
    | u => exact True.intro
  have vals : ∀ {vs : List V} {ss : List Sv}, ArR X.K as H vs ss → ArR X.K (as.set i none) H vs (ss.map (rep i r)) := fun {vs ss} r => by
    induction r with
    | nil => exact .nil
    | cons h _ ih => exact .cons (val h) ih
  have valF : ∀ {vs : List (Str × V)} {ss : List (Str × Sv)}, FsR X.K as H vs ss → FsR X.K (as.set i none) H vs (ss.map fun p => (p.1, rep i r p.2)) := fun {vs ss} r => by
    induction r with
    | nil => exact .nil
    | cons h _ ih => exact .cons (val h) ih
  have valC : ∀ {h : HO} {c : Cell}, CellR X.K as H h c → CellR X.K (as.set i none) H h (c.map (rep i r)) := fun {h c} q => by
    cases c with
    | l ss => obtain ⟨vs, h1, h2⟩ := q; exact ⟨vs, h1, vals h2⟩
    | o C fs => obtain ⟨dx, gs, h1, h2⟩ := q; exact ⟨dx, gs, h1, valF h2⟩
  refine ⟨as.set i none, ⟨by unfold repE; rw [List.length_map]; exact s.len, fun j sv h => ?_, ?_⟩, by rw [List.length_set]; exact ln, fun o po as' H' st => kk o po as' H' ?_⟩
  · unfold repE at h
    rw [List.getElem?_map] at h
    cases q : es[j]? with
    | none => rw [q] at h; cases h
    | some o =>
      rw [q] at h
      cases o with
      | none => cases h
      | some sw =>
        obtain ⟨v, h1, h2⟩ := s.env j sw q
        cases h
        exact ⟨v, h1, val h2⟩
  · refine ⟨by unfold repM; rw [List.length_set, List.length_set, List.length_map]; exact s.mem.len, fun j j' a h1 h2 => s.mem.uniq j j' a (get h1).2 (get h2).2, fun j a h => ?_, fun j h => ?_⟩
    · obtain ⟨c, g⟩ := get h
      obtain ⟨ds', vs', k1, k2, k3⟩ := s.mem.is j a g
      exact ⟨_, vs', by unfold repM; rw [List.getElem?_set_ne c, List.getElem?_map, k1]; rfl, k2, valC k3⟩
    · unfold repM
      by_cases c : i = j
      · subst c
        rw [List.getElem?_set_self (by rw [List.length_map, s.mem.len]; exact hlt)]
      · rw [List.getElem?_set_ne c] at h
        rw [List.getElem?_set_ne c, List.getElem?_map, s.mem.no j h]
        rfl
  · refine ⟨e.trans st.same, fun k hk => (st.pre k hk).trans (List.getElem?_set_ne (by omega)), st.len, fun a ha => ?_, by have := st.mono; rw [List.length_set] at this; exact this, fun k a hk q => (get (st.keep k a (by rw [List.length_set]; exact hk) q)).2⟩
    rcases st.news a ha with z | z
    · exact .inl (less a z)
    · exact .inr z
end
/-! ### in frames -/
section
variable {f : Fr} {b : Bs} {es : Es} {ms : Ms} {j kk : Nat} {r : Sv}
theorem Repl.fix {c : Cell} {r : Sv} (h : Repl c r) (f : Fr) : f.s r = r := by cases h <;> rfl
theorem rep_s (ft : Fit f es ms) (hk : f.ks[j]? = some kk) (hr : f.s r = r) {s : Sv} (hs : ∀ k, s = .m k → k < ms.length) : rep kk r (f.s s) = f.s (rep j r s) := by
  cases s with
  | m k =>
    have hlt : k < f.ks.length := by rw [ft.len]; exact hs k rfl
    have e : f.s (.m k) = .m f.ks[k] := by show (match f.ks[k]? with | some k => Sv.m k | none => .u) = _; rw [List.getElem?_eq_getElem hlt]
    rw [e, rep_m, rep_m]
    by_cases c : k = j
    · subst c
      rw [List.getElem?_eq_getElem hlt] at hk
      rw [if_pos (Option.some.inj hk), if_pos rfl, hr]
    · rw [if_neg c, if_neg, e]
      intro z
      exact c (nd_ix ft.ok.nd (List.getElem?_eq_getElem hlt) (by rw [z]; exact hk))
  | d x => rfl
  | x a c d y => rfl
  | u => rfl
theorem rep_es (ft : Fit f es ms) (hk : f.ks[j]? = some kk) (hr : f.s r = r) : repE kk r (f.es es) = f.es (repE j r es) := by
  unfold repE Fr.es
  rw [List.map_map, List.map_map]
  refine List.map_congr_left fun o ho => ?_
  cases o with
  | none => rfl
  | some s =>
    obtain ⟨i, hi⟩ := List.getElem?_of_mem ho
    exact congrArg some (rep_s ft hk hr fun k e => ft.le i k (by rw [hi, e]))
theorem rep_cell (ft : Fit f es ms) (hk : f.ks[j]? = some kk) (hr : f.s r = r) {c : Cell} (hc : Low ms.length c.all) : (c.map f.s).map (rep kk r) = (c.map (rep j r)).map f.s := by
  cases c with
  | l ss =>
    show Cell.l ((ss.map f.s).map (rep kk r)) = Cell.l ((ss.map (rep j r)).map f.s)
    rw [List.map_map, List.map_map]
    exact congrArg Cell.l (List.map_congr_left fun s hs => rep_s ft hk hr fun k e => hc k (e ▸ hs))
  | o C fs =>
    show Cell.o C ((fs.map _).map _) = Cell.o C ((fs.map _).map _)
    rw [List.map_map, List.map_map]
    refine congrArg (Cell.o C) (List.map_congr_left fun p hp => ?_)
    exact congrArg (p.1, ·) (rep_s ft hk hr fun k e => hc k (by rw [← e]; exact List.mem_map.mpr ⟨p, hp, rfl⟩))
theorem setAll_map (g : Option Cell → Option Cell) : ∀ {out : Ms} {ks : List Nat} {cs : Ms}, (setAll out ks cs).map g = setAll (out.map g) ks (cs.map g)
  | out, [], cs => by cases cs <;> rfl
  | out, k :: ks, [] => rfl
  | out, k :: ks, c :: cs => by
    show (setAll (out.set k c) ks cs).map g = setAll ((out.map g).set k (g c)) ks (cs.map g)
    rw [setAll_map g, List.map_set]
theorem rep_low {n : Nat} {c : Cell} (h : Low n c.all) (hk : n ≤ kk) : c.map (rep kk r) = c := by
  have one : ∀ s : Sv, (∀ k, s = .m k → k < n) → rep kk r s = s := fun s hs => by
    cases s with
    | m k => rw [rep_m, if_neg]; have := hs k rfl; omega
    | d x => rfl
    | x a c d y => rfl
    | u => rfl
  cases c with
  | l ss =>
    show Cell.l (ss.map _) = _
    congr 1
    conv => rhs; rw [← List.map_id ss]
    exact List.map_congr_left fun s hs => one s fun k e => h k (e ▸ hs)
  | o C fs =>
    show Cell.o C (fs.map _) = _
    congr 1
    conv => rhs; rw [← List.map_id fs]
    exact List.map_congr_left fun p hp => by
      show (p.1, rep kk r p.2) = p
      rw [one p.2 fun k e => h k (by rw [← e]; exact List.mem_map.mpr ⟨p, hp, rfl⟩)]
theorem rep_ms (fb : FrB b f) (ft : Fit f es ms) (hk : f.ks[j]? = some kk) (hb : b.n ≤ kk) (hr : f.s r = r) : repM kk r (f.ms ms) = f.ms (repM j r ms) := by
  unfold repM
  have e0 : f.ms ((ms.map (Option.map (Cell.map (rep j r)))).set j none) = (f.ms (ms.map (Option.map (Cell.map (rep j r))))).set kk none := Fr.set ft.ok (by rw [List.length_map]; exact ft.len) hk
  rw [e0]
  congr 1
  unfold Fr.ms
  rw [setAll_map, List.map_map, List.map_map]
  have e1 : f.out.map (Option.map (Cell.map (rep kk r))) = f.out := by
    conv => rhs; rw [← List.map_id f.out]
    refine List.map_congr_left fun o ho => ?_
    cases o with
    | none => rfl
    | some c =>
      obtain ⟨i, hi⟩ := List.getElem?_of_mem ho
      exact congrArg some (rep_low (fb.low i c hi) hb)
  rw [e1]
  congr 1
  refine List.map_congr_left fun o ho => ?_
  cases o with
  | none => rfl
  | some c =>
    obtain ⟨i, hi⟩ := List.getElem?_of_mem ho
    exact congrArg some (rep_cell ft hk hr (ft.lm i c hi))
theorem rep_val_low {n : Nat} {s : Sv} (hr : ∀ k, r ≠ .m k) (hs : ∀ k, s = .m k → k < n) : ∀ k, rep j r s = .m k → k < n ∧ k ≠ j := fun k e => by
  cases s with
  | m q =>
    rw [rep_m] at e
    by_cases c : q = j
    · rw [if_pos c] at e; exact absurd e (hr k)
    · rw [if_neg c] at e; cases e; exact ⟨hs _ rfl, c⟩
  | d x => cases e
  | x a c d y => cases e
  | u => cases e
theorem Repl.nm {c : Cell} {r : Sv} (h : Repl c r) : ∀ k, r ≠ .m k := by cases h <;> intro k e <;> cases e
theorem rep_all {c : Cell} (hr : ∀ k, r ≠ .m k) {n : Nat} (h : Low n c.all) : ∀ k, .m k ∈ (c.map (rep j r)).all → k < n ∧ k ≠ j := fun k hk => by
  cases c with
  | l ss =>
    obtain ⟨s, hs, e⟩ := List.mem_map.mp hk
    exact rep_val_low hr (fun q z => h q (z ▸ hs)) k e
  | o C fs =>
    obtain ⟨p, hp, e⟩ := List.mem_map.mp hk
    obtain ⟨p0, hp0, rfl⟩ := List.mem_map.mp hp
    exact rep_val_low hr (fun q z => h q (by rw [← z]; exact List.mem_map.mpr ⟨p0, hp0, rfl⟩)) k e
theorem repE_low (hr : ∀ k, r ≠ .m k) {n : Nat} (h : LowE n es) : ∀ (i k : Nat), (repE j r es)[i]? = some (some (Sv.m k)) → k < n ∧ k ≠ j := fun i k hk => by
  unfold repE at hk
  rw [List.getElem?_map] at hk
  cases q : es[i]? with
  | none => rw [q] at hk; cases hk
  | some o =>
    rw [q] at hk
    cases o with
    | none => cases hk
    | some s =>
      have hk' : rep j r s = Sv.m k := by simpa using hk
      exact rep_val_low (s := s) hr (fun k z => h i k (by rw [q, z])) k hk'
theorem repM_low (hr : ∀ k, r ≠ .m k) {n : Nat} (h : Lows n ms) : ∀ (i : Nat) (c : Cell), (repM j r ms)[i]? = some (some c) → ∀ k : Nat, Sv.m k ∈ c.all → k < n ∧ k ≠ j := fun i c hc => by
  unfold repM at hc
  by_cases q : j = i
  · subst q
    rw [List.getElem?_set] at hc
    split at hc
    · split at hc <;> cases hc
    · exact absurd rfl ‹_›
  · rw [List.getElem?_set_ne q, List.getElem?_map] at hc
    cases z : ms[i]? with
    | none => rw [z] at hc; cases hc
    | some o =>
      rw [z] at hc
      cases o with
      | none => cases hc
      | some c0 => cases hc; exact rep_all hr (h i c0 z)
theorem repM_len : (repM j r ms).length = ms.length := by unfold repM; rw [List.length_set, List.length_map]
theorem Fit.rep (ft : Fit f es ms) (hr : ∀ k, r ≠ .m k) : Fit f (repE j r es) (repM j r ms) :=
  ⟨ft.ok, by rw [repM_len]; exact ft.len, by rw [repM_len]; exact fun i k h => (repE_low hr ft.le i k h).1, by rw [repM_len]; exact fun i c h k hk => (repM_low hr ft.lm i c h k hk).1⟩
/-- the last thing of the def's own, which is nothing any more, is forgotten -/
theorem shrink {m0 : Ms} (fb : FrB b f) (ft : Fit f es (m0 ++ [none])) (hp : b.p ≤ m0.length) (le : LowE m0.length es) (lm : Lows m0.length (m0 ++ [none])) : ∃ f', FrB b f' ∧ Fit f' es m0 ∧ f'.es es = f.es es ∧ f'.ms m0 = f.ms (m0 ++ [none]) := by
  have hlen : f.ks.length = m0.length + 1 := by rw [ft.len]; simp
  obtain ⟨kt, kk, hks⟩ : ∃ kt kk, f.ks = kt ++ [kk] := by
    rcases List.eq_nil_or_concat f.ks with h | ⟨kt, kk, h⟩
    · rw [h] at hlen; simp at hlen
    · exact ⟨kt, kk, by rw [h, List.concat_eq_append]⟩
  have hkt : kt.length = m0.length := by rw [hks] at hlen; simp at hlen; exact hlen
  have nd := ft.ok.nd
  rw [hks, List.nodup_append] at nd
  have nin : kk ∉ kt := fun z => nd.2.2 kk z kk (by simp) rfl
  have kkl : kk < f.out.length := ft.ok.lt kk (by rw [hks]; simp)
  have hkk : f.ks[m0.length]? = some kk := by rw [hks, ← hkt]; simp
  have bn : b.n ≤ kk := fb.up m0.length kk hp hkk
  let f' : Fr := ⟨f.out.set kk none, kt⟩
  have hs : ∀ s : Sv, (∀ k, s = .m k → k < m0.length) → f'.s s = f.s s := fun s h => by
    cases s with
    | m k =>
      have := h k rfl
      show (match kt[k]? with | some k => Sv.m k | none => .u) = (match f.ks[k]? with | some k => Sv.m k | none => .u)
      rw [hks, List.getElem?_append_left (by omega)]
    | d x => rfl
    | x a c d y => rfl
    | u => rfl
  refine ⟨f', ⟨?_, ?_, by show b.n ≤ (f.out.set kk none).length; rw [List.length_set]; exact fb.nl, by show b.p ≤ kt.length; omega, fun i k hi hk => ?_, fun i c hi => ?_⟩, ⟨⟨nd.1, fun k hk => ?_⟩, hkt, le, fun i c hi => ?_⟩, ?_, ?_⟩
  · show (f.out.set kk none).take b.n = _
    rw [List.take_set_of_le bn]; exact fb.out
  · show kt.take b.p = _
    rw [← fb.ks, hks, List.take_append_of_le_length (by omega)]
  · replace hk : kt[i]? = some k := hk
    exact fb.up i k hi (by rw [hks, List.getElem?_append_left (List.getElem?_eq_some_iff.mp hk).1]; exact hk)
  · replace hi : (f.out.set kk none)[i]? = some (some c) := hi
    by_cases q : kk = i
    · subst q; rw [List.getElem?_set_self kkl] at hi; cases hi
    · rw [List.getElem?_set_ne q] at hi; exact fb.low i c hi
  · show k < (f.out.set kk none).length
    rw [List.length_set]
    exact ft.ok.lt k (by rw [hks]; exact List.mem_append_left _ hk)
  · exact lm i c (by rw [List.getElem?_append_left (List.getElem?_eq_some_iff.mp hi).1]; exact hi)
  · unfold Fr.es
    refine List.map_congr_left fun o ho => ?_
    cases o with
    | none => rfl
    | some s =>
      obtain ⟨i, hi⟩ := List.getElem?_of_mem ho
      exact congrArg some (hs s fun k e => le i k (by rw [hi, e]))
  · unfold Fr.ms
    show setAll (f.out.set kk none) kt _ = setAll f.out f.ks _
    rw [hks, List.map_append, setAll_app2 (by rw [List.length_map]; exact hkt)]
    show _ = (setAll f.out kt _).set kk none
    rw [← setAll_comm nin]
    congr 1
    refine List.map_congr_left fun o ho => ?_
    cases o with
    | none => rfl
    | some c =>
      obtain ⟨i, hi⟩ := List.getElem?_of_mem ho
      have hc := lm i c (by rw [List.getElem?_append_left (List.getElem?_eq_some_iff.mp hi).1]; exact hi)
      refine congrArg some ?_
      cases c with
      | l ss => exact congrArg Cell.l (List.map_congr_left fun s hs' => hs s fun k e => hc k (e ▸ hs'))
      | o C fs => exact congrArg (Cell.o C) (List.map_congr_left fun p hp' => congrArg (p.1, ·) (hs p.2 fun k e => hc k (by rw [← e]; exact List.mem_map.mpr ⟨p, hp', rfl⟩)))
end
/-! ### what it means -/
/-- the datum that a thing of ours is -/
def frzV (ms : Ms) (j : Nat) : Option Sv := match ms[j]? with
  | some (some (.l ss)) => (unD ss).map fun ds => .d (.lst ds)
  | some (some (.o C fs)) => (unF fs).map fun gs => .d (.obj C gs)
  | _ => none
theorem frzV_eq {ms : Ms} {j : Nat} {r : Sv} (h : frzV ms j = some r) : ∃ c, ms[j]? = some (some c) ∧ Repl c r := by
  unfold frzV at h
  split at h
  · obtain ⟨ds, h1, rfl⟩ := Option.map_eq_some_iff.mp h
    have := unD_eq h1
    subst this
    exact ⟨_, ‹_›, .l⟩
  · obtain ⟨ds, h1, rfl⟩ := Option.map_eq_some_iff.mp h
    have := unF_eq h1
    subst this
    exact ⟨_, ‹_›, .o⟩
  · cases h
section
variable {X : Cx} {P : Nat} {l : List Stmt} {k : SD}
/-- the thing in the slot i is a datum from here on -/
def frzAt (P i : Nat) (k : SD) : SD := fun es ms => match es[i]? with
  | some (some (.m j)) => if P ≤ j then match frzV ms j with
      | some r => k (repE j r es) (repM j r ms)
      | none => none
    else none
  | _ => none
theorem ds_frzAt {i : Nat} (hk : DenS X P l k) : DenS X P l (frzAt P i k) := ⟨fun {W b f es ms o} tk hpo fb ft hp q => by
  unfold frzAt at q
  split at q
  · rename_i j hj
    split at q
    · rename_i hpj
      split at q
      · rename_i r hr
        obtain ⟨c, h1, h2⟩ := frzV_eq hr
        obtain ⟨kk, hkk⟩ := Fr.ix (f := f) ft.len (List.getElem?_eq_some_iff.mp h1).1
        have bn : b.n ≤ kk := fb.up j kk (Nat.le_trans hp hpj) hkk
        have := hk.run tk hpo fb (ft.rep (j := j) h2.nm) hp q
        rw [← rep_es ft hkk (h2.fix f), ← rep_ms fb ft hkk bn (h2.fix f)] at this
        refine s_rep (i := kk) (c := c.map f.s) (by rw [Fr.get ft.ok ft.len hkk, h1]; rfl) ?_ bn this
        cases h2 with
        | u => exact .u
        | l => show Repl (.l ((List.map Sv.d _).map f.s)) _; rw [Fr.map_d]; exact .l
        | o => show Repl (.o _ ((List.map _ _).map _)) _; rw [List.map_map]; exact .o
      · cases q
    · cases q
  · cases q⟩
/-- the same of the last thing of all: it leaves the store; u: it is forgotten -/
def lastS (u : Bool) (P i : Nat) (k : SD) : SD := fun es ms => match es[i]? with
  | some (some (.m j)) => if P ≤ j ∧ j + 1 = ms.length then match (if u then (match ms[j]? with | some (some _) => some Sv.u | _ => none) else frzV ms j) with
      | some r => k (repE j r es) ((repM j r ms).take j)
      | none => none
    else none
  | _ => none
abbrev frzS := lastS false
abbrev dropS := lastS true
theorem ds_last {u : Bool} {i : Nat} (hk : DenS X P l k) : DenS X P l (lastS u P i k) := ⟨fun {W b f es ms o} tk hpo fb ft hp q => by
  unfold lastS at q
  split at q
  · rename_i j hj
    split at q
    · rename_i hh
      obtain ⟨hpj, hl⟩ := hh
      split at q
      · rename_i r hr
        obtain ⟨c, h1, h2⟩ : ∃ c, ms[j]? = some (some c) ∧ Repl c r := by
          cases u with
          | false => exact frzV_eq hr
          | true =>
            simp only [if_true] at hr
            split at hr
            · cases hr; exact ⟨_, ‹_›, .u⟩
            · cases hr
        obtain ⟨kk, hkk⟩ := Fr.ix (f := f) ft.len (List.getElem?_eq_some_iff.mp h1).1
        have bn : b.n ≤ kk := fb.up j kk (Nat.le_trans hp hpj) hkk
        have e0 : repM j r ms = (repM j r ms).take j ++ [none] := by
          have hlen : (repM j r ms).length = j + 1 := by rw [repM_len]; exact hl.symm
          apply List.ext_getElem?
          intro i
          by_cases ci : i < j
          · rw [List.getElem?_append_left (by rw [List.length_take, hlen]; omega), List.getElem?_take, if_pos ci]
          · rw [List.getElem?_append_right (by rw [List.length_take, hlen]; omega), List.length_take, hlen]
            by_cases cj : i = j
            · subst cj
              rw [show i - min i (i + 1) = 0 by omega]
              unfold repM
              rw [List.getElem?_set_self (by rw [List.length_map]; omega)]
              rfl
            · rw [List.getElem?_eq_none (by omega), List.getElem?_eq_none (by simp; omega)]
        have fr := ft.rep (j := j) h2.nm
        have tl : ((repM j r ms).take j).length = j := by rw [List.length_take, repM_len]; omega
        have le : LowE ((repM j r ms).take j).length (repE j r es) := fun i k hik => by
          have := repE_low h2.nm ft.le i k hik
          rw [tl]
          omega
        have lm : Lows ((repM j r ms).take j).length ((repM j r ms).take j ++ [none]) := fun i c hic k hik => by
          rw [← e0] at hic
          have := repM_low h2.nm ft.lm i c hic k hik
          rw [tl]
          omega
        obtain ⟨f', g1, g2, g3, g4⟩ := shrink (m0 := (repM j r ms).take j) fb (by rw [← e0]; exact fr) (by rw [tl]; exact Nat.le_trans hp hpj) le lm
        have := hk.run tk hpo g1 g2 hp q
        rw [g3, g4, ← e0, ← rep_es ft hkk (h2.fix f), ← rep_ms fb ft hkk bn (h2.fix f)] at this
        refine s_rep (i := kk) (c := c.map f.s) (by rw [Fr.get ft.ok ft.len hkk, h1]; rfl) ?_ bn this
        cases h2 with
        | u => exact .u
        | l => show Repl (.l ((List.map Sv.d _).map f.s)) _; rw [Fr.map_d]; exact .l
        | o => show Repl (.o _ ((List.map _ _).map _)) _; rw [List.map_map]; exact .o
      · cases q
    · cases q
  · cases q⟩
/-- all that the list in the slot i holds is data from here on -/
def frzIx (P : Nat) : List Nat → Es → Ms → Option (Es × Ms)
  | [], es, ms => some (es, ms)
  | j :: js, es, ms => if P ≤ j then match frzV ms j with
      | some r => frzIx P js (repE j r es) (repM j r ms)
      | none => none
    else none
def flatS (P i : Nat) (k : SD) : SD := fun es ms => match es[i]? with
  | some (some (.m j)) => match cellL ms j with
    | some ss => match frzIx P (refs ss) es ms with
      | some (es1, ms1) => k es1 ms1
      | none => none
    | none => none
  | _ => none
theorem flat_run {W : WX} {b : Bs} {f : Fr} {o : Out} {es1 : Es} {ms1 : Ms} (hk : DenS X P l k) (tk : Takes X W) (hpo : PassesOwn (model X.prog X.w) X.A X.env X.xe) (fb : FrB b f) (hp : b.p ≤ P) (q : k es1 ms1 = some o) : ∀ {js : List Nat} {es : Es} {ms : Ms}, Fit f es ms → frzIx P js es ms = some (es1, ms1) →
    PSs X l (tS X.K b.n W (f.es es) (f.ms ms) (OutF b o))
  | [], es, ms, ft, hx => by cases hx; exact hk.run tk hpo fb ft hp q
  | j :: js, es, ms, ft, hx => by
    unfold frzIx at hx
    split at hx
    · rename_i hpj
      split at hx
      · rename_i r hr
        obtain ⟨c, h1, h2⟩ := frzV_eq hr
        obtain ⟨kk, hkk⟩ := Fr.ix (f := f) ft.len (List.getElem?_eq_some_iff.mp h1).1
        have bn : b.n ≤ kk := fb.up j kk (Nat.le_trans hp hpj) hkk
        have := flat_run hk tk hpo fb hp q (ft.rep (j := j) h2.nm) hx
        rw [← rep_es ft hkk (h2.fix f), ← rep_ms fb ft hkk bn (h2.fix f)] at this
        refine s_rep (i := kk) (c := c.map f.s) (by rw [Fr.get ft.ok ft.len hkk, h1]; rfl) ?_ bn this
        cases h2 with
        | u => exact .u
        | l => show Repl (.l ((List.map Sv.d _).map f.s)) _; rw [Fr.map_d]; exact .l
        | o => show Repl (.o _ ((List.map _ _).map _)) _; rw [List.map_map]; exact .o
      · cases hx
    · cases hx
theorem ds_flat {i : Nat} (hk : DenS X P l k) : DenS X P l (flatS P i k) := ⟨fun {W b f es ms o} tk hpo fb ft hp q => by
  unfold flatS at q
  split at q
  · split at q
    · split at q
      · exact flat_run hk tk hpo fb hp q ft ‹_›
      · cases q
    · cases q
  · cases q⟩
end
end Dn
/-! # Dn17: x.append(a new list of ours); comprehensions over lists of ours; new lists of new lists -/
namespace Dn
open PySem PySem.Spec L2 Dv
section
variable {X : Cx} {P : Nat} {e a b c tg elt iter : Expr} {A B C E : ED} {T U : TD} {J : ID} {G : GD} {S S1 S2 k : SD} {f : Fr} {es es1 : Es} {ms ms' ms1 ms2 : Ms} {p pos : Pos} {ifs : List Expr} {scope : Scope} {own : List (Str × Nat)} {rest l : List Stmt} {n : Nat} {W : WX} {Q : Out → Prop}
/-! ### x.append([..]), the new list being ours -/
def appN (A E : ED) (k : SD) : SD := fun es ms => match opx A es ms with
  | some (.v (.m j), m1) => match E es m1 with
    | some (.n ss, m2) => match cellL m1 j, cellL m2 j with
      | some _, some ts => if ts.length < 100000 then k es ((m2 ++ [some (Cell.l ss)]).set j (some (Cell.l (ts ++ [Sv.m m2.length])))) else none
      | _, _ => none
    | _ => none
  | _ => none
theorem s_appendNI {i : Nat} {ds ds1 ss : List Sv} {ap cp : Pos} (ho : PE X a (tD X.K es ms (.m i) ms1)) (he : PE X e (tN X.K es ms1 ss ms2)) (hm : ms2[i]? = some (some (.l ds))) (hz : ds.length < 100000) (hm1 : ms1[i]? = some (some (.l ds1)))
    (kk : PSs X rest (tS X.K n W es ((ms2 ++ [some (Cell.l ss)]).set i (some (Cell.l (ds ++ [Sv.m ms2.length])))) Q))
    (hb : attributeBase a "append" X.env (eval a X.env) = eval a X.env)
    (h1 : ((((backTo cp (starEach [e] X.env)).all fun x => !x.1) && (backToKw cp (keywordEach [] X.env)).all fun x => x.1.isSome) && decide (([e].length + ([] : List Keyword).length + if ([] : List Keyword).isEmpty = true then 0 else 1) < 30)) = true)
    (h2 : (ap.endLine == cp.line) = true) (h3 : starEach [e] X.env = (false, eval e X.env) :: starEach [] X.env) (h4 : (backTo cp (starEach [] X.env)).any (·.1) = false) (hs : swapsWith (.Call (.Attribute a "append" ap) [e] [] cp) none pos.line X.env = pure false) :
    PSs X (.Expr (.Call (.Attribute a "append" ap) [e] [] cp) pos :: rest) (tS X.K n W es ms Q) :=
  s_cons (P' := fun o => o = .nx es ((ms2 ++ [some (Cell.l ss)]).set i (some (Cell.l (ds ++ [Sv.m ms2.length]))))) (ps_expr (pe_bm PySem.F.plainAttrs_list PySem.F.slot_list_append PySem.F.type_list_append mt_append ho (pa_cons he pa_nil h3) hb h1 h2 h3 h4) hs) (fun D σ H as s l kk => ⟨as, s, fun u H2 m2 e2 r2 => by
    obtain ⟨q, g1, rfl⟩ := r2
    obtain ⟨vsa, ka2, ka3⟩ := m2.list g1 hm1
    refine ⟨.inl ⟨rfl, vsa, .inl (.inl ka2)⟩, as, s.step m2 e2, fun p H3 nw => ?_⟩
    have hlen : ms2.length = as.length := by have := nw.mem.len; simp at this; exact this
    obtain ⟨vs', k2, k3⟩ := nw.mem.list (ss := ds) (as_more i q g1) (by rw [List.getElem?_append_left (List.getElem?_eq_some_iff.mp hm).1, hm])
    refine ⟨q, vs', .ref p, rfl, rfl, k2, by rw [k3.len]; exact Nat.lt_of_lt_of_le hz (by decide), ?_⟩
    have z := nw.mem.put (as_more i q g1) (k3.app (.cons nw.at .nil))
    have s3 := (s.step m2 e2).hide nw
    have pn : H p = none := old_of e2 m2 nw.free
    exact kk _ rfl (as ++ [some p]) _ ((Stp.of l e2).trans ((Stp.more (by omega) nw.free nw.same).trans (Stp.of (by simp; omega) z.2))) σ (s3.step z.1 z.2)⟩) (fun o ho => by subst ho; exact kk)
/-- a new thing at the end of the store -/
theorem Fit.pushed0 {c : Cell} (h : Fit f es ms) (hc : Low ms.length c.all) : Fit f.push es (ms ++ [some c]) := by
  have l1 : (ms ++ [some c]).length = ms.length + 1 := by simp
  refine ⟨Fr.push_ok h.ok, ?_, ?_, ?_⟩
  · show (f.ks ++ [f.out.length]).length = _
    rw [l1, List.length_append, h.len]
    rfl
  · rw [l1]
    exact h.le.up (Nat.le_succ _)
  · rw [l1]
    exact Lows.up (Lows.app h.lm hc) (Nat.le_succ _)
theorem Fit.push_es0 (h : Fit f es ms) : f.push.es es = f.es es := Fr.push_es (by rw [h.len]; exact h.le)
theorem Fit.push_last (h : Fit f es ms) : f.push.s (.m ms.length) = .m (f.ms ms).length := by
  show (match (f.ks ++ [f.out.length])[ms.length]? with | some k => Sv.m k | none => .u) = _
  rw [← h.len, Fr.len]
  simp
theorem ds_appN {ap cp : Pos} (ha : Den X a A) (he : Den X e E) (hk : DenS X P rest k) (hb : attributeBase a "append" X.env (eval a X.env) = eval a X.env := by rfl)
    (h1 : ((((backTo cp (starEach [e] X.env)).all fun x => !x.1) && (backToKw cp (keywordEach [] X.env)).all fun x => x.1.isSome) && decide (([e].length + ([] : List Keyword).length + if ([] : List Keyword).isEmpty = true then 0 else 1) < 30)) = true := by rfl)
    (h2 : (ap.endLine == cp.line) = true := by rfl) (h3 : starEach [e] X.env = (false, eval e X.env) :: starEach [] X.env := by rfl) (h4 : (backTo cp (starEach [] X.env)).any (·.1) = false := by rfl) (hs : swapsWith (.Call (.Attribute a "append" ap) [e] [] cp) none pos.line X.env = pure false := by rfl) :
    DenS X P (.Expr (.Call (.Attribute a "append" ap) [e] [] cp) pos :: rest) (appN A E k) := ⟨fun {W b' f es ms o} tk hpo fb ft hp q => by
  unfold appN at q
  split at q
  · rename_i j m1 hh1
    split at q
    · rename_i ss m2 hh2
      split at q
      · rename_i s1 ts g1 g2
        split at q
        · rename_i hz
          have l1 := ha.opL ft.le ft.lm hh1
          have ft1 := ha.opF ft hh1
          have l2 := he.low ft1.le ft1.lm hh2
          have ft2 := ft1.go l2.2
          have ls : Low m2.length ss := by rw [l2.2.2]; exact l2.1
          have ft3 := ft2.pushed0 (c := .l ss) ls
          obtain ⟨k1, i1, i2, i3⟩ := ft1.cell (cellL_eq g1)
          have hjl := (List.getElem?_eq_some_iff.mp (cellL_eq g2)).1
          have g2' : (m2 ++ [some (Cell.l ss)])[j]? = some (some (.l ts)) := by rw [List.getElem?_append_left hjl]; exact cellL_eq g2
          obtain ⟨kk, j1, j2, j3⟩ := ft2.cell (cellL_eq g2)
          have ek : k1 = kk := Option.some.inj (i1.symm.trans j1)
          subst ek
          have p1 : f.push.ks[j]? = some k1 := by
            show (f.ks ++ [f.out.length])[j]? = _
            rw [List.getElem?_append_left (List.getElem?_eq_some_iff.mp j1).1]; exact j1
          have lts : Low (m2 ++ [some (Cell.l ss)]).length (ts ++ [Sv.m m2.length]) := by
            rw [List.length_append]
            exact Low.app (Low.up (ft2.lm _ _ (cellL_eq g2)) (Nat.le_add_right _ _)) (Low.cons (fun k e => by cases e; exact Nat.lt_succ_self _) (low_nil _))
          have ft4 : Fit f.push es ((m2 ++ [some (Cell.l ss)]).set j (some (Cell.l (ts ++ [Sv.m m2.length])))) := ft3.go ⟨Lows.set ft3.lm lts, List.length_set⟩
          have := hk.run tk hpo fb.push ft4 hp q
          rw [Fr.set ft3.ok ft3.len p1, ft2.push_es0, ft2.push_ms (c := .l ss) ls] at this
          have pa := ha.opV ft hh1
          rw [i2] at pa
          refine s_appendNI pa (he.new ft1 hh2) j3 (by rw [List.length_map]; exact hz) i3 ?_ hb h1 h2 h3 h4 hs
          have e1 : (Cell.l (ts ++ [Sv.m m2.length])).map f.push.s = Cell.l (ts.map f.s ++ [Sv.m (f.ms m2).length]) := by
            show Cell.l ((ts ++ [Sv.m m2.length]).map f.push.s) = _
            rw [List.map_append, Fr.push_svs (by rw [ft2.len]; exact ft2.lm _ _ (cellL_eq g2))]
            show Cell.l (_ ++ [f.push.s (.m m2.length)]) = _
            rw [ft2.push_last]
          rw [← e1]
          exact this
        · cases q
      · cases q
    · cases q
  · cases q⟩
/-! ### [.. for x in a list of ours if ..] -/
open Classical in
noncomputable def lcMGo (v : Nat) (T : TD) (A : ED) (es0 : Es) (ms : Ms) : List Sv → List Sv → Option (List Sv)
  | [], acc => some acc
  | s :: ss, acc => match T (es0.set v (some s)) ms with
    | some (true, m1) => if m1 = ms then match opx A (es0.set v (some s)) ms with
        | some (.v y, m2) => if m2 = ms then lcMGo v T A es0 ms ss (acc ++ [y]) else none
        | _ => none
      else none
    | some (false, m1) => if m1 = ms then lcMGo v T A es0 ms ss acc else none
    | none => none
noncomputable def lcM (B : ED) (v : Nat) (T : TD) (A : ED) : ED := fun es ms => match opx B es ms with
  | some (.v (.m k), m1) => match cellL m1 k with
    | some ss => if ss.length ≤ 100000 then match lcMGo v T A (wipeE es [v]) m1 ss [] with
        | some res => some (.n res, m1)
        | none => none
      else none
    | none => none
  | _ => none
theorem lcM_eq {v : Nat} {q : Pv} (h : lcM B v T A es ms = some (q, ms')) : ∃ k ss res, opx B es ms = some (.v (.m k), ms') ∧ cellL ms' k = some ss ∧ ss.length ≤ 100000 ∧ lcMGo v T A (wipeE es [v]) ms' ss [] = some res ∧ q = .n res := by
  unfold lcM at h
  split at h
  · split at h
    · split at h
      · split at h
        · cases h; exact ⟨_, _, _, ‹_›, ‹_›, ‹_›, ‹_›, rfl⟩
        · cases h
      · cases h
    · cases h
  · cases h
theorem lcMGo_low {v : Nat} (hA : Blk X scope fun Y => Den Y elt A) {es0 : Es} (le : LowE ms.length es0) (lm : Lows ms.length ms) : ∀ {ss acc res : List Sv}, Low ms.length ss → Low ms.length acc → lcMGo v T A es0 ms ss acc = some res → Low ms.length res
  | [], acc, res, _, la, h => by unfold lcMGo at h; cases h; exact la
  | s :: ss, acc, res, ls, la, h => by
    have le1 : LowE ms.length (es0.set v (some s)) := le.set fun k e => ls k (by rw [e]; exact List.mem_cons_self)
    have ls' : Low ms.length ss := fun k hk => ls k (List.mem_cons_of_mem _ hk)
    unfold lcMGo at h
    split at h
    · split at h
      · split at h
        · split at h
          · have l2 := (hA X.s_0 X.H_0 default [] []).opL le1 lm ‹_›
            exact lcMGo_low hA le lm ls' (Low.app la (Low.cons (fun k e => l2.1 k (by rw [e])) (low_nil _))) h
          · cases h
        · cases h
      · cases h
    · split at h
      · exact lcMGo_low hA le lm ls' la h
      · cases h
    · cases h
theorem lcM_of {v k0 kk : Nat} {ss res : List Sv} (hT : Blk X scope fun Y => DenTs Y ifs T) (hA : Blk X scope fun Y => Den Y elt A) (ft : Fit f es ms1) (hk : (f.ms ms1)[kk]? = some (some (.l (ss.map f.s)))) (hls : Low ms1.length ss) (h : lcMGo v T A (wipeE es [v]) ms1 ss [] = some res) :
    LcM X scope elt ifs v (wipeE (f.es es) [v]) (f.ms ms1) kk (ss.map f.s) (res.map f.s) (f.ms ms1) := by
  have ft0 : Fit f (wipeE es [v]) ms1 := ⟨ft.ok, ft.len, wipeE_low [v] ft.le, ft.lm⟩
  refine ⟨fun i acc ms' => ∃ ac, acc = ac.map f.s ∧ ms' = f.ms ms1 ∧ Low ms1.length ac ∧ lcMGo v T A (wipeE es [v]) ms1 (ss.drop i) ac = some res, ⟨[], rfl, rfl, low_nil _, by simpa using h⟩, fun i acc ms' ⟨ac, _, h2, _⟩ => by rw [h2]; exact hk, fun i sv acc ms' hi hI => ?_, fun acc ms' hI => ?_, fun i acc ms' hl hI => ?_⟩
  · obtain ⟨ac, rfl, rfl, la, hh⟩ := hI
    rw [List.getElem?_map] at hi
    cases hs : ss[i]? with
    | none => rw [hs] at hi; cases hi
    | some s =>
      rw [hs] at hi
      cases hi
      have hlt := (List.getElem?_eq_some_iff.mp hs).1
      have e1 : ss.drop i = s :: ss.drop (i + 1) := by rw [List.drop_eq_getElem_cons hlt, ← (List.getElem?_eq_some_iff.mp hs).2]
      rw [e1] at hh
      have low_s : ∀ k, s = .m k → k < ms1.length := fun k e => hls k (by rw [← e]; exact List.mem_of_getElem? hs)
      have le1 : LowE ms1.length ((wipeE es [v]).set v (some s)) := ft0.le.set low_s
      let f' := f.more [some (.l (ac.map f.s))]
      have fe' : Fit f' ((wipeE es [v]).set v (some s)) ms1 := ⟨Fr.more_ok ft.ok _, ft.len, le1, ft.lm⟩
      have ees : f'.es ((wipeE es [v]).set v (some s)) = (wipeE (f.es es) [v]).set v (some (f.s s)) := by
        show f.es _ = _
        rw [Fr.es_set, wipeE_es]; rfl
      unfold lcMGo at hh
      split at hh
      · rename_i mm ht
        split at hh
        · rename_i em
          subst em
          split at hh
          · rename_i y m3 ha
            split at hh
            · rename_i em
              subst em
              refine ⟨true, f.ms m3, fun s0 H C cl fp => ?_, fun _ => ⟨f.s y, f.ms m3, fun s0 H C cl fp => ?_, ac ++ [y], by rw [List.map_append]; rfl, rfl, ?_, hh⟩, fun z => Bool.noConfusion z⟩
              · have := (hT s0 H C cl fp).val fe' ht
                rw [Fr.more_ms ft.ok, ees] at this
                exact this
              · have := (hA s0 H C cl fp).opV fe' ha
                rw [Fr.more_ms ft.ok, ees] at this
                exact this
              · have l2 := (hA X.s_0 X.H_0 default [] []).opL le1 ft.lm ha
                exact Low.app la (Low.cons (fun k e => l2.1 k (by rw [e])) (low_nil _))
            · cases hh
          · cases hh
        · cases hh
      · rename_i mm ht
        split at hh
        · rename_i em
          subst em
          refine ⟨false, f.ms mm, fun s0 H C cl fp => ?_, fun z => Bool.noConfusion z, fun _ => ⟨ac, rfl, rfl, la, hh⟩⟩
          have := (hT s0 H C cl fp).val fe' ht
          rw [Fr.more_ms ft.ok, ees] at this
          exact this
        · cases hh
      · cases hh
  · obtain ⟨ac, rfl, rfl, la, hh⟩ := hI
    rw [List.length_map, List.drop_length] at hh
    unfold lcMGo at hh
    cases hh
    exact ⟨rfl, rfl⟩
  · obtain ⟨ac, rfl, rfl, la, hh⟩ := hI
    exact ⟨map_low ft.ok (by rw [ft.len]; exact la) (Fr.len f ms1), hl⟩
theorem s_asgLcMI {v i : Nat} {kk : Nat} {ss res : List Sv} {nm y : Str} {p1 py spos : Pos} (hc : X.calm = true) (nd : X.N.Nodup) (hv : X.N[v]? = some nm) (hi : PE X iter (tD X.K es ms (.m kk) ms1)) (hkk : ms1[kk]? = some (some (.l ss))) (ok : BlkOk X.N X.env.scope scope [(nm, v)]) (hz : ss.length ≤ 100000)
    (h : LcM X scope elt ifs v (wipeE es [v]) ms1 kk ss res ms2) (hl : Blk X scope fun Y => Loc Y.env.scope nm) (hf : Blk X scope fun Y => Y.fn nm = true ∨ Y.env.scope.names.lookup nm = some .local) (hy : X.N[i]? = some y) (kq : PSs X rest (tS X.K n W (es.set i (some (.m ms2.length))) (ms2 ++ [some (.l res)]) Q)) (hyl : X.env.scope.names.lookup y = some .local)
    (hsw : swapsWith (.ListComp elt [⟨.Name nm p1, iter, ifs, 0⟩] scope pos) (some (.Name y py)) spos.line X.env = pure true) (hs : ∀ x, foldedSetIterable iter X.env x = pure x := by intro _; rfl) :
    PSs X (.Assign [.Name y py] (.ListComp elt [⟨.Name nm p1, iter, ifs, 0⟩] scope pos) spos :: rest) (tS X.K n W es ms Q) := by
  refine s_cons (P' := fun o => o = .nx (es.set i (some (.m ms2.length))) (ms2 ++ [some (.l res)])) (ps_setLc (i := i) (own := [(nm, v)]) hc nd hy hyl hsw (i_listM hi hkk) ok (fun s H C cl fp => pg_name (X := X.blk s H scope (compEnvC scope cl C X.env) fp) (show X.N.Nodup from nd) (show X.N[v]? = some nm from hv) (hl s H C cl fp) (hf s H C cl fp)) pts_self pe_self hs) (fun D σ H as s l kk => ?_) (fun o ho => by subst ho; exact kq)
  exact lc_readM hz hkk h σ H _ ⟨as, s, fun p H1 nw => kk _ rfl (as ++ [some p]) H1 (Stp.more l nw.free nw.same) _ ((s.hide nw).put (sv := .m ms2.length) nw.at rfl)⟩
theorem ds_asgLcM {v i : Nat} {nm y : Str} {p1 py spos : Pos} (hc : X.calm = true) (nd : X.N.Nodup) (hy : X.N[i]? = some y) (hv : X.N[v]? = some nm) (hi : Den X iter B) (ok : BlkOk X.N X.env.scope scope [(nm, v)]) (hT : Blk X scope fun Y => DenTs Y ifs T) (hA : Blk X scope fun Y => Den Y elt A) (hk : DenS X P rest k)
    (hl : Blk X scope fun Y => Loc Y.env.scope nm) (hf : Blk X scope fun Y => Y.fn nm = true ∨ Y.env.scope.names.lookup nm = some .local)
    (hyl : X.env.scope.names.lookup y = some .local := by rfl) (hsw : swapsWith (.ListComp elt [⟨.Name nm p1, iter, ifs, 0⟩] scope pos) (some (.Name y py)) spos.line X.env = pure true := by rfl) (hs : ∀ x, foldedSetIterable iter X.env x = pure x := by intro _; rfl) :
    DenS X P (.Assign [.Name y py] (.ListComp elt [⟨.Name nm p1, iter, ifs, 0⟩] scope pos) spos :: rest) (asgN i (lcM B v T A) k) := ⟨fun {W b f es ms o} tk hpo fb ft hp q => by
  unfold asgN at q
  split at q
  · rename_i res m h
    obtain ⟨k0, ss, res', h1, h2, h3, h4, h5⟩ := lcM_eq h
    cases h5
    have ft1 := hi.opF ft h1
    obtain ⟨kk, g1, g2, g3⟩ := ft1.cell (cellL_eq h2)
    have hls := ft1.lm _ _ (cellL_eq h2)
    have lr : Low m.length (Cell.l res).all := lcMGo_low hA (wipeE_low [v] ft1.le) ft1.lm hls (low_nil _) h4
    have := hk.run tk hpo fb.push (ft1.pushed lr) hp q
    rw [ft1.push_es, ft1.push_ms lr] at this
    have pa := hi.opV ft h1
    rw [g2] at pa
    exact s_asgLcMI hc nd hv pa g3 ok (by rw [List.length_map]; exact h3) (lcM_of (k0 := k0) hT hA ft1 g3 hls h4) hl hf hy this hyl hsw hs
  · rename_i x m h
    obtain ⟨k0, ss, res', h1, h2, h3, h4, h5⟩ := lcM_eq h
    cases h5
  · cases q⟩
end
end Dn
/-! # Dn18: x = [[..] for ..]: a new list of new lists, all ours -/
namespace Dn
open PySem PySem.Spec L2 Dv
def refsN (n L : Nat) : List Sv := (List.range L).map fun j => Sv.m (n + 1 + j)
def cellsN (res : List (List Sv)) : Ms := res.map fun ss => some (Cell.l ss)
theorem refsN_succ (n L : Nat) : refsN n (L + 1) = refsN n L ++ [Sv.m (n + 1 + L)] := by unfold refsN; rw [List.range_succ, List.map_append]; rfl
/-- what a comprehension whose elements are new lists asks -/
structure LcN (X : Cx) (scope : Scope) (elt : Expr) (ifs : List Expr) (es0 : Es) (ms1 : Ms) (ds : List Dt) (res : List (List Sv)) (B : Dt → Es → Es → Prop) : Prop where
  len : res.length = ds.length
  each : ∀ (i : Nat) (d : Dt), ds[i]? = some d → ∃ es2, B d es0 es2 ∧ ∃ ss, res[i]? = some ss ∧ Low ms1.length ss ∧
    (∀ ox : Ms, Blk X scope fun Y => PTs Y ifs (tBo X.K es2 (ms1 ++ ox) true (ms1 ++ ox))) ∧ (∀ ox : Ms, Blk X scope fun Y => PE Y elt (tN X.K es2 (ms1 ++ ox) ss (ms1 ++ ox)))
section
variable {X : Cx} {P : Nat} {e a b c tg elt iter : Expr} {A B C E : ED} {T U : TD} {J : ID} {G : GD} {k : SD} {f : Fr} {es es1 : Es} {ms ms' ms1 ms2 : Ms} {p pos : Pos} {ifs : List Expr} {scope : Scope} {own : List (Str × Nat)} {rest l : List Stmt} {n : Nat} {W : WX} {Q : Out → Prop} {ds : List Dt} {res : List (List Sv)} {vs : List Nat}
theorem lc_readN {g : TG} {B : Dt → Es → Es → Prop} (hz : ds.length ≤ 100000) (hg : TgL X.K g vs B) (h : LcN X scope elt ifs (wipeE es vs) ms1 ds res B) (σ : St) (H : Hp) (Q : VK)
    (t : ∃ as, Sr X.K as es ms σ H ∧ ∀ p as2 H', ms1.length = as.length → MsR X.K (as ++ [some p] ++ as2) (ms1 ++ [some (Cell.l (refsN ms1.length res.length))] ++ cellsN res) H' → Same (hid as H) (hid (as ++ [some p] ++ as2) H') → (∀ a, some a ∈ [some p] ++ as2 → H a = none) → Q (.ref p) H') :
    tLc (iD X.K es ms ds ms1) g (fun σ H Q => ∃ t, Blk X scope (fun Y => PTs Y ifs t) ∧ t σ H Q) (fun σ H Q => ∃ t, Blk X scope (fun Y => PE Y elt t) ∧ t σ H Q) vs σ H Q := by
  obtain ⟨as, s, k⟩ := t
  refine ⟨as, s, fun J B' H1 src hB m1 e1 D hD => ?_⟩
  have hDH : H D = none := old_of e1 m1 hD
  have hl1 : ms1.length = as.length := m1.len
  let Wd : Nat → Nat → Hp → Prop := fun i m H' => m + i = ds.length ∧ ∃ as2 : As, as2.length = i ∧ MsR X.K (as ++ [some D] ++ as2) (ms1 ++ [some (Cell.l (refsN ms1.length i))] ++ cellsN (res.take i)) H' ∧ Same (hid as H) (hid (as ++ [some D] ++ as2) H') ∧ (∀ a, some a ∈ as2 → H a = none) ∧ B' (hid (as ++ [some D] ++ as2) H')
  have z0 := (m1.more (vs := []) (ss := []) hD .nil).of e1 hDH
  refine ⟨Wd, ⟨ds.length, by simp, [], rfl, by simpa [refsN, cellsN] using z0.mem, by simpa using z0.same, (fun a h => by cases h), by simpa using src.mono (m1.more (vs := []) (ss := []) hD .nil).same hB⟩, fun i m H' ⟨hm, as2, ha2, m', e', hn, hB'⟩ => ?_⟩
  have eas : as ++ [some D] ++ as2 = as ++ ([some D] ++ as2) := List.append_assoc _ _ _
  have grow : ∀ (k : Nat) (a : Addr), as[k]? = some (some a) → (as ++ [some D] ++ as2)[k]? = some (some a) := fun k a h => by
    rw [eas, List.getElem?_append_left (List.getElem?_eq_some_iff.mp h).1]; exact h
  have sr : ∀ {H' : Hp}, MsR X.K (as ++ [some D] ++ as2) (ms1 ++ [some (Cell.l (refsN ms1.length i))] ++ cellsN (res.take i)) H' → Same (hid as H) (hid (as ++ [some D] ++ as2) H') → Sr X.K (as ++ [some D] ++ as2) es (ms1 ++ ([some (Cell.l (refsN ms1.length i))] ++ cellsN (res.take i))) σ H' := fun {H'} m e => ⟨s.len, fun i sv h => by
    obtain ⟨v, q1, q2⟩ := s.env i sv h
    exact ⟨v, q1, q2.grow e grow⟩, by rw [← List.append_assoc]; exact m⟩
  by_cases c : i < ds.length
  · refine .inr ⟨src.go m' hB' c, fun H2 => ∃ m2, m2 < m ∧ Wd (i + 1) m2 H2, fun H2 h => h, fun x H2 hy => ?_⟩
    obtain ⟨d, hd1, m2, e2, r2⟩ := src.yld m' hB' hy c
    obtain ⟨es2, b2, ss, hss, hlow, hT, hE⟩ := h.each i d hd1
    have s2 := (sr m2 (e'.trans e2)).wipe vs
    refine hg (as ++ [some D] ++ as2) _ _ _ H2 x d es2 _ s2 r2 b2 fun σ3 s3 hw => ⟨hw.trans (wipe_wipe fun v hv => hv), _, hT _, as ++ [some D] ++ as2, s3, fun H4 m4 e4 => ?_⟩
    have e5 : Same (hid as H) (hid (as ++ [some D] ++ as2) H4) := (e'.trans e2).trans e4
    refine iteT ⟨_, hE _, as ++ [some D] ++ as2, s3.step m4 e4, fun p H5 nw => ?_⟩
    have m5 := nw.mem
    have hiL : i < res.length := by rw [h.len]; exact c
    have hget : (as ++ [some D] ++ as2 ++ [some p])[as.length]? = some (some D) := by simp
    have hcell : (ms1 ++ ([some (Cell.l (refsN ms1.length i))] ++ cellsN (res.take i)) ++ [some (Cell.l ss)])[as.length]? = some (some (.l (refsN ms1.length i))) := by rw [← hl1]; simp
    obtain ⟨vs', k2, k3⟩ := m5.list hget hcell
    have hvl : vs'.length = i := by rw [k3.len]; unfold refsN; simp
    have len2 : (ms1 ++ ([some (Cell.l (refsN ms1.length i))] ++ cellsN (res.take i))).length = ms1.length + 1 + i := by
      simp [cellsN]; omega
    have hp : ValR X.K (as ++ [some D] ++ as2 ++ [some p]) H5 (.ref p) (.m (ms1.length + 1 + i)) := ⟨p, by
      rw [List.getElem?_append_right (by simp; omega)]; simp [hl1, ha2]; rw [show as.length + 1 + i - (as.length + (i + 1)) = 0 by omega]; rfl, rfl⟩
    have z := m5.put hget (k3.app (.cons hp .nil))
    have hset : (ms1 ++ ([some (Cell.l (refsN ms1.length i))] ++ cellsN (res.take i)) ++ [some (Cell.l ss)]).set as.length (some (.l (refsN ms1.length i ++ [.m (ms1.length + 1 + i)]))) = ms1 ++ [some (Cell.l (refsN ms1.length (i + 1)))] ++ cellsN (res.take (i + 1)) := by
      rw [refsN_succ, ← hl1, List.append_assoc, List.set_append_right _ _ (Nat.le_refl _), Nat.sub_self]
      show ms1 ++ (some (Cell.l _) :: (cellsN (res.take i) ++ [some (Cell.l ss)])) = _
      have : cellsN (res.take (i + 1)) = cellsN (res.take i) ++ [some (Cell.l ss)] := by
        have e6 : res.take (i + 1) = res.take i ++ [ss] := by rw [List.take_add_one, hss]; rfl
        rw [e6]; unfold cellsN; rw [List.map_append]; rfl
      rw [this]
      simp
    rw [hset] at z
    refine ⟨vs', k2, by rw [hvl]; exact Nat.lt_of_lt_of_le c (Nat.le_trans hz (by decide)), m - 1, by omega, by omega, as2 ++ [some p], by simp [ha2], ?_, ?_, fun a ha => ?_, ?_⟩
    · have := z.1; rw [List.append_assoc (as ++ [some D]) as2] at this; exact this
    · have := (e5.trans nw.same).trans z.2; rw [List.append_assoc (as ++ [some D]) as2] at this; exact this
    · rcases List.mem_append.mp ha with q | q
      · exact hn a q
      · have e7 : a = p := Option.some.inj (List.mem_singleton.mp q)
        subst e7
        have := old_of e4 m4 nw.free
        cases qq : H a with
        | none => rfl
        | some o =>
          by_cases cc : some a ∈ as
          · obtain ⟨o2, ho2⟩ := m4.there (a := a) (by rw [eas]; exact List.mem_append_left _ cc)
            rw [nw.free] at ho2; cases ho2
          · have h8 := nw.free
            rw [(hid_of (e5 a o (hid_to qq cc))).1] at h8; cases h8
    · have := src.mono ((e4.trans nw.same).trans z.2) (src.mono e2 hB')
      rw [List.append_assoc (as ++ [some D]) as2] at this; exact this
  · have e : i = ds.length := by omega
    subst e
    have et : res.take ds.length = res := by rw [← h.len]; exact List.take_length
    refine .inl ⟨src.stop m' hB' (Nat.le_refl _), k D as2 H' hl1 ?_ e' fun a ha => ?_⟩
    · rw [et, ← h.len] at m'; exact m'
    · rcases List.mem_append.mp ha with q | q
      · rw [Option.some.inj (List.mem_singleton.mp q)]; exact hDH
      · exact hn a q
theorem s_asgLcNN {B : Dt → Es → Es → Prop} {y : Str} {i : Nat} {py spos : Pos} (hc : X.calm = true) (nd : X.N.Nodup) (hy : X.N[i]? = some y) (hi : PI X tg iter (iD X.K es ms ds ms1)) (ok : BlkOk X.N X.env.scope scope own) (hz : ds.length ≤ 100000) (ht : TgB X scope tg (own.map (·.2)) B)
    (h : LcN X scope elt ifs (wipeE es (own.map (·.2))) ms1 ds res B) (kq : PSs X rest (tS X.K n W (es.set i (some (.m ms1.length))) (ms1 ++ [some (Cell.l (refsN ms1.length res.length))] ++ cellsN res) Q)) (hyl : X.env.scope.names.lookup y = some .local)
    (hsw : swapsWith (.ListComp elt [⟨tg, iter, ifs, 0⟩] scope pos) (some (.Name y py)) spos.line X.env = pure true) (hs : ∀ x, foldedSetIterable iter X.env x = pure x) :
    PSs X (.Assign [.Name y py] (.ListComp elt [⟨tg, iter, ifs, 0⟩] scope pos) spos :: rest) (tS X.K n W es ms Q) := by
  obtain ⟨g, hg, q⟩ := ht
  refine s_cons (P' := fun o => o = .nx (es.set i (some (.m ms1.length))) (ms1 ++ [some (Cell.l (refsN ms1.length res.length))] ++ cellsN res)) (ps_setLc (i := i) (own := own) hc nd hy hyl hsw hi ok hg pts_self pe_self hs) (fun D σ H as s l kk => ?_) (fun o ho => by subst ho; exact kq)
  refine lc_readN hz q h σ H _ ⟨as, s, fun p as2 H1 hlen m1 e1 hn => ?_⟩
  have eas : as ++ [some p] ++ as2 = as ++ ([some p] ++ as2) := List.append_assoc _ _ _
  have grow : ∀ (k : Nat) (a : Addr), as[k]? = some (some a) → (as ++ [some p] ++ as2)[k]? = some (some a) := fun k a h => by
    rw [eas, List.getElem?_append_left (List.getElem?_eq_some_iff.mp h).1]; exact h
  have s1 : Sr X.K (as ++ [some p] ++ as2) es (ms1 ++ [some (Cell.l (refsN ms1.length res.length))] ++ cellsN res) σ H1 := ⟨s.len, fun i sv h => by
    obtain ⟨v, q1, q2⟩ := s.env i sv h
    exact ⟨v, q1, q2.grow e1 grow⟩, m1⟩
  refine kk _ rfl (as ++ [some p] ++ as2) H1 ⟨e1, fun k hk => by rw [eas, List.getElem?_append_left (by omega)], by simp; omega, fun a ha => ?_, by simp, fun k a hk q => by rw [eas, List.getElem?_append_left hk] at q; exact q⟩ _ (s1.put (sv := .m ms1.length) (show ∃ a, (as ++ [some p] ++ as2)[ms1.length]? = some (some a) ∧ V.ref p = V.ref a from ⟨p, by rw [hlen]; simp, rfl⟩) rfl)
  rw [eas] at ha
  rcases List.mem_append.mp ha with z | z
  · exact .inl z
  · exact .inr (hn a z)
/-! ### what it means -/
open Classical in
noncomputable def lcNGo (G : GD) (A : ED) (es0 : Es) (ms : Ms) : List Dt → Option (List (List Sv))
  | [] => some []
  | d :: ds => match G d es0 with
    | some es1 => match A es1 ms with
      | some (.n ss, m) => if m = ms then (lcNGo G A es0 ms ds).map (ss :: ·) else none
      | _ => none
    | none => none
noncomputable def asgNN (i : Nat) (J : ID) (G : GD) (own : List Nat) (A : ED) (k : SD) : SD := fun es ms => match J es ms with
  | some (ds, m1) => if ds.length ≤ 100000 then match lcNGo G A (wipeE es own) m1 ds with
      | some res => k (es.set i (some (.m m1.length))) (m1 ++ [some (Cell.l (refsN m1.length res.length))] ++ cellsN res)
      | none => none
    else none
  | none => none
theorem lcNGo_get {es0 : Es} {ds : List Dt} : ∀ {res : List (List Sv)}, lcNGo G A es0 ms ds = some res → res.length = ds.length ∧ ∀ (i : Nat) (d : Dt), ds[i]? = some d → ∃ es1 ss, G d es0 = some es1 ∧ A es1 ms = some (.n ss, ms) ∧ res[i]? = some ss := by
  induction ds with
  | nil => intro res h; unfold lcNGo at h; cases h; exact ⟨rfl, fun i d h => by simp at h⟩
  | cons d ds ih =>
    intro res h
    unfold lcNGo at h
    split at h
    · rename_i es1 hg
      split at h
      · rename_i ss m ha
        split at h
        · rename_i em
          subst em
          obtain ⟨r, h1, rfl⟩ := Option.map_eq_some_iff.mp h
          obtain ⟨i1, i2⟩ := ih h1
          refine ⟨by simp [i1], fun i d' hd => ?_⟩
          cases i with
          | zero => simp at hd; subst hd; exact ⟨es1, ss, hg, ha, rfl⟩
          | succ i => obtain ⟨e2, s2, j1, j2, j3⟩ := i2 i d' (by simpa using hd); exact ⟨e2, s2, j1, j2, by simpa using j3⟩
        · cases h
      · cases h
    · cases h
theorem pushN {b : Bs} : ∀ {cs : List Cell} {f : Fr} {ms : Ms}, FrB b f → Fit f es ms → (∀ c ∈ cs, Low ms.length c.all) → ∃ f', FrB b f' ∧ Fit f' es (ms ++ cs.map some) ∧ f'.es es = f.es es ∧ f'.ms (ms ++ cs.map some) = f.ms ms ++ cs.map (fun c => some (c.map f.s)) ∧ (∀ k, k < ms.length → f'.s (.m k) = f.s (.m k)) ∧
    (∀ j, j < cs.length → f'.s (.m (ms.length + j)) = .m ((f.ms ms).length + j)) ∧ (∀ (k kk : Nat), f.ks[k]? = some kk → f'.ks[k]? = some kk) ∧ ∀ (j : Nat), j < cs.length → f'.ks[ms.length + j]? = some ((f.ms ms).length + j)
  | [], f, ms, fb, ft, _ => ⟨f, fb, by simpa using ft, rfl, by simp, fun _ _ => rfl, fun j h => by simp at h, fun _ _ h => h, fun j h => by simp at h⟩
  | c :: cs, f, ms, fb, ft, hl => by
    have hc := hl c List.mem_cons_self
    obtain ⟨f', h1, h2, h3, h4, h5, h6, h7, h8⟩ := pushN (cs := cs) fb.push (ft.pushed0 hc) fun c' hc' => by
      rw [List.length_append]; exact Low.up (hl c' (List.mem_cons_of_mem _ hc')) (Nat.le_add_right _ _)
    have e1 : ms ++ [some c] ++ cs.map some = ms ++ (c :: cs).map some := by simp
    rw [e1] at h2 h4
    have ln : (ms ++ [some c]).length = ms.length + 1 := by simp
    have lw : (f.push.ms (ms ++ [some c])).length = (f.ms ms).length + 1 := by rw [ft.push_ms hc]; simp
    have kp : ∀ (k kk : Nat), f.ks[k]? = some kk → f.push.ks[k]? = some kk := fun k kk h => by
      show (f.ks ++ [f.out.length])[k]? = _
      rw [List.getElem?_append_left (List.getElem?_eq_some_iff.mp h).1]; exact h
    have kl : f.push.ks[ms.length]? = some (f.ms ms).length := by
      show (f.ks ++ [f.out.length])[ms.length]? = _
      rw [← ft.len, Fr.len]; simp
    refine ⟨f', h1, h2, h3.trans ft.push_es0, ?_, fun k hk => ?_, fun j hj => ?_, fun k kk h => h7 k kk (kp k kk h), fun j hj => ?_⟩
    · rw [h4, ft.push_ms hc, List.map_cons, List.append_assoc]
      congr 1
      show some (c.map f.s) :: _ = some (c.map f.s) :: _
      congr 1
      refine List.map_congr_left fun c' hc' => ?_
      exact congrArg some (Fr.push_cell (by rw [ft.len]; exact hl c' (List.mem_cons_of_mem _ hc')))
    · rw [h5 k (by rw [ln]; omega)]
      exact Fr.push_s fun k' e => by cases e; rw [ft.len]; exact hk
    · cases j with
      | zero => rw [Nat.add_zero, Nat.add_zero, h5 _ (by rw [ln]; omega)]; exact ft.push_last
      | succ j =>
        have := h6 j (by simpa using hj)
        rw [ln, lw] at this
        rw [show ms.length + (j + 1) = ms.length + 1 + j by omega, this, show (f.ms ms).length + (j + 1) = (f.ms ms).length + 1 + j by omega]
    · cases j with
      | zero => exact h7 _ _ kl
      | succ j =>
        have := h8 j (by simpa using hj)
        rw [ln, lw] at this
        rw [show ms.length + (j + 1) = ms.length + 1 + j by omega, this, show (f.ms ms).length + (j + 1) = (f.ms ms).length + 1 + j by omega]
theorem ds_asgNN {y : Str} {i : Nat} {py spos : Pos} (hc : X.calm = true) (nd : X.N.Nodup) (hy : X.N[i]? = some y) (hJ : DenI X tg iter J) (ok : BlkOk X.N X.env.scope scope own) (hB : DenB X scope tg (own.map (·.2)) G) (hA : Blk X scope fun Y => Den Y elt A) (hk : DenS X P rest k)
    (hyl : X.env.scope.names.lookup y = some .local := by rfl) (hsw : swapsWith (.ListComp elt [⟨tg, iter, [], 0⟩] scope pos) (some (.Name y py)) spos.line X.env = pure true := by rfl) (hs : ∀ x, foldedSetIterable iter X.env x = pure x := by intro _; rfl) :
    DenS X P (.Assign [.Name y py] (.ListComp elt [⟨tg, iter, [], 0⟩] scope pos) spos :: rest) (asgNN i J G (own.map (·.2)) A k) := ⟨fun {W b f es ms o} tk hpo fb ft hp q => by
  unfold asgNN at q
  split at q
  · rename_i ds m h1
    split at q
    · rename_i hz
      split at q
      · rename_i res h2
        obtain ⟨g1, g2⟩ := lcNGo_get h2
        have ft1 := ft.go (hJ.low ft.le ft.lm h1)
        have le0 : LowE m.length (wipeE es (own.map (·.2))) := wipeE_low _ ft1.le
        have lows : ∀ (i : Nat) (ss : List Sv), res[i]? = some ss → Low m.length ss := fun i ss hi => by
          have hlt := (List.getElem?_eq_some_iff.mp hi).1
          obtain ⟨es1, ss', j1, j2, j3⟩ := g2 i ds[i] (List.getElem?_eq_getElem (by omega))
          rw [hi] at j3; cases j3
          exact ((hA X.s_0 X.H_0 default [] []).low (hB.1.low j1 le0) ft1.lm j2).1
        have lowr : ∀ c ∈ (Cell.l [] :: res.map Cell.l), Low m.length c.all := fun c hc => by
          rcases List.mem_cons.mp hc with rfl | hc
          · exact low_nil _
          · obtain ⟨ss, hs, rfl⟩ := List.mem_map.mp hc
            obtain ⟨i, hi⟩ := List.getElem?_of_mem hs
            exact lows i ss hi
        obtain ⟨f', p1, p2, p3, p4, p5, p6, p7, p8⟩ := pushN (cs := Cell.l [] :: res.map Cell.l) fb ft1 lowr
        have eR : (m ++ (Cell.l [] :: res.map Cell.l).map some).set m.length (some (.l (refsN m.length res.length))) = m ++ [some (Cell.l (refsN m.length res.length))] ++ cellsN res := by
          rw [List.set_append_right _ _ (Nat.le_refl _), Nat.sub_self]
          simp [cellsN]
        have lenA : (m ++ (Cell.l [] :: res.map Cell.l).map some).length = m.length + 1 + res.length := by simp; omega
        have lr : Low (m ++ (Cell.l [] :: res.map Cell.l).map some).length (refsN m.length res.length) := fun k hk => by
          unfold refsN at hk
          obtain ⟨j, hj, e⟩ := List.mem_map.mp hk
          cases e
          rw [lenA]
          have := List.mem_range.mp hj
          omega
        have le2 : LowE (m ++ (Cell.l [] :: res.map Cell.l).map some).length (es.set i (some (.m m.length))) := p2.le.set fun k e => by cases e; rw [lenA]; omega
        have p2' : Fit f' (es.set i (some (.m m.length))) (m ++ (Cell.l [] :: res.map Cell.l).map some) := ⟨p2.ok, p2.len, le2, p2.lm⟩
        have ft4 : Fit f' (es.set i (some (.m m.length))) ((m ++ (Cell.l [] :: res.map Cell.l).map some).set m.length (some (.l (refsN m.length res.length)))) := p2'.go ⟨Lows.set p2.lm lr, List.length_set⟩
        have := hk.run tk hpo p1 ft4 hp (by rw [eR]; exact q)
        have k0 := p8 0 (by simp)
        rw [Nat.add_zero, Nat.add_zero] at k0
        have s0 := p6 0 (by simp)
        rw [Nat.add_zero, Nat.add_zero] at s0
        have er : (Cell.l (refsN m.length res.length)).map f'.s = .l (refsN (f.ms m).length res.length) := by
          show Cell.l ((refsN m.length res.length).map f'.s) = _
          unfold refsN
          rw [List.map_map]
          congr 1
          refine List.map_congr_left fun j hj => ?_
          show f'.s (.m (m.length + 1 + j)) = _
          have := p6 (1 + j) (by have := List.mem_range.mp hj; simp; omega)
          rw [show m.length + 1 + j = m.length + (1 + j) by omega, this, show (f.ms m).length + (1 + j) = (f.ms m).length + 1 + j by omega]
        have ee : f'.es (es.set i (some (.m m.length))) = (f.es es).set i (some (.m (f.ms m).length)) := by
          rw [Fr.es_set, p3]
          show (f.es es).set i (some (f'.s (.m m.length))) = _
          rw [s0]
        have em : f'.ms ((m ++ (Cell.l [] :: res.map Cell.l).map some).set m.length (some (.l (refsN m.length res.length)))) = f.ms m ++ [some (Cell.l (refsN (f.ms m).length (res.map (·.map f.s)).length))] ++ cellsN (res.map (·.map f.s)) := by
          rw [Fr.set p2.ok p2.len k0, p4, Option.map_some, er, List.set_append_right _ _ (Nat.le_refl _), Nat.sub_self, List.length_map]
          simp [cellsN, Cell.map]
        rw [ee, em] at this
        refine s_asgLcNN hc nd hy (hJ.val ft h1) ok hz hB.2 (res := res.map (·.map f.s)) ⟨by rw [List.length_map]; exact g1, fun i d hd => ?_⟩ this hyl hsw hs
        obtain ⟨es1, ss, j1, j2, j3⟩ := g2 i d hd
        have fe : Fit f es1 m := ⟨ft1.ok, ft1.len, hB.1.low j1 le0, ft1.lm⟩
        refine ⟨f.es es1, by rw [← wipeE_es]; exact hB.1.map j1, ss.map f.s, by rw [List.getElem?_map, j3]; rfl, ?_, fun ox => ?_, fun ox => ?_⟩
        · exact map_low ft1.ok (by rw [ft1.len]; exact lows i ss j3) (Fr.len f m)
        · intro s H C cl fp
          have := (dts_nil (X := X.blk s H scope (compEnvC scope cl C X.env) fp)).val (f := f.more ox) (es := es1) (ms := m) (ms' := m) (b := true) ⟨Fr.more_ok fe.ok _, fe.len, fe.le, fe.lm⟩ rfl
          rw [Fr.more_ms fe.ok] at this
          exact this
        · intro s H C cl fp
          have := (hA s H C cl fp).new (f := f.more ox) ⟨Fr.more_ok fe.ok _, fe.len, fe.le, fe.lm⟩ j2
          rw [Fr.more_ms fe.ok] at this
          exact this
      · cases q
    · cases q
  · cases q⟩
end
end Dn
/-! # Dn19: sorted(data); a def by the number of things it is passed -/
namespace Dn
open PySem PySem.Spec L2 Dv
open PySem.W (AllAlike Sortable dataLe alike)
/-- the order of data -/
def leD : Dt → Dt → Bool := dataLe false pyD
def rSortedD (K : PySem.W.Frag) : List V → Hp → VK → Prop := fun vs H Q => ∃ (a : Addr) (xs : List V) (ds : List Dt) (H0 : Hp), vs = [V.ref a] ∧ SqL K H a xs ∧ Same H0 H ∧ RpA K H0 xs ds ∧ deepL ds = true ∧ AllAlike (ds.map pyD) ∧ Sortable (ds.map pyD) ∧ (∀ d ∈ ds, (pyD d).depth ≤ 30) ∧
  ∀ ys p, RpA K H0 ys (ds.mergeSort leD) → H p = none → Q (.ref p) (upd H p (.lst ys))
section
variable {X : Cx} {n : Nat}
theorem each_rel {K : PySem.W.Frag} {H : Hp} : ∀ {xs : List V} {us : List Value} {ds : List Dt}, Vals xs us → RpA K H xs ds → PySem.W.EachIs (fun v d => ∃ x, RelV x v ∧ Rp K H x d) us ds
  | _, _, _, .nil, .nil => .nil
  | _, _, _, .cons r rs, .cons h hs => .cons ⟨_, r, h⟩ (each_rel rs hs)
theorem rel_each {K : PySem.W.Frag} {H : Hp} : ∀ {us : List Value} {ds : List Dt}, PySem.W.EachIs (fun v d => ∃ x, RelV x v ∧ Rp K H x d) us ds → ∃ ys, Vals ys us ∧ RpA K H ys ds
  | _, _, .nil => ⟨[], .nil, .nil⟩
  | _, _, .cons ⟨x, r, h⟩ t => by
    obtain ⟨ys, h1, h2⟩ := rel_each t
    exact ⟨x :: ys, .cons r h1, .cons h h2⟩
theorem each_reads {pins : List (Addr × Obj)} {σ : St} {H : Hp} {s : Shared} (I : Inv X pins σ H s) : ∀ {xs : List V} {us : List Value} {ds : List Dt}, Vals xs us → RpA X.K H xs ds → deepL ds = true → PySem.W.EachIs (fun v d => ∃ as, Reads s.heap v (pyD d) as) us ds
  | _, _, _, .nil, .nil, _ => .nil
  | _, _, _, .cons r rs, .cons h hs, hd => by
    simp [deepL] at hd
    exact .cons (Dp.reads I _ _ _ (h.py (Same.refl _) hd.1) r) (each_reads I rs hs hd.2)
theorem cr_sortedD (hr : Room n X.A) : CallR X (.builtin "sorted") (rSortedD X.K) := by
  intro pins s σ H vs us Q I r h
  obtain ⟨a, xs, ds, H0, rfl, hs, h00, hx, hdp, hal, hso, hdep, q⟩ := h
  obtain ⟨its, rv, hl, hz⟩ := I.list hs
  obtain ⟨u, rfl, ru⟩ := vals1 r
  obtain rfl : u = Value.ref a := ru
  have hlen : ds.length ≤ PySem.sizeLine := by rw [← hx.len]; exact hz
  refine PySem.W.sorted_data (enc := pyD) hl.isList (each_rel rv hx) (each_reads I rv (hx.mono h00) hdp) hal hso hlen (fun b hb => ?_) fun out ho eo => ?_
  · have := hr.un
    have := hdep b hb
    omega
  · obtain ⟨c, hc⟩ := PyProof.Rows.sortedAll_at s.heap its out.toArray
    obtain ⟨ys, h1, h2⟩ := rel_each eo
    refine ⟨.ref (s.heap.objs.size + 1), upd H (s.heap.objs.size + 1) (.lst ys), I.laid (t' := s.toks) (fun b u q => PyProof.Rows.sortedAll_old q) (Nat.le_succ _) ⟨?_, out, c, h1, hc⟩, rfl, q ys _ h2 (I.hok.fresh (Nat.le_succ _))⟩
    rw [h1.length, ho]
    exact hlen
/-! ### what it means -/
def tupD : Dt → Bool
  | .tup (_ :: _) => true
  | _ => false
def othD : Dt → Bool
  | .non => false
  | .tup _ => false
  | .obj _ _ => false
  | _ => true
def sortOk (ds : List Dt) : Bool := deepL ds && (ds.all fun d => ds.all fun e => alike (pyD d) (pyD e)) && (ds.all tupD || ds.all othD) && ds.all fun d => decide ((pyD d).depth ≤ 30)
def sortE (A : ED) : ED := fun es ms => match opx A es ms with
  | some (.v x, m) => match seqL m x with
    | some ss => match unD ss with
      | some ds => if sortOk ds = true then some (.n ((ds.mergeSort leD).map Sv.d), m) else none
      | none => none
    | none => none
  | _ => none
variable {e a : Expr} {A : ED} {f : Fr} {es : Es} {ms ms' : Ms} {p pos : Pos}
theorem sortE_eq {q : Pv} (h : sortE A es ms = some (q, ms')) : ∃ x ds, opx A es ms = some (.v x, ms') ∧ seqL ms' x = some (ds.map Sv.d) ∧ sortOk ds = true ∧ q = .n ((ds.mergeSort leD).map Sv.d) := by
  unfold sortE at h
  split at h
  · split at h
    · split at h
      · split at h
        · rename_i hu _
          cases h; exact ⟨_, _, ‹_›, by rw [‹seqL _ _ = _›, unD_eq hu], ‹_›, rfl⟩
        · cases h
      · cases h
    · cases h
  · cases h
theorem den_sort (hr : Room n X.A) (hg : Gl X "sorted") (hm : X.mg "sorted" = none) (ha : Den X a A) (he : starEach [a] X.env = (false, eval a X.env) :: starEach [] X.env := by rfl) : Den X (.Call (.Name "sorted" p) [a] [] pos) (sortE A) where
  val := fun ft q => by obtain ⟨x, ds, h1, h2, h3, h4⟩ := sortE_eq q; cases h4
  new := fun {f es ms ms' ss} ft q => by
    obtain ⟨x, ds, h1, h2, h3, h4⟩ := sortE_eq q
    cases h4
    have ft1 := ha.opF ft h1
    rw [Fr.map_d]
    simp only [sortOk, Bool.and_eq_true] at h3
    obtain ⟨⟨⟨g1, g2⟩, g3⟩, g4⟩ := h3
    refine pe_w (pe_callB (cr_sortedD hr) hg hm (by decide +kernel) (pa_cons (ha.opV ft h1) pa_nil he) (by decide) (by decide) he) fun σ H Q ⟨as, s, k⟩ => ⟨as, s, fun v H1 m1 e1 r1 => ?_⟩
    obtain ⟨q, vs, rfl, j1, j2⟩ := seqL_at ft1 h2 m1 r1
    rw [Fr.map_d] at j2
    refine ⟨q, vs, ds, hid as H1, rfl, j1, hid_sub, j2.data, g1, ?_, ?_, ?_, fun ys p hy hp => ?_⟩
    · intro d hd d' hd'
      obtain ⟨b, hb, rfl⟩ := List.mem_map.mp hd
      obtain ⟨b', hb', rfl⟩ := List.mem_map.mp hd'
      exact List.all_eq_true.mp (List.all_eq_true.mp g2 b hb) b' hb'
    · rw [Bool.or_eq_true] at g3
      rcases g3 with g3 | g3
      · refine .inl fun d hd => ?_
        obtain ⟨b, hb, rfl⟩ := List.mem_map.mp hd
        have := List.all_eq_true.mp g3 b hb
        unfold tupD at this
        split at this
        · exact ⟨_, _, rfl⟩
        · cases this
      · refine .inr fun d hd => ?_
        obtain ⟨b, hb, rfl⟩ := List.mem_map.mp hd
        have := List.all_eq_true.mp g3 b hb
        cases b <;> simp [othD, pyD] at this ⊢
    · intro d hd
      simpa using List.all_eq_true.mp g4 d hd
    · exact k p _ ((m1.more hp (ArR.of hy)).of e1 (old_of e1 m1 hp))
  exc := fun tk ft q => by obtain ⟨x, ds, h1, h2, h3, h4⟩ := sortE_eq q; cases h4
  low := fun {es ms ms' q0} le lm q => by
    obtain ⟨x, ds, h1, h2, h3, rfl⟩ := sortE_eq q
    exact ⟨low_data _ _, (ha.opL le lm h1).2⟩
end
end Dn
/-! # Dn20: several except clauses with names -/
namespace L2
open PySem PySem.Spec PyProof.Rows
abbrev ClN := Value × Nat × (Addr → Value → Option Addr → TS)
def endsN (D : Ends) (i : Nat) : Ends := { nx := fun σ' H' => D.nx (σ'.set i none) H', rt := D.rt, bk := fun σ' H' => D.bk (σ'.set i none) H', ct := fun σ' H' => D.ct (σ'.set i none) H' }
def wManyN (K : PySem.W.Frag) (Wout : WX) (D : Ends) : List ClN → WX
  | [] => Wout
  | (c, i, ts) :: r => fun cls d σ H => ∃ b, PySem.W.exmOne K cls c = some b ∧ (b = true → ∀ a, H a = none → ts a cls d (endsN D i) (σ.set i (some (.ref a))) H) ∧ (b = false → wManyN K Wout D r cls d σ H)
inductive HdsN (X : Cx) : List ExceptHandler → List ClN → Prop
  | nil : HdsN X [] []
  | cons {x n : Str} {i : Nat} {c : Value} {ts : Addr → Value → Option Addr → TS} {b₀ : Stmt} {suite : List Stmt} {np pos' : Pos} {hds : List ExceptHandler} {l : List ClN} (hc : Names X x c) (hi : X.N[i]? = some n) (hln : X.env.kindOf n = some .local)
      (hsu : ∀ (a : Addr) (oe : Obj) (cls : Value) (d : Option Addr) (pn : List (Addr × Obj)), Zc cls d oe → (∃ vs, oe.data = .fields vs) → PSs (X.suite a ((a, oe) :: pn)) (b₀ :: suite) (ts a cls d)) (r : HdsN X hds l) :
      HdsN X (.ExceptHandler (some (.Name x np)) (some n) (b₀ :: suite) pos' :: hds) ((c, i, ts) :: l)
section
variable {X : Cx} {body : List Stmt} {h₀ : ExceptHandler} {hds : List ExceptHandler} {l : List ClN} {pos : Pos} {tb : WX → TS} {Wout : WX}
theorem ps_try_manyN (hs : X.stack = X.env :: X.outer) (hf : X.env.frame = some X.env.locals) (hN : X.N.Nodup) (tk : Takes X Wout)
    (hb : ∀ (W : WX) (pn : List (Addr × Obj)) (xe : Value → Shared → Prop), Takes (X.tr pn xe) W → PassesOwn (model X.prog X.w) X.A X.env xe → PSs (X.tr pn xe) body (tb W))
    (hh : HdsN X (h₀ :: hds) l) : PS X (.Try body (h₀ :: hds) [] [] pos) (fun D σ H => tb (wManyN X.K Wout D l) D σ H) := by
  refine ⟨fun pins s σ H D I h => ?_⟩
  have ok := I.ok
  have hfr : X.A.frames = some (X.env :: X.outer) := by rw [ok.frames, hs]
  refine wpAny_Try_except ?_
  refine wpAny_mono ((hb (wManyN X.K Wout D l) (X.pn ++ pins) (fun e s₁ => wpAny (model X.prog X.w) X.A (noteFrame e X.env) (fun _ s₂ => wpAny (model X.prog X.w) X.A (setFlight e none) (fun _ s₃ =>
    wpAny (model X.prog X.w) X.A (handleBy e X.env (h₀ :: hds)) (SP X pins D) X.xe s₃) X.xe s₂) X.xe s₁) (fun u s' xx => ?_) PassesOwn.looking).run [] s σ H D (I.toTry _) h) (fun f s1 hsp => ?_) (fun e s1 he => he)
  · -- the catch
    obtain ⟨a, B, sI, pins', σ', H', cls, d, rfl, J', nb, up, sky, na, os, ag, w⟩ := xx
    have J : Inv X pins σ' H' sI := J'.ofTry ok
    have sky' : Sky B (X.env :: X.outer) a (Zc cls d) X.env.locals s'.heap := by rw [← hs]; exact sky
    show wpAny (model X.prog X.w) X.A (noteFrame (.ref a) X.env) _ _ _
    refine Sky.land Zc.steady hfr hf sky' fun h3 fl3 up3 => ?_
    have J3 : Inv X pins σ' H' { s' with heap := h3 } := J.landed nb fl3.1 (up.trans up3) os ag
    obtain ⟨oe3, vs3, he3, hz3, hd3⟩ := fl3.there
    have notFr : ∀ {h : Heap} {o : Obj} {vs : Array Value}, h.FunFrames B (X.env :: X.outer) → h.get? a = some o → o.data = .fields vs → a ∉ frs (X.env :: X.outer) := fun {h o vs} ff e dd hm => by
      obtain ⟨_, o', e', hnf⟩ := ff.mem hm
      rw [e] at e'; cases e'
      exact hnf _ dd
    have nfr := notFr fl3.2.2.1 he3 hd3
    have nL : a ≠ X.env.locals := fun z => nfr (List.mem_filterMap.mpr ⟨X.env, List.mem_cons_self, by rw [hf, z]⟩)
    have nF : a ∉ X.fs := fun hm => by
      obtain ⟨e, he, q⟩ := List.mem_filterMap.mp hm
      exact nfr (List.mem_filterMap.mpr ⟨e, List.mem_cons_of_mem _ he, q⟩)
    have S3 := J3.suite he3 hd3 na nL nF
    have go : ∀ {hds' : List ExceptHandler} {l' : List ClN}, HdsN X hds' l' → wManyN X.K Wout D l' cls d σ' H' →
        wpAny (model X.prog X.w) X.A (handleBy (.ref a) X.env hds') (SP X pins D) X.xe { s' with heap := h3 } := by
      intro hds' l' hk
      induction hk with
      | nil =>
        intro w
        refine wpAny_handleBy_nil ?_
        obtain ⟨k1, k2, k3, oe, vs, T, oT, ts', he, hz, hd, h1, hr⟩ := id fl3
        unfold PySem.passOn
        refine wpAny_bind (wpAny_field he hd h1 ?_)
        rw [if_neg (show ¬ ((Value.ref T == Value.none) = true) from by simp)]
        have fin : wpAny (model X.prog X.w) X.A (setFlight (.ref a) X.env.frame) (fun _ s4 => wpAny (model X.prog X.w) X.A (throw (.ref a) : Sem Flow) (SP X pins D) X.xe s4) X.xe { s' with heap := h3 } := by
          rw [hf]
          refine HandSPX.setFlight_upZ fl3 fun h4 hh4 up4 => wpAny_throw (tk _ _ ?_)
          exact ⟨a, B, sI, pins, σ', H', cls, d, rfl, J, nb, (up.trans up3).trans up4, .inr (.inr (by rw [hs]; exact hh4)), na, os, ag, w⟩
        first
          | exact wpAny_bind (wpAny_pure (wpAny_bind fin))
          | exact wpAny_bind fin
      | @cons x n i c ts b₀ suite np pos' hds2 l2 hc hi hln hsu r ih =>
        intro w
        obtain ⟨b, hb1, hyes, hno⟩ := w
        have hloc : Loc X.env.scope n := .inl hln
        refine wpAny_handleBy_cons (codeAny_handlers_test ?_) (by intro q; cases q)
        have LT : PySem.W.Looks (model X.prog X.w) h3 (typeOf (.ref a)) cls := fun A Q E s k q => wpAny_typeOf_ref (k _ _ he3) (by rw [hz3.1]; exact q)
        have LM := PySem.W.exm_one (M := model X.prog X.w) (J3.kIn) LT hb1
        have test : ∀ {Q : Value → Shared → Prop} {E : Value → Shared → Prop}, Q c { s' with heap := h3 } → wpAny (model X.prog X.w) (X.A.mark (some (.ref a))) (eval (.Name x np) X.env) Q E { s' with heap := h3 } := fun {Q E} q => by
          obtain ⟨hg, hdbg, hm | ⟨hm, hv, hnn⟩⟩ := hc
          · exact ld_glob (X := X.suite a ((a, oe3) :: (X.pn ++ pins))) S3 hg hm q hdbg
          · exact ld_blt (X := X.suite a ((a, oe3) :: (X.pn ++ pins))) S3 hg hm hv q hnn hdbg
        refine test (LM.here ?_)
        cases b with
        | true =>
          refine codeAny_handlers_suite_as ?_
          refine HandSPX.lands_againZ fl3 fun h4 fl4 up4 => ?_
          have J4 : Inv X pins σ' H' { s' with heap := h4 } := J.landed nb fl4.1 ((up.trans up3).trans up4) os ag
          obtain ⟨oe4, vs4, he4, hz4, hd4⟩ := fl4.there
          have S4 := J4.suite he4 hd4 na nL nF
          refine store_ok (X := X.suite a ((a, oe4) :: (X.pn ++ pins))) (v := .ref a) S4 hN hi hloc rfl (fun s5 S5 => ?_) (.inr hln)
          refine wpAny_mono ((hsu a oe4 cls d (X.pn ++ pins) hz4 ⟨_, hd4⟩).run [] s5 _ H' _ S5 (hyes rfl a na)) (fun f s6 hsp => ?_) (fun _ _ z => False.elim z)
          have end_ : ∀ {σ6 : St} {H6 : Hp} {Q : Shared → Prop}, Inv (X.suite a ((a, oe4) :: (X.pn ++ pins))) [] σ6 H6 s6 → (∀ s7, Inv X pins (σ6.set i none) H6 s7 → Q s7) →
              wpAny (model X.prog X.w) X.A (do bindName X.env n .none; unbindBehindTheSuite X.env n pos') (fun _ s7 => Q s7) X.xe s6 := fun {σ6 H6 Q} S6 hq => gone_ok (S6.unsuite ok) hN hi hln hq
          cases f with
          | next =>
            obtain ⟨σ6, H6, S6, q6⟩ := hsp
            exact end_ S6 fun s7 J7 => ⟨_, _, J7, q6⟩
          | brk =>
            obtain ⟨σ6, H6, S6, q6⟩ := hsp
            exact end_ S6 fun s7 J7 => ⟨_, _, J7, q6⟩
          | cont =>
            obtain ⟨σ6, H6, S6, q6⟩ := hsp
            exact end_ S6 fun s7 J7 => ⟨_, _, J7, q6⟩
          | ret u =>
            obtain ⟨v6, σ6, H6, S6, r6, q6⟩ := hsp
            exact end_ S6 fun s7 J7 => ⟨_, _, _, J7, r6, q6⟩
        | false =>
          show wpAny _ X.A (handleBy (.ref a) X.env hds2) _ _ _
          exact ih (hno rfl)
    exact go hh w
  · cases f with
    | next =>
      obtain ⟨σ', H', J', q⟩ := hsp
      exact wpAny_execs_nil ⟨σ', H', J'.ofTry ok, q⟩
    | brk =>
      obtain ⟨σ', H', J', q⟩ := hsp
      exact ⟨σ', H', J'.ofTry ok, q⟩
    | cont =>
      obtain ⟨σ', H', J', q⟩ := hsp
      exact ⟨σ', H', J'.ofTry ok, q⟩
    | ret u =>
      obtain ⟨v, σ', H', J', r, q⟩ := hsp
      exact ⟨v, σ', H', J'.ofTry ok, r, q⟩
end
end L2
namespace Dn
open PySem PySem.Spec L2 Dv
structure Cl where
  cn : Str
  mt : List Str
  nm : List Str
  i : Nat
  h : HE
def tryGo (x : Xc) (e : Es) (m : Ms) : List Cl → Option Out
  | [] => some (.rs x e m)
  | c :: r => if x.C ∈ c.mt then (if c.i < e.length then match c.h x with
      | some d => some (.rt d m)
      | none => none
      else none)
    else if x.C ∈ c.nm then tryGo x e m r else none
def tryS (S : SD) (cl : List Cl) (k : SD) : SD := fun es ms => match S es ms with
  | some (.rs x e m) => tryGo x e m cl
  | o => seqO o k
inductive DenCls (X : Cx) : List ExceptHandler → List Cl → Prop
  | nil : DenCls X [] []
  | cons {nm cn : Str} {mt no : List Str} {i : Nat} {h : HE} {np pos' rp : Pos} {he : Expr} {hds : List ExceptHandler} {l : List Cl} (hi : X.N[i]? = some nm) (hln : X.env.kindOf nm = some .local) (hnm : Names X cn (.ref (clsA X.K cn)))
      (h1 : ∀ c ∈ mt, PySem.W.exmOne X.K (.ref (clsA X.K c)) (.ref (clsA X.K cn)) = some true) (h2 : ∀ c ∈ no, PySem.W.exmOne X.K (.ref (clsA X.K c)) (.ref (clsA X.K cn)) = some false)
      (hh : ∀ c ∈ mt, DenH X i c he h) (r : DenCls X hds l) : DenCls X (.ExceptHandler (some (.Name cn np)) (some nm) [.Return (some he) rp] pos' :: hds) (⟨cn, mt, no, i, h⟩ :: l)
section
variable {X : Cx} {P : Nat} {rest body : List Stmt} {S k : SD} {pos : Pos}
def tsAny (X : Cx) (b₀ : Stmt) (suite : List Stmt) : Addr → Value → Option Addr → TS := fun a cls d D σ H => ∃ t, (∀ (oe : Obj) (pn : List (Addr × Obj)), Zc cls d oe → (∃ vs, oe.data = .fields vs) → PSs (X.suite a ((a, oe) :: pn)) (b₀ :: suite) t) ∧ t D σ H
theorem ds_tryS {h₀ : ExceptHandler} {hds : List ExceptHandler} {cl : List Cl} (nd : X.N.Nodup) (hb : ∀ pn xe, DenS (X.tr pn xe) P body S) (hc : DenCls X (h₀ :: hds) cl) (hk : DenS X P rest k)
    (hs : X.stack = X.env :: X.outer := by rfl) (hf : X.env.frame = some X.env.locals := by rfl) : DenS X P (.Try body (h₀ :: hds) [] [] pos :: rest) (tryS S cl k) := ⟨fun {W b f es ms o} tk hpo fb ft hp q => by
  unfold tryS at q
  cases hS : S es ms with
  | none => rw [hS] at q; cases q
  | some o1 =>
    rw [hS] at q
    obtain ⟨l, hl, hw⟩ : ∃ l, HdsN X (h₀ :: hds) l ∧ ∀ (D : Ends) (x : Xc) (e : Es) (m : Ms) (f' : Fr) (as' : As) (H' : Hp) (σ : St) (cls : Value) (d : Option Addr) (o2 : Out), tryGo x e m cl = some o2 → OutFit f' (.rs x e m) → FrB b f' →
        Sr X.K as' (f'.es e) (f'.ms m) σ H' → XcR X.K (hid as' H') cls d x → b.n ≤ as'.length → (∀ as2 H2, Stp b.n as' H' as2 H2 → Goes X.K W D as2 H2 (f'.o o2)) → wManyN X.K W D l cls d σ H' := by
      clear hS q
      generalize h₀ :: hds = hh at hc
      induction hc with
      | nil =>
        refine ⟨[], .nil, fun D x e m f' as' H' σ cls d o2 q fo fb' s r ln g => ?_⟩
        cases q
        exact g as' H' (Stp.refl ln) σ cls d s r
      | @cons nm cn mt no i h np pos' rp he hds l hi hln hnm h1 h2 hh r ih =>
        obtain ⟨l2, j1, j2⟩ := ih
        refine ⟨(.ref (clsA X.K cn), i, tsAny X (.Return (some he) rp) []) :: l2, .cons hnm hi hln (fun a oe cls d pn hz hv => ⟨fun pins s σ H D I ⟨t, h, q⟩ => (h oe pn hz hv).run pins s σ H D I q⟩) j1, fun D x e m f' as' H' σ cls d o2 q fo fb' s r ln g => ?_⟩
        have ec : cls = .ref (clsA X.K x.C) := r.1
        subst ec
        unfold tryGo at q
        split at q
        · rename_i hx
          refine ⟨true, h1 _ hx, fun _ a ha => ?_, fun z => Bool.noConfusion z⟩
          split at q
          · rename_i hl
            split at q
            · rename_i dt hd
              cases q
              have body : ∀ (oe : Obj) (pn : List (Addr × Obj)), Zc (.ref (clsA X.K x.C)) d oe → (∃ vs, oe.data = .fields vs) → PSs (X.suite a ((a, oe) :: pn)) [.Return (some he) rp] (tS X.K b.n W ((f'.es e).set i (some (.x a (.ref (clsA X.K x.C)) d x))) (f'.ms m) (fun o => o = .rt dt (f'.ms m))) := fun oe pn hz hv =>
                s_ret (hh _ hx a oe pn d x dt (f'.es e) (f'.ms m) rfl hd hz hv (by unfold Fr.es; rw [List.length_map]; exact hl)) rfl
              refine ⟨_, body, as', s.put (sv := .x a (.ref (clsA X.K x.C)) d x) ⟨rfl, r⟩ rfl, ln, fun o3 p3 as3 H3 st3 => ?_⟩
              subst p3
              exact g as3 H3 st3
            · cases q
          · cases q
        · split at q
          · rename_i hx2
            exact ⟨false, h2 _ hx2, fun z => Bool.noConfusion z, fun _ => j2 D x e m f' as' H' σ _ d o2 q fo fb' s r ln g⟩
          · cases q
    have R := ps_try_manyN (X := X) (body := body) (pos := pos) (tb := fun W' => tS X.K b.n W' (f.es es) (f.ms ms) (OutF b o1)) (Wout := W) hs hf nd tk (fun W' pn xe tk' hpo' => (hb pn xe).run tk' hpo' fb ft hp hS) hl
    refine s_cons (P' := fun o' => (∃ o0, o1 = o0 ∧ (∀ x e m, o0 ≠ .rs x e m) ∧ OutF b o0 o') ∨ (∃ x e m, o1 = .rs x e m ∧ ∃ f' o2, tryGo x e m cl = some o2 ∧ FrB b f' ∧ OutFit f' (.rs x e m) ∧ o' = f'.o o2)) R (fun D σ H as s ln kk => ?_) (fun o' ho => ?_)
    · refine ⟨as, s, ln, fun o' po as' H' st => ?_⟩
      obtain ⟨f', fb', fo, rfl⟩ := po
      cases o1 with
      | rs x e m =>
        refine fun σ' cls d s' r' => ?_
        dsimp only at q
        refine hw D x e m f' as' H' σ' cls d o q fo fb' s' r' st.len fun as2 H2 st2 => ?_
        exact kk _ (.inr ⟨x, e, m, rfl, f', o, q, fb', fo, rfl⟩) as2 H2 (st.trans st2)
      | nx e m => exact kk _ (.inl ⟨_, rfl, (fun _ _ _ z => by cases z), f', fb', fo, rfl⟩) as' H' st
      | rt d m => exact kk _ (.inl ⟨_, rfl, (fun _ _ _ z => by cases z), f', fb', fo, rfl⟩) as' H' st
      | rn j m => exact kk _ (.inl ⟨_, rfl, (fun _ _ _ z => by cases z), f', fb', fo, rfl⟩) as' H' st
      | bk e m => exact kk _ (.inl ⟨_, rfl, (fun _ _ _ z => by cases z), f', fb', fo, rfl⟩) as' H' st
      | ct e m => exact kk _ (.inl ⟨_, rfl, (fun _ _ _ z => by cases z), f', fb', fo, rfl⟩) as' H' st
    · rcases ho with ⟨o0, rfl, hn, f', fb', fo, rfl⟩ | ⟨x, e, m, rfl, f', o2, hq, fb', fo, rfl⟩
      · cases o1 with
        | nx e m => exact hk.run tk hpo fb' fo hp q
        | rt d m => cases q; exact ⟨f', fb', fo, rfl⟩
        | rn j m => cases q; exact ⟨f', fb', fo, rfl⟩
        | bk e m => cases q; exact ⟨f', fb', fo, rfl⟩
        | ct e m => cases q; exact ⟨f', fb', fo, rfl⟩
        | rs x e m => exact absurd rfl (hn x e m)
      · have : o2 = o := by
          dsimp only at q
          rw [hq] at q
          exact Option.some.inj q
        subst this
        have shape : (∃ d, o2 = .rt d m) ∨ o2 = .rs x e m := by
          clear hc hl hw R q
          induction cl with
          | nil => cases hq; exact .inr rfl
          | cons c r ih =>
            unfold tryGo at hq
            split at hq
            · split at hq
              · split at hq
                · cases hq; exact .inl ⟨_, rfl⟩
                · cases hq
              · cases hq
            · split at hq
              · exact ih hq
              · cases hq
        rcases shape with ⟨d, rfl⟩ | rfl
        · exact ⟨f', fb', fo.nil, rfl⟩
        · exact ⟨f', fb', fo, rfl⟩⟩
end
end Dn
/-! # Dn21: a def by the number of things it is passed; the facts of methods and of classes -/
namespace Dn
open PySem PySem.Spec L2 Dv
def runDefP (np N : Nat) (S : Nat → SD) : FD := fun args fm => runDef np N fm.length (S fm.length) args fm
theorem runDefP_out {np N : Nat} {S : Nat → SD} (ss : List Sv) (fm : Ms) (o : Ro) (h : runDefP np N S ss fm = some o) : outOk fm.length o = true := runDef_out ss fm o h
section
variable {PP : Program} {w : World} {K : PySem.W.Frag} {mg : Str → Option Value} {base : Heap}
theorem ok_runP {x qual : Str} {st : Stmt} {f : Addr} {fd : FuncData} {N ps : List Str} {k : Nat} {S : Nat → SD} (F : Fun K x qual st f fd) (Sc : FnScope N ps (defScope st))
    (hb : ∀ (P : Nat) (cdv : Value) (A : Around) (outer : List Env) (s : Shared) (H : Hp) (E : XK) (X : Cx), X = cxOf (L2.CX PP w) PP w K mg base N qual (defScope st) f cdv A outer s H E → Room k X.A → DenS X P (defBody st) (S P)) :
    FnOk PP w K mg base (L2.CX PP w) (k + 1) f fd ps (Pr K (preF (runDefP ps.length N.length S))) where
  len := fun vs H Q E ⟨as, ss, ms, R, m, r, ⟨fm, o, h1, h2, h3, h4, h5⟩, q⟩ => (ok_run (S := S fm.length) (P := fm.length) F Sc (hb fm.length)).len vs H Q E ⟨as, ss, ms, R, m, r, ⟨fm, o, h1, h2, h3, h4, h5⟩, q⟩
  run := fun A outer s H args us vs Q E hr he hbi hv ⟨as, ss, ms, R, m, r, ⟨fm, o, h1, h2, h3, h4, h5⟩, q⟩ => (ok_run (S := S fm.length) (P := fm.length) F Sc (hb fm.length)).run A outer s H args us vs Q E hr he hbi hv ⟨as, ss, ms, R, m, r, ⟨fm, o, h1, h2, h3, h4, h5⟩, q⟩
variable {f : Addr} {fd : FuncData} {ps : List Str} {k : Nat} {nm cn m : Str}
theorem cal_ofP {np N : Nat} {S : Nat → SD} (F : FnOk PP w K mg base (L2.CX PP w) k f fd ps (Pr K (preF (runDefP np N S)))) (g : mg nm = some (.ref f)) (kp : PySem.W.keepIn K (.ref f) = true) (b : L2.Binds K fd ps []) : Cal PP w K mg base nm k (runDefP np N S) :=
  ⟨⟨⟨f, fd, ps, F, g, kp, b⟩⟩, runDefP_out⟩
theorem calM_of {np N P : Nat} {S : SD} (F : FnOk PP w K mg base (L2.CX PP w) k f fd ps (Pr K (preF (runDef np N P S)))) (hm : Meth K (clsA K cn) m f) (hf : PySem.W.fnIn K f = true) (b : L2.Binds K fd ps []) (c : Cls K (clsA K cn)) : CalM PP w K mg base cn m k (runDef np N P S) :=
  ⟨⟨f, fd, ps, F, hm, hf, b⟩, c, runDef_out⟩
theorem calM_ofP {np N : Nat} {S : Nat → SD} (F : FnOk PP w K mg base (L2.CX PP w) k f fd ps (Pr K (preF (runDefP np N S)))) (hm : Meth K (clsA K cn) m f) (hf : PySem.W.fnIn K f = true) (b : L2.Binds K fd ps []) (c : Cls K (clsA K cn)) : CalM PP w K mg base cn m k (runDefP np N S) :=
  ⟨⟨f, fd, ps, F, hm, hf, b⟩, c, runDefP_out⟩
theorem calI_of {np N P : Nat} {S : SD} (F : FnOk PP w K mg base (L2.CX PP w) k f fd ps (Pr K (preF (runDef np N P S)))) (hm : Mk K (clsA K cn) f) (b : L2.Binds K fd ps []) (g : mg cn = some (.ref (clsA K cn))) : CalI PP w K mg base cn k (runDef np N P S) :=
  ⟨⟨f, fd, ps, F, hm, b⟩, g, runDef_out⟩
theorem calI_ofP {np N : Nat} {S : Nat → SD} (F : FnOk PP w K mg base (L2.CX PP w) k f fd ps (Pr K (preF (runDefP np N S)))) (hm : Mk K (clsA K cn) f) (b : L2.Binds K fd ps []) (g : mg cn = some (.ref (clsA K cn))) : CalI PP w K mg base cn k (runDefP np N S) :=
  ⟨⟨f, fd, ps, F, hm, b⟩, g, runDefP_out⟩
end
end Dn
/-! # B0: loops and comprehensions by what they keep; equality of lists of ints; what can be reached -/
namespace Bk
open PySem (Str PyData)
open Dv Dn
open L2 (CMulW CDivW)
/-! ### loops -/
theorem forGo_inv {G : GD} {S : SD} {I : List Dt → Es → Ms → Prop} (step : ∀ d ds es ms, I (d :: ds) es ms → ∃ es1 es2 ms2, G d es = some es1 ∧ S es1 ms = some (.nx es2 ms2) ∧ I ds es2 ms2) :
    ∀ (ds : List Dt) (es : Es) (ms : Ms), I ds es ms → ∃ es' ms', forGo G S ds es ms = some (.nx es' ms') ∧ I [] es' ms'
  | [], es, ms, h => ⟨es, ms, rfl, h⟩
  | d :: ds, es, ms, h => by
    obtain ⟨es1, es2, ms2, h1, h2, h3⟩ := step d ds es ms h
    obtain ⟨es', ms', g1, g2⟩ := forGo_inv step ds es2 ms2 h3
    refine ⟨es', ms', ?_, g2⟩
    unfold forGo
    rw [h1]
    dsimp only
    rw [h2]
    exact g1
theorem forS_go {J : ID} {G : GD} {S k : SD} {es : Es} {ms m : Ms} {ds : List Dt} (h : J es ms = some (ds, m)) : forS J G S k es ms = seqO (forGo G S ds es m) k := by
  unfold forS
  rw [h]
/-- a loop over the numbers from lo on -/
theorem irange_s (lo : Int) (k : Nat) : irange lo (k + 1) = .int lo :: irange (lo + 1) k := by
  unfold irange
  rw [List.range_succ_eq_map, List.map_cons, List.map_map]
  congr 1
  · simp
  · apply List.map_congr_left
    intro i _
    show Dt.int (lo + ((i + 1 : Nat) : Int)) = Dt.int (lo + 1 + (i : Int))
    congr 1
    omega
theorem range_inv {G : GD} {S : SD} {I : Nat → Es → Ms → Prop} {n : Nat} (step : ∀ i es ms, i < n → I i es ms → ∃ es1 es2 ms2, G (.int i) es = some es1 ∧ S es1 ms = some (.nx es2 ms2) ∧ I (i + 1) es2 ms2) :
    ∀ (k i : Nat) (es : Es) (ms : Ms), i + k = n → I i es ms → ∃ es' ms', forGo G S (irange (i : Int) k) es ms = some (.nx es' ms') ∧ I n es' ms'
  | 0, i, es, ms, e, h => ⟨es, ms, rfl, by rw [← e]; exact h⟩
  | k + 1, i, es, ms, e, h => by
    obtain ⟨es1, es2, ms2, h1, h2, h3⟩ := step i es ms (by omega) h
    obtain ⟨es', ms', g1, g2⟩ := range_inv step k (i + 1) es2 ms2 (by omega) h3
    refine ⟨es', ms', ?_, g2⟩
    rw [irange_s]
    unfold forGo
    rw [h1]
    dsimp only
    rw [h2]
    exact g1
theorem range_inv0 {G : GD} {S : SD} {I : Nat → Es → Ms → Prop} {n : Nat} {es : Es} {ms : Ms} (step : ∀ i es ms, i < n → I i es ms → ∃ es1 es2 ms2, G (.int i) es = some es1 ∧ S es1 ms = some (.nx es2 ms2) ∧ I (i + 1) es2 ms2)
    (h : I 0 es ms) : ∃ es' ms', forGo G S (irange 0 n) es ms = some (.nx es' ms') ∧ I n es' ms' := range_inv step n 0 es ms (by omega) h
theorem list_inv {α : Type} {F : α → Dt} {G : GD} {S : SD} {I : List α → Es → Ms → Prop} (step : ∀ d ds es ms, I (d :: ds) es ms → ∃ es1 es2 ms2, G (F d) es = some es1 ∧ S es1 ms = some (.nx es2 ms2) ∧ I ds es2 ms2) :
    ∀ (ds : List α) (es : Es) (ms : Ms), I ds es ms → ∃ es' ms', forGo G S (ds.map F) es ms = some (.nx es' ms') ∧ I [] es' ms'
  | [], es, ms, h => ⟨es, ms, rfl, h⟩
  | d :: ds, es, ms, h => by
    obtain ⟨es1, es2, ms2, h1, h2, h3⟩ := step d ds es ms h
    obtain ⟨es', ms', g1, g2⟩ := list_inv step ds es2 ms2 h3
    refine ⟨es', ms', ?_, g2⟩
    rw [List.map_cons]
    unfold forGo
    rw [h1]
    dsimp only
    rw [h2]
    exact g1
/-! ### comprehensions -/
theorem lcGo_keep {G : GD} {T : TD} {A : ED} {es0 : Es} {ms : Ms} {g : Dt → Sv} : ∀ (ds : List Dt) (acc : List Sv), (∀ d ∈ ds, ∃ es1, G d es0 = some es1 ∧ T es1 ms = some (true, ms) ∧ opx A es1 ms = some (.v (g d), ms)) →
    lcGo G T A es0 ds acc ms = some (acc ++ ds.map g, ms)
  | [], acc, _ => by simp [lcGo]
  | d :: ds, acc, h => by
    obtain ⟨es1, h1, h2, h3⟩ := h d List.mem_cons_self
    unfold lcGo
    rw [h1]
    dsimp only
    rw [h2]
    dsimp only
    rw [h3]
    dsimp only
    rw [lcGo_keep ds _ fun d hd => h d (List.mem_cons_of_mem _ hd)]
    simp
/-- [.. for x in ..], which changes nothing -/
theorem lc_ev {J : ID} {G : GD} {own : List Nat} {T : TD} {A : ED} {es : Es} {ms ms1 : Ms} {ds : List Dt} {g : Dt → Sv} (hJ : J es ms = some (ds, ms1)) (hz : ds.length ≤ 100000)
    (h : ∀ d ∈ ds, ∃ es1, G d (wipeE es own) = some es1 ∧ T es1 ms1 = some (true, ms1) ∧ opx A es1 ms1 = some (.v (g d), ms1)) : lc J G own T A es ms = some (.n (ds.map g), ms1) := by
  unfold lc
  rw [hJ]
  dsimp only
  rw [if_pos hz, lcGo_keep ds [] h]
  rfl
theorem lc_map {α : Type} {F : α → Dt} {J : ID} {G : GD} {own : List Nat} {T : TD} {A : ED} {es : Es} {ms ms1 : Ms} {xs : List α} {g : α → Dt} (hJ : J es ms = some (xs.map F, ms1)) (hz : xs.length ≤ 100000)
    (h : ∀ x ∈ xs, ∃ es1, G (F x) (wipeE es own) = some es1 ∧ T es1 ms1 = some (true, ms1) ∧ opx A es1 ms1 = some (.v (.d (g x)), ms1)) : lc J G own T A es ms = some (.n ((xs.map g).map Sv.d), ms1) := by
  unfold lc
  rw [hJ]
  dsimp only
  rw [if_pos (by rw [List.length_map]; exact hz)]
  have key : ∀ (xs : List α) (acc : List Sv), (∀ x ∈ xs, ∃ es1, G (F x) (wipeE es own) = some es1 ∧ T es1 ms1 = some (true, ms1) ∧ opx A es1 ms1 = some (.v (.d (g x)), ms1)) → lcGo G T A (wipeE es own) (xs.map F) acc ms1 = some (acc ++ (xs.map g).map Sv.d, ms1) := by
    intro xs
    induction xs with
    | nil => intro acc _; simp [lcGo]
    | cons x xs ih =>
      intro acc h
      obtain ⟨es1, h1, h2, h3⟩ := h x List.mem_cons_self
      rw [List.map_cons]
      unfold lcGo
      rw [h1]
      dsimp only
      rw [h2]
      dsimp only
      rw [h3]
      dsimp only
      rw [ih _ fun d hd => h d (List.mem_cons_of_mem _ hd)]
      simp
  rw [key xs [] h]
  rfl
/-- the same with a test -/
theorem lc_filter {α : Type} {F : α → Dt} {J : ID} {G : GD} {own : List Nat} {T : TD} {A : ED} {es : Es} {ms ms1 : Ms} {xs : List α} {g : α → Dt} {p : α → Bool} (hJ : J es ms = some (xs.map F, ms1)) (hz : xs.length ≤ 100000)
    (h : ∀ x ∈ xs, ∃ es1, G (F x) (wipeE es own) = some es1 ∧ T es1 ms1 = some (p x, ms1) ∧ opx A es1 ms1 = some (.v (.d (g x)), ms1)) : lc J G own T A es ms = some (.n (((xs.filter p).map g).map Sv.d), ms1) := by
  unfold lc
  rw [hJ]
  dsimp only
  rw [if_pos (by rw [List.length_map]; exact hz)]
  have key : ∀ (xs : List α) (acc : List Sv), (∀ x ∈ xs, ∃ es1, G (F x) (wipeE es own) = some es1 ∧ T es1 ms1 = some (p x, ms1) ∧ opx A es1 ms1 = some (.v (.d (g x)), ms1)) → lcGo G T A (wipeE es own) (xs.map F) acc ms1 = some (acc ++ ((xs.filter p).map g).map Sv.d, ms1) := by
    intro xs
    induction xs with
    | nil => intro acc _; simp [lcGo]
    | cons x xs ih =>
      intro acc h
      obtain ⟨es1, h1, h2, h3⟩ := h x List.mem_cons_self
      have h' := fun d hd => h d (List.mem_cons_of_mem _ hd)
      rw [List.map_cons]
      unfold lcGo
      rw [h1]
      dsimp only
      rw [h2]
      cases hp : p x
      · dsimp only
        rw [ih _ h']
        simp [hp]
      · dsimp only
        rw [h3]
        dsimp only
        rw [ih _ h']
        simp [hp]
  rw [key xs [] h]
  rfl
/-- a comprehension that changes the store: what is kept, turn by turn -/
theorem lc_inv {α : Type} {F : α → Dt} {J : ID} {G : GD} {own : List Nat} {A : ED} {es : Es} {ms ms1 : Ms} {xs : List α} {I : List α → List Dt → Ms → Prop} (hJ : J es ms = some (xs.map F, ms1)) (hz : xs.length ≤ 100000) (h0 : I xs [] ms1)
    (h : ∀ x rest acc m, I (x :: rest) acc m → ∃ es1 d m2, G (F x) (wipeE es own) = some es1 ∧ opx A es1 m = some (.v (.d d), m2) ∧ I rest (acc ++ [d]) m2) : ∃ ds m2, lc J G own yesT A es ms = some (.n (ds.map Sv.d), m2) ∧ I [] ds m2 := by
  have key : ∀ (xs : List α) (acc : List Dt) (m : Ms), I xs acc m → ∃ ds m2, lcGo G yesT A (wipeE es own) (xs.map F) (acc.map Sv.d) m = some (ds.map Sv.d, m2) ∧ I [] ds m2 := by
    intro xs
    induction xs with
    | nil => intro acc m hi; exact ⟨acc, m, by simp [lcGo], hi⟩
    | cons x xs ih =>
      intro acc m hi
      obtain ⟨es1, d, m2, h1, h2, h3⟩ := h x xs acc m hi
      obtain ⟨ds, m3, g1, g2⟩ := ih _ _ h3
      refine ⟨ds, m3, ?_, g2⟩
      rw [List.map_cons]
      unfold lcGo
      rw [h1]
      dsimp only [yesT]
      rw [h2]
      dsimp only
      rw [← g1]
      simp
  obtain ⟨ds, m2, g1, g2⟩ := key xs [] ms1 h0
  refine ⟨ds, m2, ?_, g2⟩
  unfold lc
  rw [hJ]
  dsimp only
  rw [if_pos (by rw [List.length_map]; exact hz)]
  rw [show ([] : List Sv) = ([] : List Dt).map Sv.d from rfl, g1]
/-! ### lists of ints as data -/
abbrev iL (xs : List Int) : Dt := .lst (xs.map Dt.int)
theorem pyL_map : ∀ ds : List Dt, pyL ds = ds.map pyD
  | [] => rfl
  | d :: ds => by show pyD d :: pyL ds = _; rw [pyL_map ds]; rfl
theorem deepL_all : ∀ ds : List Dt, deepL ds = ds.all deepP
  | [] => rfl
  | d :: ds => by show (deepP d && deepL ds) = _; rw [deepL_all ds]; rfl
theorem deepL_ints (xs : List Int) : deepL (xs.map Dt.int) = true := by
  rw [deepL_all, List.all_map, List.all_eq_true]
  intro x _
  simp [deepP]
theorem deep_ints {xs : List Int} (h : xs.length ≤ 100000) : deepP (iL xs) = true := by simp [deepP, deepL_ints, h]
theorem deep_tints {xs : List Int} (h : xs.length ≤ 100000) : deepP (.tup (xs.map Dt.int)) = true := by simp [deepP, deepL_ints, h]
theorem canLay_ints : ∀ xs : List Int, PyData.canLayAll0 ((xs.map Dt.int).map pyD) = true
  | [] => by simp [PyData.canLayAll0]
  | x :: xs => by
    show PyData.canLayAll0 (.int x :: (xs.map Dt.int).map pyD) = true
    simp only [PyData.canLayAll0, PyData.canLay0, canLay_ints xs, Bool.true_and]
theorem depth_ints : ∀ xs : List Int, PyData.depthAll ((xs.map Dt.int).map pyD) = 0
  | [] => by simp [PyData.depthAll]
  | x :: xs => by
    show PyData.depthAll (.int x :: (xs.map Dt.int).map pyD) = 0
    simp only [PyData.depthAll, PyData.depth, depth_ints xs, Nat.max_self]
theorem eqOk_ints {xs : List Int} (h : xs.length ≤ 100000) : eqOk (iL xs) = true := by
  have h1 := canLay_ints xs
  have h2 := depth_ints xs
  rw [List.map_map] at h1 h2
  simp [eqOk, deep_ints h, pyD, PySem.SeqAt.shaped, PyData.canLay0, PyData.depth, pyL_map, h1, h2]
theorem eqvAll_ints : ∀ xs ys : List Int, PyData.eqvAll ((xs.map Dt.int).map pyD) ((ys.map Dt.int).map pyD) = decide (xs = ys)
  | [], [] => by simp [PyData.eqvAll]
  | [], y :: ys => by simp [PyData.eqvAll]
  | x :: xs, [] => by simp [PyData.eqvAll]
  | x :: xs, y :: ys => by
    show PyData.eqvAll (.int x :: (xs.map Dt.int).map pyD) (.int y :: (ys.map Dt.int).map pyD) = _
    rw [PyData.eqvAll, eqvAll_ints xs ys]
    simp only [PyData.eqv, List.cons.injEq]
    by_cases h1 : x = y <;> by_cases h2 : xs = ys <;> simp [h1, h2]
theorem eqv_ints (xs ys : List Int) : eqvD (iL xs) (iL ys) = decide (xs = ys) := by
  show PyData.eqv (.list (pyL (xs.map Dt.int))) (.list (pyL (ys.map Dt.int))) = _
  rw [pyL_map, pyL_map]
  simp only [PyData.eqv]
  exact eqvAll_ints xs ys
theorem cmp_ints {xs ys : List Int} (hx : xs.length ≤ 100000) (hy : ys.length ≤ 100000) : cmpS .Eq (.d (iL xs)) (.d (iL ys)) = some (decide (xs = ys)) := by
  show (if eqOk (iL xs) && eqOk (iL ys) then some (eqvD (iL xs) (iL ys)) else none) = _
  rw [eqOk_ints hx, eqOk_ints hy, eqv_ints]
  rfl
/-! ### what totals can be made -/
def dot : List Int → List Int → Int
  | s :: ss, x :: xs => s * x + dot ss xs
  | _, _ => 0
def Reach (ss : List Int) (t : Int) : Prop := ∃ xs : List Int, xs.length = ss.length ∧ (∀ x ∈ xs, 0 ≤ x) ∧ dot ss xs = t
theorem dot_nn : ∀ {ss xs : List Int}, (∀ s ∈ ss, 0 < s) → (∀ x ∈ xs, 0 ≤ x) → 0 ≤ dot ss xs
  | [], xs, _, _ => by cases xs <;> exact Int.le_refl _
  | _ :: _, [], _, _ => Int.le_refl _
  | s :: ss, x :: xs, hs, hx => by
    have h1 := dot_nn (ss := ss) (xs := xs) (fun t ht => hs t (List.mem_cons_of_mem _ ht)) fun t ht => hx t (List.mem_cons_of_mem _ ht)
    have h2 := Int.mul_nonneg (Int.le_of_lt (hs s List.mem_cons_self)) (hx x List.mem_cons_self)
    show 0 ≤ s * x + dot ss xs
    omega
theorem reach_nil {t : Int} : Reach [] t ↔ t = 0 := ⟨fun ⟨xs, h1, h2, h3⟩ => by
  cases xs with
  | nil => exact h3.symm
  | cons x xs => simp at h1, fun h => ⟨[], rfl, by simp, h.symm⟩⟩
theorem reach_cons {s : Int} {ss : List Int} {t : Int} (h0 : 0 < s) (hs : ∀ u ∈ ss, 0 < u) : Reach (s :: ss) t ↔ Reach ss t ∨ (s ≤ t ∧ Reach (s :: ss) (t - s)) := by
  constructor
  · rintro ⟨xs, h1, h2, h3⟩
    cases xs with
    | nil => simp at h1
    | cons x xs =>
      have hx : 0 ≤ x := h2 x List.mem_cons_self
      have hxs : ∀ y ∈ xs, 0 ≤ y := fun y hy => h2 y (List.mem_cons_of_mem _ hy)
      replace h3 : s * x + dot ss xs = t := h3
      by_cases c : x = 0
      · subst c
        exact .inl ⟨xs, by simpa using h1, hxs, by simpa using h3⟩
      · have := dot_nn hs hxs
        have h4 : s * 1 ≤ s * x := Int.mul_le_mul_of_nonneg_left (by omega) (by omega)
        refine .inr ⟨by omega, (x - 1) :: xs, by simpa using h1, fun y hy => ?_, ?_⟩
        · rcases List.mem_cons.mp hy with rfl | hy
          · omega
          · exact hxs y hy
        · show s * (x - 1) + dot ss xs = t - s
          rw [Int.mul_sub]
          omega
  · rintro (⟨xs, h1, h2, h3⟩ | ⟨h0, xs, h1, h2, h3⟩)
    · refine ⟨0 :: xs, by simp [h1], fun y hy => ?_, by show s * 0 + dot ss xs = t; simp [h3]⟩
      rcases List.mem_cons.mp hy with rfl | hy
      · exact Int.le_refl _
      · exact h2 y hy
    · cases xs with
      | nil => simp at h1
      | cons x xs =>
        replace h3 : s * x + dot ss xs = t - s := h3
        refine ⟨(x + 1) :: xs, by simpa using h1, fun y hy => ?_, ?_⟩
        · rcases List.mem_cons.mp hy with rfl | hy
          · have := h2 x List.mem_cons_self; omega
          · exact h2 y (List.mem_cons_of_mem _ hy)
        · show s * (x + 1) + dot ss xs = t
          rw [Int.mul_add]
          omega
/-- a way on: so many of the first kind, the rest of the others -/
theorem reach_pick {s : Int} {ss : List Int} {t : Int} (h0 : 0 < s) (hs : ∀ u ∈ ss, 0 < u) (h : Reach (s :: ss) t) : ∃ m : Int, 0 ≤ m ∧ m ≤ t / s ∧ Reach ss (t - m * s) := by
  obtain ⟨xs, h1, h2, h3⟩ := h
  cases xs with
  | nil => simp at h1
  | cons x xs =>
    have hx : 0 ≤ x := h2 x List.mem_cons_self
    have hxs : ∀ y ∈ xs, 0 ≤ y := fun y hy => h2 y (List.mem_cons_of_mem _ hy)
    replace h3 : s * x + dot ss xs = t := h3
    have := dot_nn hs hxs
    refine ⟨x, hx, ?_, xs, by simpa using h1, hxs, by rw [Int.mul_comm x s]; omega⟩
    rw [Int.le_ediv_iff_mul_le h0, Int.mul_comm]
    omega
theorem reach_one {ss : List Int} {t : Int} (ht : 0 ≤ t) : Reach (1 :: ss) t := by
  refine ⟨t :: List.replicate ss.length 0, by simp, fun y hy => ?_, ?_⟩
  · rcases List.mem_cons.mp hy with rfl | hy
    · exact ht
    · rw [(List.mem_replicate.mp hy).2]; exact Int.le_refl _
  · have : ∀ ss : List Int, dot ss (List.replicate ss.length 0) = 0 := by
      intro ss
      induction ss with
      | nil => rfl
      | cons s ss ih => show s * 0 + dot ss _ = 0; rw [ih]; simp
    show 1 * t + dot ss _ = t
    rw [this]
    omega
/-! ### one step at a time: the parts are given by what they give -/
section
variable {A B C : ED} {R : AD} {T : TD} {S S1 S2 k : SD} {F : FD} {es es1 : Es} {ms m m1 m2 m3 : Ms} {s x y z : Sv} {ss : List Sv} {d : Dt} {ds : List Dt} {xc : Xc} {i j : Nat} {b c : Bool}
theorem ox_v (h : A es ms = some (.v s, m)) : opx A es ms = some (.v s, m) := by unfold opx; rw [h]
theorem ox_n (h : A es ms = some (.n (ds.map Sv.d), m)) : opx A es ms = some (.v (.d (.lst ds)), m) := by
  unfold opx
  rw [h]
  dsimp only
  rw [unD_data]
theorem ox_x (h : A es ms = some (.x xc, m)) : opx A es ms = some (.x xc, m) := by unfold opx; rw [h]
theorem v_var (h : es[i]? = some (some s)) : var i es ms = some (.v s, ms) := by unfold var; rw [h]
theorem o_var (h : es[i]? = some (some s)) : opx (var i) es ms = some (.v s, ms) := ox_v (v_var h)
theorem o_kst : opx (kst d) es ms = some (.v (.d d), ms) := rfl
theorem ac_nil : nilA es ms = some (.v [], ms) := rfl
theorem ac (h : opx A es ms = some (.v s, m)) (h2 : R es m = some (.v ss, m2)) : consA A R es ms = some (.v (s :: ss), m2) := by
  unfold consA
  rw [h]
  dsimp only
  rw [h2]
theorem a_consX (h : opx A es ms = some (.x xc, m)) : consA A R es ms = some (.x xc, m) := by
  unfold consA
  rw [h]
theorem ac_x (h : opx A es ms = some (.v s, m)) (h2 : R es m = some (.x xc, m2)) : consA A R es ms = some (.x xc, m2) := by
  unfold consA
  rw [h]
  dsimp only
  rw [h2]
theorem a1 (h : opx A es ms = some (.v s, m)) : consA A nilA es ms = some (.v [s], m) := ac h ac_nil
theorem c_call (h : R es ms = some (.v ss, m)) : call F R es ms = callF F ss m := by
  unfold call
  rw [h]
theorem c_v (h : R es ms = some (.v ss, m)) (h2 : callF F ss m = some (.v s, m2)) : call F R es ms = some (.v s, m2) := (c_call h).trans h2
theorem c_n (h : R es ms = some (.v ss, m)) (h2 : callF F ss m = some (.n (ds.map Sv.d), m2)) : call F R es ms = some (.n (ds.map Sv.d), m2) := (c_call h).trans h2
theorem c_x (h : R es ms = some (.v ss, m)) (h2 : callF F ss m = some (.x xc, m2)) : call F R es ms = some (.x xc, m2) := (c_call h).trans h2
theorem c_rx (h : R es ms = some (.x xc, m)) : call F R es ms = some (.x xc, m) := by
  unfold call
  rw [h]
theorem t_val (h : opx A es ms = some (.v (.d (.bl b)), m)) : tval A es ms = some (b, m) := by unfold tval; rw [h]
theorem t_not (h : T es ms = some (b, m)) : tnot T es ms = some (!b, m) := by unfold tnot; rw [h]
theorem t_cmp {op : PySem.CmpOp} (h : opx A es ms = some (.v x, m)) (h2 : opx B es m = some (.v y, m2)) (h3 : cmpS op x y = some b) : tcmp op A B es ms = some (b, m2) := by
  unfold tcmp
  rw [h]
  dsimp only
  rw [h2]
  dsimp only
  rw [h3]
theorem o_cmp {op : PySem.CmpOp} (h : opx A es ms = some (.v x, m)) (h2 : opx B es m = some (.v y, m2)) (h3 : cmpS op x y = some b) : opx (cmp op A B) es ms = some (.v (.d (.bl b)), m2) := by
  refine ox_v ?_
  unfold cmp map2
  rw [h]
  dsimp only
  rw [h2]
  dsimp only
  rw [h3]
theorem v_cmp {op : PySem.CmpOp} (h : opx A es ms = some (.v x, m)) (h2 : opx B es m = some (.v y, m2)) (h3 : cmpS op x y = some b) : cmp op A B es ms = some (.v (.d (.bl b)), m2) := by
  unfold cmp map2
  rw [h]
  dsimp only
  rw [h2]
  dsimp only
  rw [h3]
theorem v_bin {op : PySem.Operator} {a e r : Int} (h : opx A es ms = some (.v (.d (.int a)), m)) (h2 : opx B es m = some (.v (.d (.int e)), m2)) (h3 : Dn.opI op a e = some r) : Dn.bin op A B es ms = some (.v (.d (.int r)), m2) := by
  unfold Dn.bin map2
  rw [h]
  dsimp only
  rw [h2]
  dsimp only [opS]
  rw [h3]
theorem v_map1 {g : Ms → Sv → Option Dt} (h : opx A es ms = some (.v x, m)) (h2 : g m x = some d) : map1 g A es ms = some (.v (.d d), m) := by
  unfold map1
  rw [h]
  dsimp only
  rw [h2]
theorem o_bin {op : PySem.Operator} {a e r : Int} (h : opx A es ms = some (.v (.d (.int a)), m)) (h2 : opx B es m = some (.v (.d (.int e)), m2)) (h3 : Dn.opI op a e = some r) : opx (Dn.bin op A B) es ms = some (.v (.d (.int r)), m2) := by
  refine ox_v ?_
  unfold Dn.bin map2
  rw [h]
  dsimp only
  rw [h2]
  dsimp only [opS]
  rw [h3]
theorem v_sub {a : Int} (h : opx A es ms = some (.v x, m)) (h2 : opx B es m = some (.v (.d (.int a)), m2)) (h3 : ixS m2 x a = some s) : sub A B es ms = some (.v s, m2) := by
  unfold sub
  rw [h]
  dsimp only
  rw [h2]
  dsimp only
  rw [h3]
theorem o_sub {a : Int} (h : opx A es ms = some (.v x, m)) (h2 : opx B es m = some (.v (.d (.int a)), m2)) (h3 : ixS m2 x a = some s) : opx (sub A B) es ms = some (.v s, m2) := ox_v (v_sub h h2 h3)
theorem o_map1 {g : Ms → Sv → Option Dt} (h : opx A es ms = some (.v x, m)) (h2 : g m x = some d) : opx (map1 g A) es ms = some (.v (.d d), m) := by
  refine ox_v ?_
  unfold map1
  rw [h]
  dsimp only
  rw [h2]
theorem o_len (h : opx A es ms = some (.v x, m)) (h2 : lenS m x = some d) : opx (lenE A) es ms = some (.v (.d d), m) := o_map1 h h2
theorem v_len (h : opx A es ms = some (.v x, m)) (h2 : lenS m x = some d) : (lenE A) es ms = some (.v (.d d), m) := v_map1 h h2
theorem o_sum (h : opx A es ms = some (.v x, m)) (h2 : sumS m x = some d) : opx (sumE A) es ms = some (.v (.d d), m) := o_map1 h h2
theorem v_sum (h : opx A es ms = some (.v x, m)) (h2 : sumS m x = some d) : (sumE A) es ms = some (.v (.d d), m) := v_map1 h h2
theorem o_all (h : opx A es ms = some (.v x, m)) (h2 : allS m x = some d) : opx (allE A) es ms = some (.v (.d d), m) := o_map1 h h2
theorem v_all (h : opx A es ms = some (.v x, m)) (h2 : allS m x = some d) : (allE A) es ms = some (.v (.d d), m) := v_map1 h h2
theorem o_any (h : opx A es ms = some (.v x, m)) (h2 : anyS m x = some d) : opx (anyE A) es ms = some (.v (.d d), m) := o_map1 h h2
theorem v_any (h : opx A es ms = some (.v x, m)) (h2 : anyS m x = some d) : (anyE A) es ms = some (.v (.d d), m) := v_map1 h h2
theorem o_int (h : opx A es ms = some (.v x, m)) (h2 : intS m x = some d) : opx (intE A) es ms = some (.v (.d d), m) := o_map1 h h2
theorem v_int (h : opx A es ms = some (.v x, m)) (h2 : intS m x = some d) : (intE A) es ms = some (.v (.d d), m) := v_map1 h h2
theorem o_abs (h : opx A es ms = some (.v x, m)) (h2 : absS m x = some d) : opx (absE A) es ms = some (.v (.d d), m) := o_map1 h h2
theorem v_abs (h : opx A es ms = some (.v x, m)) (h2 : absS m x = some d) : (absE A) es ms = some (.v (.d d), m) := v_map1 h h2
theorem o_max (h : opx A es ms = some (.v x, m)) (h2 : maxS m x = some d) : opx (maxE A) es ms = some (.v (.d d), m) := o_map1 h h2
theorem v_max (h : opx A es ms = some (.v x, m)) (h2 : maxS m x = some d) : (maxE A) es ms = some (.v (.d d), m) := v_map1 h h2
theorem o_min (h : opx A es ms = some (.v x, m)) (h2 : minS m x = some d) : opx (minE A) es ms = some (.v (.d d), m) := o_map1 h h2
theorem v_min (h : opx A es ms = some (.v x, m)) (h2 : minS m x = some d) : (minE A) es ms = some (.v (.d d), m) := v_map1 h h2
theorem o_tuple (h : opx A es ms = some (.v x, m)) (h2 : tupleS m x = some d) : opx (tupleE A) es ms = some (.v (.d d), m) := o_map1 h h2
theorem v_tuple (h : opx A es ms = some (.v x, m)) (h2 : tupleS m x = some d) : (tupleE A) es ms = some (.v (.d d), m) := v_map1 h h2
theorem o_notE (h : opx A es ms = some (.v x, m)) (h2 : Dn.notS m x = some d) : opx (Dn.notE A) es ms = some (.v (.d d), m) := o_map1 h h2
theorem v_notE (h : opx A es ms = some (.v x, m)) (h2 : Dn.notS m x = some d) : (Dn.notE A) es ms = some (.v (.d d), m) := v_map1 h h2
theorem o_neg (h : opx A es ms = some (.v x, m)) (h2 : Dn.negS m x = some d) : opx (Dn.neg A) es ms = some (.v (.d d), m) := o_map1 h h2
theorem v_neg (h : opx A es ms = some (.v x, m)) (h2 : Dn.negS m x = some d) : (Dn.neg A) es ms = some (.v (.d d), m) := v_map1 h h2
theorem o_isE {Ty : String} (h : opx A es ms = some (.v x, m)) (h2 : isTS Ty m x = some d) : opx (isE Ty A) es ms = some (.v (.d d), m) := o_map1 h h2
theorem v_isE {Ty : String} (h : opx A es ms = some (.v x, m)) (h2 : isTS Ty m x = some d) : (isE Ty A) es ms = some (.v (.d d), m) := v_map1 h h2
theorem v_list (h : opx A es ms = some (.v x, m)) (h2 : seqS m x = some ss) : listE A es ms = some (.n ss, m) := by
  unfold listE
  rw [h]
  dsimp only
  rw [h2]
theorem seq_m (h : cellL ms j = some ss) : seqS ms (.m j) = some ss := h
theorem o_and (h : opx A es ms = some (.v (.d (.bl b)), m)) (h2 : b = true → opx B es m = some (.v (.d (.bl c)), m)) : opx (andE A B) es ms = some (.v (.d (.bl (b && c))), m) := by
  refine ox_v ?_
  unfold andE
  rw [h]
  cases b with
  | false => rfl
  | true => simp [h2 rfl]
theorem z_asg (h : A es ms = some (.v s, m)) : asg i A k es ms = k (es.set i (some s)) m := by
  unfold asg
  rw [h]
theorem z_asgL (h : A es ms = some (.n (ds.map Sv.d), m)) : asg i A k es ms = k (es.set i (some (.d (.lst ds)))) m := by
  unfold asg
  rw [h]
  dsimp only
  rw [unD_data]
theorem z_asgX (h : A es ms = some (.x xc, m)) : asg i A k es ms = some (.rs xc es m) := by
  unfold asg
  rw [h]
theorem z_asgN (h : A es ms = some (.n ss, m)) : asgN i A k es ms = k (es.set i (some (.m m.length))) (m ++ [some (.l ss)]) := by
  unfold asgN
  rw [h]
theorem z_asgNX (h : A es ms = some (.x xc, m)) : asgN i A k es ms = some (.rs xc es m) := by
  unfold asgN
  rw [h]
theorem n_nil : lst nilA es ms = some (.n [], ms) := by simp [lst, nilA]
theorem nn_lst (h : R es ms = some (.v ss, m)) (h2 : ss.length ≤ 1000) : lst R es ms = some (.n ss, m) := by
  unfold lst
  rw [h]
  dsimp only
  rw [if_pos h2]
theorem v_tup (h : R es ms = some (.v (ds.map Sv.d), m)) (h2 : ds.length ≤ 1000) : tup R es ms = some (.v (.d (.tup ds)), m) := by
  unfold tup
  rw [h]
  dsimp only
  rw [unD_data]
  simp [h2]
theorem z_expr (h : opx A es ms = some (.v s, m)) : exprS A k es ms = k es m := by
  unfold exprS
  rw [h]
theorem z_exprX (h : opx A es ms = some (.x xc, m)) : exprS A k es ms = some (.rs xc es m) := by
  unfold exprS
  rw [h]
theorem z_ret (h : A es ms = some (.v (.d d), m)) : ret A es ms = some (.rt d m) := by
  unfold ret
  rw [h]
theorem z_retM (h : A es ms = some (.v (.m j), m)) : ret A es ms = some (.rn j m) := by
  unfold ret
  rw [h]
theorem z_retN (h : A es ms = some (.n ss, m)) : ret A es ms = some (.rn m.length (m ++ [some (.l ss)])) := by
  unfold ret
  rw [h]
theorem z_retX (h : A es ms = some (.x xc, m)) : ret A es ms = some (.rs xc es m) := by
  unfold ret
  rw [h]
theorem s_ff (h : T es ms = some (false, m)) : iff T S1 S2 k es ms = seqO (S2 es m) k := by
  unfold iff
  rw [h]
theorem s_tt (h : T es ms = some (true, m)) : iff T S1 S2 k es ms = seqO (S1 es m) k := by
  unfold iff
  rw [h]
theorem s_ff0 (h : T es ms = some (false, m)) : iff T S1 done k es ms = k es m := by
  rw [s_ff h]
  rfl
theorem q_nx : seqO (some (.nx es ms)) k = k es ms := rfl
theorem q_rt : seqO (some (.rt d ms)) k = some (.rt d ms) := rfl
theorem q_rn : seqO (some (.rn i ms)) k = some (.rn i ms) := rfl
theorem q_rs : seqO (some (.rs xc es ms)) k = some (.rs xc es ms) := rfl
theorem s_done : done es ms = some (.nx es ms) := rfl
theorem s_app {L : List Sv} (h : opx A es ms = some (.v (.m j), m)) (h2 : opx B es m = some (.v s, m2)) (h3 : ∃ L0, cellL m j = some L0) (h4 : cellL m2 j = some L) (h5 : L.length < 100000) : appS A B k es ms = k es (m2.set j (some (.l (L ++ [s])))) := by
  obtain ⟨L0, h3⟩ := h3
  unfold appS
  rw [h]
  dsimp only
  rw [h2]
  dsimp only
  rw [h3, h4]
  dsimp only
  rw [if_pos h5]
theorem z_put {L : List Sv} {a : Int} {q : Nat} (h : opx C es ms = some (.v s, m)) (h1 : opx A es m = some (.v (.m j), m1)) (h2 : opx B es m1 = some (.v (.d (.int a)), m2)) (h3 : cellL m2 j = some L) (h4 : L2.ixN L.length a = some q) : putS A B C k es ms = k es (m2.set j (some (.l (L.set q s)))) := by
  unfold putS
  rw [h]
  dsimp only
  rw [h1]
  dsimp only
  rw [h2]
  dsimp only
  rw [h3]
  dsimp only
  rw [h4]
theorem i_range {n : Nat} (h : opx A es ms = some (.v (.d (.int n)), m)) (hn : n < 2 ^ 62) : itR A es ms = some (irange 0 n, m) := by
  unfold itR
  rw [h]
  dsimp only
  rw [if_pos (by omega), Int.toNat_natCast]
theorem i_lst (h : opx A es ms = some (.v (.d (.lst ds)), m)) : itL A es ms = some (ds, m) := by
  unfold itL
  rw [h]
theorem s_forR {G : GD} {n : Nat} (h : opx A es ms = some (.v (.d (.int n)), m)) (hn : n < 2 ^ 62) : forS (itR A) G S k es ms = seqO (forGo G S (irange 0 n) es m) k := forS_go (i_range h hn)
theorem s_forL {G : GD} (h : opx A es ms = some (.v (.d (.lst ds)), m)) : forS (itL A) G S k es ms = seqO (forGo G S ds es m) k := forS_go (i_lst h)
theorem ix_m {a : Int} (h : cellL ms j = some ss) (h2 : L2.atI ss a = some s) : ixS ms (.m j) a = some s := by
  simp only [ixS]
  rw [h]
  exact h2
theorem ix_l {a : Int} (h2 : L2.atI ds a = some d) : ixS ms (.d (.lst ds)) a = some (.d d) := by
  simp only [ixS]
  rw [h2]
  rfl
theorem ix_t {a : Int} (h2 : L2.atI ds a = some d) : ixS ms (.d (.tup ds)) a = some (.d d) := by
  simp only [ixS]
  rw [h2]
  rfl
theorem ixk {n a : Nat} (h : a < n) : L2.ixN n (a : Int) = some a := by
  unfold L2.ixN
  rw [if_pos (by omega), if_pos (by omega)]
  simp
end
end Bk
/-! # B1: all, sum, enumerate, zip over comprehensions; own objects; loops that change nothing; sums and least common multiples -/
namespace Bk
open PySem (Str PyData)
open Dv Dn
open L2 (CMulW CDivW)
section
variable {A B C : ED} {R : AD} {T : TD} {S S1 S2 k : SD} {F : FD} {es es1 : Es} {ms m m1 m2 m3 : Ms} {s x y z : Sv} {ss : List Sv} {d : Dt} {ds : List Dt} {xc : Xc} {i j : Nat} {b c : Bool}
theorem o_lc {α : Type} {E : α → Dt} {J : ID} {G : GD} {own : List Nat} {xs : List α} {g : α → Dt} (hJ : J es ms = some (xs.map E, m)) (hz : xs.length ≤ 100000)
    (h : ∀ x ∈ xs, ∃ es1, G (E x) (wipeE es own) = some es1 ∧ opx A es1 m = some (.v (.d (g x)), m)) : opx (lc J G own yesT A) es ms = some (.v (.d (.lst (xs.map g))), m) :=
  ox_n (lc_map hJ hz fun x hx => by obtain ⟨e, h1, h2⟩ := h x hx; exact ⟨e, h1, rfl, h2⟩)
theorem o_allLc {α : Type} {E : α → Dt} {J : ID} {G : GD} {own : List Nat} {xs : List α} {p : α → Bool} (hJ : J es ms = some (xs.map E, m)) (hz : xs.length ≤ 100000)
    (h : ∀ x ∈ xs, ∃ es1, G (E x) (wipeE es own) = some es1 ∧ opx A es1 m = some (.v (.d (.bl (p x))), m)) : opx (allE (lc J G own yesT A)) es ms = some (.v (.d (.bl (xs.all p))), m) := by
  refine o_all (o_lc hJ hz h) ?_
  have e : (xs.map fun x => Dt.bl (p x)) = (xs.map p).map Dt.bl := by rw [List.map_map]; rfl
  rw [e]
  show (match unB (((xs.map p).map Dt.bl).map Sv.d) with | some ns => some (Dt.bl (ns.all id)) | none => none) = _
  rw [unB_bls']
  show some (Dt.bl ((xs.map p).all id)) = _
  rw [List.all_map]
  rfl
theorem o_sumLc {α : Type} {E : α → Dt} {J : ID} {G : GD} {own : List Nat} {xs : List α} {p : α → Int} (hJ : J es ms = some (xs.map E, m)) (hz : xs.length ≤ 100000)
    (h : ∀ x ∈ xs, ∃ es1, G (E x) (wipeE es own) = some es1 ∧ opx A es1 m = some (.v (.d (.int (p x))), m)) : opx (sumE (lc J G own yesT A)) es ms = some (.v (.d (.int (xs.map p).sum)), m) := by
  refine o_sum (o_lc hJ hz h) ?_
  have e : (xs.map fun x => Dt.int (p x)) = (xs.map p).map Dt.int := by rw [List.map_map]; rfl
  rw [e]
  show (match unI (((xs.map p).map Dt.int).map Sv.d) with | some ns => some (Dt.int ns.sum) | none => none) = _
  rw [unI_ints']
theorem v_allLc {α : Type} {E : α → Dt} {J : ID} {G : GD} {own : List Nat} {xs : List α} {p : α → Bool} (hJ : J es ms = some (xs.map E, m)) (hz : xs.length ≤ 100000)
    (h : ∀ x ∈ xs, ∃ es1, G (E x) (wipeE es own) = some es1 ∧ opx A es1 m = some (.v (.d (.bl (p x))), m)) : allE (lc J G own yesT A) es ms = some (.v (.d (.bl (xs.all p))), m) := by
  refine v_all (o_lc hJ hz h) ?_
  have e : (xs.map fun x => Dt.bl (p x)) = (xs.map p).map Dt.bl := by rw [List.map_map]; rfl
  rw [e]
  show (match unB (((xs.map p).map Dt.bl).map Sv.d) with | some ns => some (Dt.bl (ns.all id)) | none => none) = _
  rw [unB_bls']
  show some (Dt.bl ((xs.map p).all id)) = _
  rw [List.all_map]
  rfl
theorem v_sumLc {α : Type} {E : α → Dt} {J : ID} {G : GD} {own : List Nat} {xs : List α} {p : α → Int} (hJ : J es ms = some (xs.map E, m)) (hz : xs.length ≤ 100000)
    (h : ∀ x ∈ xs, ∃ es1, G (E x) (wipeE es own) = some es1 ∧ opx A es1 m = some (.v (.d (.int (p x))), m)) : sumE (lc J G own yesT A) es ms = some (.v (.d (.int (xs.map p).sum)), m) := by
  refine v_sum (o_lc hJ hz h) ?_
  have e : (xs.map fun x => Dt.int (p x)) = (xs.map p).map Dt.int := by rw [List.map_map]; rfl
  rw [e]
  show (match unI (((xs.map p).map Dt.int).map Sv.d) with | some ns => some (Dt.int ns.sum) | none => none) = _
  rw [unI_ints']
theorem v_and (h : opx A es ms = some (.v (.d (.bl b)), m)) (h2 : b = true → opx B es m = some (.v (.d (.bl c)), m)) : andE A B es ms = some (.v (.d (.bl (b && c))), m) := by
  unfold andE
  rw [h]
  cases b with
  | false => rfl
  | true => simp [h2 rfl]
theorem zips_zip : ∀ (xs ys : List Int), zips (xs.map Dt.int) (ys.map Dt.int) = (xs.zip ys).map fun p => .tup [.int p.1, .int p.2]
  | [], ys => by cases ys <;> rfl
  | x :: xs, [] => rfl
  | x :: xs, y :: ys => by show _ :: zips _ _ = _; rw [zips_zip xs ys]; rfl
theorem i_zipI {xs ys : List Int} (h : opx A es ms = some (.v (.d (iL xs)), m)) (h2 : opx B es m = some (.v (.d (iL ys)), m2)) : itZ A B es ms = some ((xs.zip ys).map fun p => .tup [.int p.1, .int p.2], m2) := by
  unfold itZ
  rw [h]
  dsimp only
  rw [h2]
  simp only [zips_zip]
theorem dot_zip : ∀ (xs ys : List Int), ((xs.zip ys).map fun p => p.1 * p.2).sum = dot xs ys
  | [], ys => by cases ys <;> rfl
  | x :: xs, [] => rfl
  | x :: xs, y :: ys => by show (x * y :: _).sum = _; rw [List.sum_cons]; show _ + ((xs.zip ys).map fun p => p.1 * p.2).sum = _; rw [dot_zip xs ys]; rfl
theorem v_lcm {a e : Int} (h : opx A es ms = some (.v (.d (.int a)), m)) (h2 : opx B es m = some (.v (.d (.int e)), m2)) (ha : a.natAbs < 2 ^ 64) (he : e.natAbs < 2 ^ 64) : lcmE A B es ms = some (.v (.d (.int (Int.lcm a e : Nat))), m2) := by
  unfold lcmE map2
  rw [h]
  dsimp only
  rw [h2]
  dsimp only [lcmS]
  rw [if_pos ⟨ha, he⟩]
theorem o_glob : opx (glob d) es ms = some (.v (.d d), ms) := rfl
/-- data that can be compared -/
structure okL (n : Nat) (d : Dt) : Prop where
  deep : deepP d = true
  lay : (pyD d).canLay0 = true
  dep : (pyD d).depth ≤ n
theorem okL.up {n m : Nat} {d : Dt} (h : okL n d) (l : n ≤ m) : okL m d := ⟨h.deep, h.lay, Nat.le_trans h.dep l⟩
theorem okL_int {i : Int} : okL 0 (.int i) := ⟨by simp [deepP], by simp [pyD, PyData.canLay0], by simp [pyD, PyData.depth]⟩
theorem okL_all {n : Nat} {ds : List Dt} (h : ∀ d ∈ ds, okL n d) : deepL ds = true ∧ PyData.canLayAll0 (pyL ds) = true ∧ PyData.depthAll (pyL ds) ≤ n := by
  induction ds with
  | nil => simp [deepL, pyL, PyData.canLayAll0, PyData.depthAll]
  | cons d ds ih =>
    obtain ⟨h1, h2, h3⟩ := ih fun e he => h e (List.mem_cons_of_mem _ he)
    obtain ⟨g1, g2, g3⟩ := h d List.mem_cons_self
    refine ⟨by simp [deepL, g1, h1], by simp [pyL, PyData.canLayAll0, g2, h2], ?_⟩
    show max (pyD d).depth (PyData.depthAll (pyL ds)) ≤ n
    omega
theorem okL_lst {n : Nat} {ds : List Dt} (h : ∀ d ∈ ds, okL n d) (hl : ds.length ≤ 100000) : okL (n + 1) (.lst ds) := by
  obtain ⟨h1, h2, h3⟩ := okL_all h
  exact ⟨by simp [deepP, h1, hl], by simp [pyD, PyData.canLay0, h2], by simp [pyD, PyData.depth, h3]⟩
theorem okL_tup {n : Nat} {ds : List Dt} (h : ∀ d ∈ ds, okL n d) (hl : ds.length ≤ 100000) : okL (n + 1) (.tup ds) := by
  obtain ⟨h1, h2, h3⟩ := okL_all h
  exact ⟨by simp [deepP, h1, hl], by simp [pyD, PyData.canLay0, h2], by simp [pyD, PyData.depth, h3]⟩
theorem okL_ints {xs : List Int} (hl : xs.length ≤ 100000) : okL 1 (iL xs) := okL_lst (fun d hd => by obtain ⟨x, _, rfl⟩ := List.mem_map.mp hd; exact okL_int) (by simpa using hl)
theorem okL.eq {n : Nat} {d : Dt} (h : okL n d) (l : n ≤ 64) : eqOk d = true := by
  have := Nat.le_trans h.dep l
  simp [eqOk, h.deep, PySem.SeqAt.shaped, h.lay, this]
theorem o_nin {d : Dt} {ds : List Dt} (h : opx A es ms = some (.v (.d d), m)) (h2 : opx B es m = some (.v (.d (.lst ds)), m2)) (h3 : eqOk d = true) (h4 : eqOk (.lst ds) = true) : opx (ninE A B) es ms = some (.v (.d (.bl (!(pyL ds).any fun z => PyData.eqv z (pyD d)))), m2) := by
  refine ox_v ?_
  unfold ninE map2
  rw [h]
  dsimp only
  rw [h2]
  dsimp only
  have e : inS true m2 (.d d) (.d (.lst ds)) = some (.bl (!(pyL ds).any fun z => PyData.eqv z (pyD d))) := by
    simp [inS, seqL, h3, h4]
  rw [e]
theorem n_take {n : Nat} (h : opx A es ms = some (.v (.d (.lst ds)), m)) (h2 : opx B es m = some (.v (.d (.int (n : Nat))), m2)) : slice A none (some B) es ms = some (.n ((ds.take n).map Sv.d), m2) := by
  unfold slice sliceL
  rw [h]
  have e1 : someO B es m = some (some (n : Int), m2) := by unfold someO; rw [h2]
  dsimp only [noO]
  rw [e1]
  dsimp only
  show some (Pv.n (cutS (ds.map Sv.d) none (some (n : Int))), m2) = _
  congr 2
  unfold cutS
  rw [HT.sIx_none, HT.sIx_nat, List.drop_zero, Nat.sub_zero, List.map_take, List.length_map]
  congr 1
  rw [List.take_eq_take_iff, List.length_map]
  omega
theorem sum_ints {xs : List Int} : sumS ms (.d (iL xs)) = some (.int xs.sum) := by
  show (match unI ((xs.map Dt.int).map Sv.d) with | some ns => some (Dt.int ns.sum) | none => none) = _
  rw [unI_ints']
def enF (ds : List Dt) (i : Nat) : Dt := .tup [.int (i : Int), (ds[i]?).getD .non]
theorem i_enum (h : opx A es ms = some (.v (.d (.lst ds)), m)) : itE A es ms = some ((List.range ds.length).map (enF ds), m) := by
  unfold itE
  rw [h]
  rfl
theorem i_zip {α : Type} {E E2 : α → Dt} {xs : List α} (h : opx A es ms = some (.v (.d (.lst (xs.map E))), m)) (h2 : opx B es m = some (.v (.d (.lst (xs.map E2))), m2)) : itZ A B es ms = some (xs.map fun x => .tup [E x, E2 x], m2) := by
  unfold itZ
  rw [h]
  dsimp only
  rw [h2]
  have : ∀ xs : List α, zips (xs.map E) (xs.map E2) = xs.map fun x => .tup [E x, E2 x] := by
    intro xs
    induction xs with
    | nil => rfl
    | cons x xs ih => show _ :: zips _ _ = _; rw [ih]; rfl
  simp only [this]
/-- a loop over an enumeration that changes only its own slots -/
theorem enum_loop {G : GD} {ds : List Dt} {I : Nat → Es → Prop} (step : ∀ i es, i < ds.length → I i es → ∃ es1 es2, G (enF ds i) es = some es1 ∧ S es1 ms = some (.nx es2 ms) ∧ I (i + 1) es2) (h0 : I 0 es) : ∃ es', forGo G S ((List.range ds.length).map (enF ds)) es ms = some (.nx es' ms) ∧ I ds.length es' := by
  have key : ∀ (k i : Nat) (es : Es), i + k = ds.length → I i es → ∃ es', forGo G S (((List.range k).map fun j => i + j).map (enF ds)) es ms = some (.nx es' ms) ∧ I ds.length es' := by
    intro k
    induction k with
    | zero => intro i es e hI; exact ⟨es, rfl, by rw [← e]; exact hI⟩
    | succ k ih =>
      intro i es e hI
      obtain ⟨es1, es2, h1, h2, h3⟩ := step i es (by omega) hI
      obtain ⟨es', g1, g2⟩ := ih (i + 1) es2 (by omega) h3
      refine ⟨es', ?_, g2⟩
      rw [List.range_succ_eq_map, List.map_cons, List.map_cons]
      unfold forGo
      rw [Nat.add_zero, h1]
      dsimp only
      rw [h2]
      dsimp only
      have e : ((List.range k).map Nat.succ).map (fun j => i + j) = (List.range k).map fun j => i + 1 + j := by
        rw [List.map_map]
        apply List.map_congr_left
        intro j _
        show i + (j + 1) = i + 1 + j
        omega
      rw [e]
      exact g1
  obtain ⟨es', h1, h2⟩ := key ds.length 0 es (by omega) h0
  refine ⟨es', ?_, h2⟩
  rw [← h1]
  congr 2
  rw [show ((List.range ds.length).map fun j => 0 + j) = List.range ds.length by simp]
theorem s_forE {G : GD} (h : opx A es ms = some (.v (.d (.lst ds)), m)) : forS (itE A) G S k es ms = seqO (forGo G S ((List.range ds.length).map (enF ds)) es m) k := forS_go (i_enum h)
/-! ### own objects -/
theorem v_fld {cn f : Str} (h : opx A es ms = some (.v x, m)) (h2 : fldS cn f m x = some s) : fld cn A f es ms = some (.v s, m) := by
  unfold fld
  rw [h]
  dsimp only
  rw [h2]
theorem v_lenO {cn : Str} {n : Int} (h : opx A es ms = some (.v s, m)) (h2 : isO cn "__len__" m s = true) (h3 : callF F [s] m = some (.v (.d (.int n)), m2)) (h4 : 0 ≤ n ∧ n < 2 ^ 63) : lenO cn F A es ms = some (.v (.d (.int n)), m2) := by
  unfold lenO
  rw [h]
  dsimp only
  rw [if_pos h2, h3]
  dsimp only
  rw [if_pos h4]
theorem v_meth {cn mn : Str} {p : Pv} (h : opx A es ms = some (.v s, m)) (h2 : R es m = some (.v ss, m2)) (h3 : isO cn mn m s = true) (h4 : callF F (s :: ss) m2 = some (p, m3)) : meth cn mn F A R es ms = some (p, m3) := by
  unfold meth methG
  rw [h]
  dsimp only
  rw [h2]
  dsimp only
  rw [if_neg Bool.false_ne_true, if_pos h3, h4]
theorem v_slot {cn mn : Str} {p : Pv} (h : opx A es ms = some (.v s, m)) (h2 : R es m = some (.v ss, m2)) (h3 : isO cn mn m2 s = true) (h4 : callF F (s :: ss) m2 = some (p, m3)) : slot cn mn F A R es ms = some (p, m3) := by
  unfold slot methG
  rw [h]
  dsimp only
  rw [h2]
  dsimp only
  rw [if_pos rfl, if_pos h3, h4]
theorem z_try_ok {cn : Str} {hh : HE} {oth : List Str} (h : S es ms = some (.rt d m)) : try1 i S cn hh oth k es ms = some (.rt d m) := by
  unfold try1
  rw [h]
  rfl
theorem z_try_x {cn : Str} {hh : HE} {oth : List Str} (h : S es ms = some (.rs xc es1 m)) (h1 : xc.C = cn) (h2 : i < es1.length) (h3 : hh xc = some d) : try1 i S cn hh oth k es ms = some (.rt d m) := by
  unfold try1
  rw [h]
  dsimp only
  rw [if_pos h1, if_pos h2, h3]
theorem z_trys_ok {cl : List Cl} (h : S es ms = some (.rt d m)) : tryS S cl k es ms = some (.rt d m) := by
  unfold tryS
  rw [h]
  rfl
theorem z_trys_x {cl : List Cl} {o : Option Out} (h : S es ms = some (.rs xc es1 m)) (h2 : tryGo xc es1 m cl = o) : tryS S cl k es ms = o := by
  unfold tryS
  rw [h]
  exact h2
theorem v_tupX (h : R es ms = some (.x xc, m)) : tup R es ms = some (.x xc, m) := by
  unfold tup
  rw [h]
/-! ### sums -/
theorem sum_scale {α : Type} (f g : α → Int) (m : Int) : ∀ xs : List α, (∀ x ∈ xs, f x * m = g x) → (xs.map f).sum * m = (xs.map g).sum
  | [], _ => by simp
  | x :: xs, h => by
    have := sum_scale f g m xs fun y hy => h y (List.mem_cons_of_mem _ hy)
    have h0 := h x List.mem_cons_self
    simp only [List.map_cons, List.sum_cons, Int.add_mul]
    omega
end
end Bk
namespace k43
open PySem (Str)
open Dv Dn
def d_u_told (self : FD) : SD :=
  iff (tval (isE "str" (var 0))) (ret (var 0)) done 
  (iff (tval (isE "tuple" (var 0))) (asg 1 (joinS (kst (.str ", ")) (lc (itL (var 0)) (tg1 2) (([("entry", 2)] : List (Str × Nat)).map (·.2)) yesT (call self (consA (var 2) nilA)))) 
    (ret (joinE [(kst (.str "(")), (fmtE (var 1)), (kst (.str ")"))]))) done 
  (iff (tand (tval (isE "int" (var 0))) (tcmp .LtE (bitsE (var 0)) (glob (.int 200)))) (ret (strE (var 0))) done 
  (ret (kst (.str "a value not shown here")))))
def f_u_told : Nat → FD := recDef 1 3 0 d_u_told
def m_InvalidFraction : ED := (joinE [(fmtE (call (f_u_told 3) (consA (var 1) nilA))), (kst (.str " is not a fraction"))])
def m_InvalidBound : ED := (joinE [(fmtE (call (f_u_told 3) (consA (var 1) nilA))), (kst (.str " is not allowed"))])
def d_is_integer : SD :=
  ret (andE (isE "int" (var 0)) (notE (isE "bool" (var 0))))
def f_is_integer : FD := runDef 1 1 0 d_is_integer
def d_is_integer_within : SD :=
  ret (andE (call f_is_integer (consA (var 0) nilA)) (chain .LtE .LtE (var 1) (var 0) (var 2)))
def f_is_integer_within : FD := runDef 3 3 0 d_is_integer_within
def d_is_pair : SD :=
  ret (andE (isE "tuple" (var 0)) (cmp .Eq (lenE (var 0)) (kst (.int 2))))
def f_is_pair : FD := runDef 1 1 0 d_is_pair
def d_check_comings : SD :=
  iff (tnot (tval (call f_is_integer_within (consA (var 0) (consA (kst (.int 0)) (consA (var 1) nilA)))))) (raiseS "InvalidBound" ["name"] m_InvalidBound (consA (kst (.str "n")) nilA)) done done
def f_check_comings : FD := runDef 2 2 0 d_check_comings
def d_is_fraction : SD :=
  iff (tval (call f_is_pair (consA (var 0) nilA))) (ret (andE (call f_is_integer (consA (sub (var 0) (kst (.int 0))) nilA)) (andE (call f_is_integer (consA (sub (var 0) (kst (.int 1))) nilA)) (cmp .GtE (sub (var 0) (kst (.int 1))) (kst (.int 1)))))) done 
  (ret (call f_is_integer (consA (var 0) nilA)))
def f_is_fraction : FD := runDef 1 1 0 d_is_fraction
def d_u_terms : SD :=
  iff (tnot (tval (call f_is_fraction (consA (var 0) nilA)))) (raiseS "InvalidFraction" ["name"] m_InvalidFraction (consA (var 1) nilA)) done 
  (iff (tval (call f_is_integer (consA (var 0) nilA))) (ret (tup (consA (var 0) (consA (kst (.int 1)) nilA)))) done 
  (ret (var 0)))
def f_u_terms : FD := runDef 2 2 0 d_u_terms
def d_u_lowest : SD :=
  asg 2 (gcdE (var 0) (var 1)) 
  (ret (tup (consA (bin .FloorDiv (var 0) (var 2)) (consA (bin .FloorDiv (var 1) (var 2)) nilA))))
def f_u_lowest : FD := runDef 2 3 0 d_u_lowest
def d_fraction : SD :=
  asg2 1 2 (call f_u_terms (consA (var 0) (consA (kst (.str "value")) nilA))) 
  (ret (call f_u_lowest (consA (var 1) (consA (var 2) nilA))))
def f_fraction : FD := runDef 1 3 0 d_fraction
def d_quotient : SD :=
  iff (tcmp .Lt (var 1) (kst (.int 0))) (ret (call f_fraction (consA (tup (consA (neg (var 0)) (consA (neg (var 1)) nilA))) nilA))) done 
  (ret (call f_fraction (consA (tup (consA (var 0) (consA (var 1) nilA))) nilA)))
def f_quotient : FD := runDef 2 2 0 d_quotient
def d_u_product : SD :=
  asg 1 (kst (.int 1)) 
  (forS (itL (var 0)) (tg1 2) (asg 1 (bin .Mult (var 1) (var 2)) done) 
  (ret (var 1)))
def f_u_product : FD := runDef 1 3 0 d_u_product
def d_u_factor : SD :=
  iff (tcmp .Eq (var 0) (kst (.int 1))) (ret (call f_quotient (consA (bin .Add (var 1) (var 2)) (consA (var 1) nilA)))) done 
  (iff (tchain .LtE .Lt (var 1) (neg (var 0)) (bin .Add (var 1) (var 2))) (ret (tup (consA (kst (.int 0)) (consA (kst (.int 1)) nilA)))) done 
  (iff (tcmp .Lt (neg (var 0)) (var 1)) (asg 3 (lc (itR2 (kst (.int 1)) (bin .Sub (kst (.int 1)) (var 0))) (tg1 5) (([("k", 5)] : List (Str × Nat)).map (·.2)) yesT (bin .Sub (var 1) (var 5))) 
    (asg 4 (lc (itR2 (kst (.int 1)) (bin .Sub (kst (.int 1)) (var 0))) (tg1 5) (([("k", 5)] : List (Str × Nat)).map (·.2)) yesT (bin .Sub (bin .Add (var 1) (var 2)) (var 5))) done)) (asg 3 (lc (itR2 (var 1) (bin .Add (var 1) (var 2))) (tg1 6) (([("s", 6)] : List (Str × Nat)).map (·.2)) yesT (bin .Add (var 6) (var 0))) 
    (asg 4 (listR2 (var 1) (bin .Add (var 1) (var 2))) done)) 
  (ret (call f_quotient (consA (call f_u_product (consA (var 3) nilA)) (consA (call f_u_product (consA (var 4) nilA)) nilA))))))
def f_u_factor : FD := runDef 3 7 0 d_u_factor
def d_factor : SD :=
  iff (tnot (tval (call f_is_integer_within (consA (var 0) (consA (glob (.int (-25))) (consA (glob (.int 1)) nilA)))))) (raiseS "InvalidBound" ["name"] m_InvalidBound (consA (kst (.str "root")) nilA)) done 
  (iff (tor (tnot (tval (call f_is_integer (consA (var 1) nilA)))) (tcmp .Lt (var 1) (kst (.int 1)))) (raiseS "InvalidBound" ["name"] m_InvalidBound (consA (kst (.str "start")) nilA)) done 
  (exprS (call f_check_comings (consA (var 2) (consA (glob (.int 10000000000000000000000000000000000000000)) nilA))) 
  (ret (call f_u_factor (consA (var 0) (consA (var 1) (consA (var 2) nilA)))))))
def f_factor : FD := runDef 3 3 0 d_factor
def d_law_is_int : SD :=
  ret (andE (isE "int" (var 0)) (notE (isE "bool" (var 0))))
def f_law_is_int : FD := runDef 1 1 0 d_law_is_int
def d_law_same (self : FD) : SD :=
  iff (tcmp .Is (var 1) (kst .non)) (ret (cmp .Is (var 0) (kst .non))) done 
  (iff (tval (isE "bool" (var 1))) (ret (andE (isE "bool" (var 0)) (cmp .Eq (var 0) (var 1)))) done 
  (iff (tval (isE "int" (var 1))) (ret (andE (call f_law_is_int (consA (var 0) nilA)) (cmp .Eq (var 0) (var 1)))) done 
  (iff (tval (isE "str" (var 1))) (ret (andE (isE "str" (var 0)) (cmp .Eq (var 0) (var 1)))) done 
  (iff (tand (tval (isE "list" (var 1))) (tnot (tval (isE "list" (var 0))))) (ret (kst (.bl false))) done 
  (iff (tand (tval (isE "tuple" (var 1))) (tnot (tval (isE "tuple" (var 0))))) (ret (kst (.bl false))) done 
  (iff (tcmp .NotEq (lenE (var 0)) (lenE (var 1))) (ret (kst (.bl false))) done 
  (forS (itR (lenE (var 1))) (tg1 2) (iff (tnot (tval (call self (consA (sub (var 0) (var 2)) (consA (sub (var 1) (var 2)) nilA))))) (ret (kst (.bl false))) done done) 
  (ret (kst (.bl true))))))))))
def f_law_same : Nat → FD := recDef 2 3 0 d_law_same
def d_law_gcd : SD :=
  whileS (natAt 1) (tcmp .NotEq (var 1) (kst (.int 0))) (asg 2 (bin .Mod (intE (var 0)) (var 1)) 
    (asg 0 (var 1) 
    (asg 1 (var 2) done))) 
  (ret (var 0))
def f_law_gcd : FD := runDef 2 3 0 d_law_gcd
def d_law_low : SD :=
  iff (tcmp .Lt (var 1) (kst (.int 0))) (asg 0 (bin .Sub (kst (.int 0)) (var 0)) 
    (asg 1 (bin .Sub (kst (.int 0)) (var 1)) done)) done 
  (asg 2 (call f_law_gcd (consA (absE (var 0)) (consA (var 1) nilA))) 
  (ret (tup (consA (bin .FloorDiv (var 0) (var 2)) (consA (bin .FloorDiv (var 1) (var 2)) nilA)))))
def f_law_low : FD := runDef 2 3 0 d_law_low
def d_law_is_fraction : SD :=
  iff (tor (tnot (tval (isE "tuple" (var 0)))) (tcmp .NotEq (lenE (var 0)) (kst (.int 2)))) (ret (kst (.bl false))) done 
  (iff (tor (tnot (tval (call f_law_is_int (consA (sub (var 0) (kst (.int 0))) nilA)))) (tor (tnot (tval (call f_law_is_int (consA (sub (var 0) (kst (.int 1))) nilA)))) (tcmp .Lt (sub (var 0) (kst (.int 1))) (kst (.int 1))))) (ret (kst (.bl false))) done 
  (ret (cmp .Eq (call f_law_gcd (consA (absE (sub (var 0) (kst (.int 0)))) (consA (sub (var 0) (kst (.int 1))) nilA))) (kst (.int 1)))))
def f_law_is_fraction : FD := runDef 1 1 0 d_law_is_fraction
def d_law_times : SD :=
  ret (call f_law_low (consA (bin .Mult (sub (var 0) (kst (.int 0))) (sub (var 1) (kst (.int 0)))) (consA (bin .Mult (sub (var 0) (kst (.int 1))) (sub (var 1) (kst (.int 1)))) nilA)))
def f_law_times : FD := runDef 2 2 0 d_law_times
def d_law_start : SD :=
  ret (lst (consA (listE (var 0)) (consA (kst (.int 0)) (consA (kst (.int 0)) (consA (kst (.int 1234577)) nilA)))))
def f_law_start : FD := runDef 1 1 0 d_law_start
def d_law_pull : SD :=
  iff (tand (tcmp .Eq (sub (var 0) (kst (.int 2))) (kst (.int 0))) (tcmp .Lt (sub (var 0) (kst (.int 1))) (lenE (sub (var 0) (kst (.int 0)))))) (asg 2 (sub (sub (var 0) (kst (.int 0))) (sub (var 0) (kst (.int 1)))) 
    (putS (var 0) (kst (.int 1)) (bin .Add (sub (var 0) (kst (.int 1))) (kst (.int 1))) 
    (iff (tcmp .GtE (var 2) (bin .Pow (kst (.int 10)) (kst (.int 18)))) (putS (var 0) (kst (.int 2)) (var 2) done) (putS (var 0) (kst (.int 3)) (bin .Mod (intE (bin .Add (bin .Add (bin .Mult (sub (var 0) (kst (.int 3))) (kst (.int 48271))) (bin .Mod (intE (var 2)) (kst (.int 2147483629)))) (kst (.int 1)))) (kst (.int 2147483647))) done) done))) done 
  (iff (tcmp .Gt (sub (var 0) (kst (.int 2))) (kst (.int 0))) (asg 3 (bin .Mod (intE (sub (var 0) (kst (.int 2)))) (var 1)) 
    (putS (var 0) (kst (.int 2)) (bin .FloorDiv (sub (var 0) (kst (.int 2))) (var 1)) 
    (ret (var 3)))) done 
  (putS (var 0) (kst (.int 3)) (bin .Mod (intE (bin .Add (bin .Mult (sub (var 0) (kst (.int 3))) (kst (.int 69621))) (kst (.int 11)))) (kst (.int 2147483647))) 
  (asg 3 (bin .Mod (intE (bin .Add (bin .Mult (sub (var 0) (kst (.int 3))) (kst (.int 40692))) (bin .FloorDiv (sub (var 0) (kst (.int 3))) (kst (.int 1009))))) (kst (.int 2147483399))) 
  (ret (bin .Mod (intE (bin .FloorDiv (var 3) (kst (.int 16)))) (var 1))))))
def f_law_pull : FD := runDef 2 4 1 d_law_pull
def d_law_big : SD :=
  asg 2 (kst (.int 0)) 
  (forS (itR (kst (.int 6))) (tg1 3) (asg 2 (bin .Add (bin .Mult (var 2) (kst (.int 100000007))) (call f_law_pull (consA (var 0) (consA (kst (.int 100000007)) nilA)))) done) 
  (ret (bin .Mod (intE (var 2)) (var 1))))
def f_law_big : FD := runDef 2 4 1 d_law_big
def d_law_index : SD :=
  iff (tcmp .Gt (call f_law_pull (consA (var 0) (consA (kst (.int 3)) nilA))) (kst (.int 0))) (ret (lst (consA (call f_law_pull (consA (var 0) (consA (bin .Add (var 1) (kst (.int 1))) nilA))) (consA (kst (.bl true)) nilA)))) done 
  (asg 2 (lst (consA (neg (kst (.int 1))) (consA (bin .Add (var 1) (kst (.int 1))) (consA (kst (.bl true)) (consA (kst (.bl false)) (consA (kst .non) (consA (kst (.str "0")) (consA (tup (consA (kst (.int 0)) (consA (kst (.int 1)) nilA))) (consA (lst (consA (kst (.int 0)) nilA)) (consA (bin .Add (bin .Pow (kst (.int 10)) (kst (.int 39))) (var 1)) nilA)))))))))) 
  (ret (lst (consA (sub (var 2) (call f_law_pull (consA (var 0) (consA (kst (.int 9)) nilA)))) (consA (kst (.bl false)) nilA)))))
def f_law_index : FD := runDef 2 3 1 d_law_index
def d_law_asked : SD :=
  try1 3 (ret (tup (consA (kst (.str "told")) (consA (call f_factor (consA (var 0) (consA (var 1) (consA (var 2) nilA)))) nilA)))) "InvalidBound" (ht [(hk (.str "refused")), (hf "name")]) [] done
def f_law_asked : FD := runDef 3 4 0 d_law_asked
def d_law : SD :=
  asgN 1 (call f_law_start (consA (var 0) nilA)) 
  (asg 2 (call f_law_index (consA (var 1) (consA (kst (.int 26)) nilA))) 
  (asg 3 (sub (var 2) (kst (.int 0))) 
  (iff (tval (sub (var 2) (kst (.int 1)))) (asg 3 (bin .Sub (var 3) (kst (.int 25))) done) (iff (tval (call f_law_is_int (consA (var 3) nilA))) (asg 3 (sub (lst (consA (kst (.int 2)) (consA (neg (kst (.int 26))) (consA (bin .Pow (kst (.int 10)) (kst (.int 39))) nilA)))) (call f_law_pull (consA (var 1) (consA (kst (.int 3)) nilA)))) done) done done) 
  (asg 4 (bin .Add (kst (.int 1)) (call f_law_pull (consA (var 1) (consA (kst (.int 30)) nilA)))) 
  (iff (tcmp .Eq (call f_law_pull (consA (var 1) (consA (kst (.int 4)) nilA))) (kst (.int 0))) (asg 4 (bin .Add (kst (.int 1)) (call f_law_big (consA (var 1) (consA (bin .Pow (kst (.int 10)) (kst (.int 39))) nilA)))) done) done 
  (asg 5 (call f_law_pull (consA (var 1) (consA (kst (.int 6)) nilA))) 
  (iff (tcmp .Eq (var 5) (kst (.int 0))) (asg 4 (sub (lst (consA (kst (.int 0)) (consA (kst (.bl true)) (consA (neg (kst (.int 1))) (consA (kst .non) (consA (tup (consA (kst (.int 1)) (consA (kst (.int 1)) nilA))) nilA)))))) (call f_law_pull (consA (var 1) (consA (kst (.int 5)) nilA)))) done) done 
  (asg 6 (call f_law_index (consA (var 1) (consA (kst (.int 40)) nilA))) 
  (asg 7 (sub (var 6) (kst (.int 0))) 
  (iff (tand (tnot (tval (sub (var 6) (kst (.int 1))))) (tval (call f_law_is_int (consA (var 7) nilA)))) (asg 7 (sub (lst (consA (neg (kst (.int 1))) (consA (bin .Add (bin .Pow (kst (.int 10)) (kst (.int 40))) (kst (.int 1))) nilA))) (call f_law_pull (consA (var 1) (consA (kst (.int 2)) nilA)))) done) done 
  (asg 8 (kst .non) 
  (iff (tnot (tval (sub (var 2) (kst (.int 1))))) (asg 8 (tup (consA (kst (.str "refused")) (consA (kst (.str "root")) nilA))) done) (iff (tcmp .Eq (var 5) (kst (.int 0))) (asg 8 (tup (consA (kst (.str "refused")) (consA (kst (.str "start")) nilA))) done) (iff (tnot (tval (sub (var 6) (kst (.int 1))))) (asg 8 (tup (consA (kst (.str "refused")) (consA (kst (.str "n")) nilA))) done) done done) done) 
  (iff (tcmp .IsNot (var 8) (kst .non)) (ret (call (f_law_same 12) (consA (call f_law_asked (consA (var 3) (consA (var 4) (consA (var 7) nilA)))) (consA (var 8) nilA)))) done 
  (asg 9 (kst (.int 1)) 
  (asg 10 (kst (.int 1)) 
  (forS (itR (var 7)) (tg1 11) (asg 9 (bin .Mult (var 9) (bin .Add (bin .Add (var 4) (var 11)) (var 3))) 
    (asg 10 (bin .Mult (var 10) (bin .Add (var 4) (var 11))) done)) 
  (iff (tnot (tval (call (f_law_same 12) (consA (call f_law_asked (consA (var 3) (consA (var 4) (consA (var 7) nilA)))) (consA (tup (consA (kst (.str "told")) (consA (call f_law_low (consA (var 9) (consA (var 10) nilA))) nilA))) nilA))))) (ret (kst (.bl false))) done 
  (asg 12 (call f_law_big (consA (var 1) (consA (bin .Pow (kst (.int 10)) (kst (.int 40))) nilA))) 
  (asg 13 (call f_factor (consA (var 3) (consA (var 4) (consA (var 12) nilA)))) 
  (iff (tnot (tval (call f_law_is_fraction (consA (var 13) nilA)))) (ret (kst (.bl false))) done 
  (asg 14 (call f_law_low (consA (bin .Add (bin .Add (var 4) (var 12)) (var 3)) (consA (bin .Add (var 4) (var 12)) nilA))) 
  (ret (call (f_law_same 12) (consA (call f_factor (consA (var 3) (consA (var 4) (consA (bin .Add (var 12) (kst (.int 1))) nilA)))) (consA (call f_law_times (consA (var 13) (consA (var 14) nilA))) nilA)))))))))))))))))))))))))
def f_law : FD := runDef 1 15 0 d_law
end k43
namespace k43
open PySem (Str)
open Dv Dn
open L2 (CMulW CDivW)
theorem e_law_is_int {d : Dt} (h : plainD d = true) : f_law_is_int [.d d] [] = some (.ret (.bl (isI d)) []) := by
  unfold f_law_is_int d_law_is_int
  rw [← isI_eq]
  cases h1 : isT "int" d <;> simp [runDef, var, opx, map1, notE, notS, andE, isE, isTS, ret, h, h1]
theorem e_law_start {ds : List Dt} : f_law_start [.d (.lst ds)] [] = some (.nw [.d (.lst ds), .d (.int 0), .d (.int 0), .d (.int 1234577)] []) := by
  unfold f_law_start d_law_start
  simp [runDef, var, kst, opx, listE, seqS, lst, consA, nilA, ret, cellL, isD]
structure Rng where
  pos : Nat
  carry : Int
  seed : Int
def stD (scr : List Int) (r : Rng) : List Sv := [.d (.lst (scr.map Dt.int)), .d (.int r.pos), .d (.int r.carry), .d (.int r.seed)]
abbrev stC (scr : List Int) (r : Rng) : Option Cell := some (.l (stD scr r))
structure Ok (scr : List Int) (r : Rng) : Prop where
  pos : r.pos ≤ scr.length
  carry : 0 ≤ r.carry
  s0 : 0 ≤ r.seed
  s1 : r.seed < 2147483647
def feed (scr : List Int) (r : Rng) : Rng :=
  if r.carry = 0 ∧ r.pos < scr.length then
    if scr.getD r.pos 0 ≥ 10 ^ 18 then ⟨r.pos + 1, scr.getD r.pos 0, r.seed⟩ else ⟨r.pos + 1, r.carry, (r.seed * 48271 + scr.getD r.pos 0 % 2147483629 + 1) % 2147483647⟩
  else r
def draw (r : Rng) (many : Int) : Int × Rng :=
  if r.carry > 0 then (r.carry % many, ⟨r.pos, r.carry / many, r.seed⟩)
  else
    let s := (r.seed * 69621 + 11) % 2147483647
    ((s * 40692 + s / 1009) % 2147483399 / 16 % many, ⟨r.pos, r.carry, s⟩)
def pull (scr : List Int) (r : Rng) (many : Int) : Int × Rng := draw (feed scr r) many
theorem Ok.feed {scr : List Int} {r : Rng} (h : Ok scr r) : Ok scr (feed scr r) := by
  unfold k43.feed
  split
  · rename_i c
    split
    · rename_i c2
      exact ⟨by have := c.2; show r.pos + 1 ≤ _; omega, by show 0 ≤ scr.getD r.pos 0; omega, h.s0, h.s1⟩
    · refine ⟨by have := c.2; show r.pos + 1 ≤ _; omega, h.carry, ?_, ?_⟩
      · exact Int.emod_nonneg _ (by decide)
      · exact Int.emod_lt_of_pos _ (by decide)
  · exact h
theorem Ok.draw {scr : List Int} {r : Rng} {many : Int} (h : Ok scr r) (hm : 0 < many) : Ok scr (draw r many).2 ∧ 0 ≤ (draw r many).1 ∧ (draw r many).1 < many := by
  unfold k43.draw
  split
  · exact ⟨⟨h.pos, Int.ediv_nonneg h.carry (by omega), h.s0, h.s1⟩, Int.emod_nonneg _ (by omega), Int.emod_lt_of_pos _ hm⟩
  · exact ⟨⟨h.pos, h.carry, Int.emod_nonneg _ (by decide), Int.emod_lt_of_pos _ (by decide)⟩, Int.emod_nonneg _ (by omega), Int.emod_lt_of_pos _ hm⟩
theorem Ok.pull {scr : List Int} {r : Rng} {many : Int} (h : Ok scr r) (hm : 0 < many) : Ok scr (pull scr r many).2 ∧ 0 ≤ (pull scr r many).1 ∧ (pull scr r many).1 < many := h.feed.draw hm
theorem cmul64 {i j : Int} (h0 : -(2 ^ 64) < i ∧ i < 2 ^ 64) (h : -(2 ^ 64) < j ∧ j < 2 ^ 64) : CMulW i j := mulS h0 h
local macro_rules | `(tactic| walk_at "ev") => `(tactic| simp [runDef, var, kst, glob, opx, map1, map2, Dn.bin, opS, Dn.opI, neg, negS, cmp, cmpS, tcmp, tval, tnot, tand_if, tor_if, iff_if, consA, nilA, tup, lst, unD, sub, ixS, seqS, seqL, lenE, lenS, intE, intS, call, callF, refs, loc, argOk, cellsAt, setAll, asg, asgN, asg2, tg1, tg2, putS, appS, ret, retN, exprS, seqO, done, cellL, Dn.isD, Cell.isD, cellOk, stC, stD, atI0, atI1, atI2, atI3, L2.ixN, *])
theorem draw_ev {scr : List Int} {r : Rng} {many : Int} {o : Option Sv} (ok : Ok scr r) (h0 : 0 < many) (cd : ∀ i : Int, CDivW i many) :
    (iff (tcmp .Gt (sub (var 0) (kst (.int 2))) (kst (.int 0))) (asg 3 (bin .Mod (intE (sub (var 0) (kst (.int 2)))) (var 1)) 
    (putS (var 0) (kst (.int 2)) (bin .FloorDiv (sub (var 0) (kst (.int 2))) (var 1)) 
    (ret (var 3)))) done 
  (putS (var 0) (kst (.int 3)) (bin .Mod (intE (bin .Add (bin .Mult (sub (var 0) (kst (.int 3))) (kst (.int 69621))) (kst (.int 11)))) (kst (.int 2147483647))) 
  (asg 3 (bin .Mod (intE (bin .Add (bin .Mult (sub (var 0) (kst (.int 3))) (kst (.int 40692))) (bin .FloorDiv (sub (var 0) (kst (.int 3))) (kst (.int 1009))))) (kst (.int 2147483399))) 
  (ret (bin .Mod (intE (bin .FloorDiv (var 3) (kst (.int 16)))) (var 1)))))) [some (.m 0), some (.d (.int many)), o, none] [stC scr r] = some (.rt (.int (draw r many).1) [stC scr (draw r many).2]) := by
  have m1 : CMulW r.seed 69621 := cmul64 ⟨by have := ok.s0; omega, by have := ok.s1; omega⟩ (by decide)
  have q0 := Int.emod_nonneg (r.seed * 69621 + 11) (b := 2147483647) (by decide)
  have q1 := Int.emod_lt_of_pos (r.seed * 69621 + 11) (b := 2147483647) (by decide)
  have m2 : CMulW ((r.seed * 69621 + 11) % 2147483647) 40692 := cmul64 ⟨by omega, by omega⟩ (by decide)
  have d1 : ∀ i : Int, CDivW i 1009 := fun i => ⟨by decide, by decide⟩
  have d2 : ∀ i : Int, CDivW i 16 := fun i => ⟨by decide, by decide⟩
  unfold draw
  clear q0 q1
  by_cases c : 0 < r.carry
  · walk_at "ev"
  · walk_at "ev"
theorem feed_ev {scr : List Int} {r : Rng} {many : Int} {k : SD} {R : Option Out} (ok : Ok scr r) (hk : ∀ o, k [some (.m 0), some (.d (.int many)), o, none] [stC scr (feed scr r)] = R) :
    (iff (tand (tcmp .Eq (sub (var 0) (kst (.int 2))) (kst (.int 0))) (tcmp .Lt (sub (var 0) (kst (.int 1))) (lenE (sub (var 0) (kst (.int 0)))))) (asg 2 (sub (sub (var 0) (kst (.int 0))) (sub (var 0) (kst (.int 1)))) 
    (putS (var 0) (kst (.int 1)) (bin .Add (sub (var 0) (kst (.int 1))) (kst (.int 1))) 
    (iff (tcmp .GtE (var 2) (bin .Pow (kst (.int 10)) (kst (.int 18)))) (putS (var 0) (kst (.int 2)) (var 2) done) (putS (var 0) (kst (.int 3)) (bin .Mod (intE (bin .Add (bin .Add (bin .Mult (sub (var 0) (kst (.int 3))) (kst (.int 48271))) (bin .Mod (intE (var 2)) (kst (.int 2147483629)))) (kst (.int 1)))) (kst (.int 2147483647))) done) done))) done k) [some (.m 0), some (.d (.int many)), none, none] [stC scr r] = R := by
  have m1 : CMulW r.seed 48271 := cmul64 ⟨by have := ok.s0; omega, by have := ok.s1; omega⟩ (by decide)
  have p1 : L2.CPow 10 18 := ⟨by decide, by decide, by decide⟩
  unfold feed at hk
  by_cases c1 : r.carry = 0 ∧ r.pos < scr.length
  · obtain ⟨c0, c1⟩ := c1
    have hx : L2.atI (scr.map Dt.int) (r.pos : Int) = some (.int (scr.getD r.pos 0)) := atI_map (Int.natCast_nonneg _) (by simp [List.getD, c1])
    have hc : ((r.pos : Nat) : Int) < (scr.length : Nat) := by omega
    generalize scr.getD r.pos 0 = y at *
    by_cases c2 : y ≥ 10 ^ 18
    · rw [if_pos ⟨c0, c1⟩, if_pos c2] at hk
      have c3 : (1000000000000000000 : Int) ≤ y := by simpa using c2
      rw [← hk (some (.d (.int y)))]
      walk_at "ev"
    · rw [if_pos ⟨c0, c1⟩, if_neg c2] at hk
      have c3 : ¬ (1000000000000000000 : Int) ≤ y := by simpa using c2
      rw [← hk (some (.d (.int y)))]
      walk_at "ev"
  · rw [if_neg c1] at hk
    rw [← hk none]
    by_cases c0 : r.carry = 0
    · have c2 : ¬ ((r.pos : Nat) : Int) < (scr.length : Nat) := fun z => c1 ⟨c0, by omega⟩
      walk_at "ev"
    · walk_at "ev"
theorem e_law_pull {scr : List Int} {r : Rng} {many : Int} (ok : Ok scr r) (h0 : 0 < many) (h9 : many.natAbs.log2 < 9000) :
    f_law_pull [.m 0, .d (.int many)] [stC scr r] = some (.ret (.int (pull scr r many).1) [stC scr (pull scr r many).2]) := by
  have h : d_law_pull [some (.m 0), some (.d (.int many)), none, none] [stC scr r] = some (.rt (.int (pull scr r many).1) [stC scr (pull scr r many).2]) := by
    unfold d_law_pull
    exact feed_ev ok fun o => draw_ev ok.feed h0 fun i => ⟨h0, h9⟩
  unfold f_law_pull
  simp only [runDef, List.map, List.replicate, List.length, List.append, List.cons_append, List.nil_append]
  simp only [h]
  simp [cellOk, Cell.isD, stD, Dn.isD]
end k43
namespace k43
open PySem (Str)
open Dv Dn
open L2 (CMulW CDivW)
theorem st_isD {scr : List Int} {r : Rng} : Cell.isD (.l (stD scr r)) = true := rfl
theorem cf_st2 {F : FD} {scr : List Int} {r r' : Rng} {ms : Ms} {d d' : Dt} (h : F [.m 0, .d d] [stC scr r] = some (.ret d' [stC scr r'])) :
    callF F [.m 0, .d d] (stC scr r :: ms) = some (.v (.d d'), stC scr r' :: ms) := by
  simp [callF, refs, argOk, loc, cellsAt, st_isD, h, setAll]
theorem cf_st1 {F : FD} {scr : List Int} {r r' : Rng} {ms : Ms} {d' : Dt} (h : F [.m 0] [stC scr r] = some (.ret d' [stC scr r'])) :
    callF F [.m 0] (stC scr r :: ms) = some (.v (.d d'), stC scr r' :: ms) := by
  simp [callF, refs, argOk, loc, cellsAt, st_isD, h, setAll]
theorem cf_pull {scr : List Int} {r : Rng} {many : Int} {ms : Ms} (ok : Ok scr r) (h0 : 0 < many) (h9 : many.natAbs.log2 < 9000) :
    callF f_law_pull [.m 0, .d (.int many)] (stC scr r :: ms) = some (.v (.d (.int (pull scr r many).1)), stC scr (pull scr r many).2 :: ms) := cf_st2 (e_law_pull ok h0 h9)
theorem forGo_nx {G : GD} {S : SD} {d : Dt} {ds : List Dt} {es es1 e : Es} {ms m : Ms} (hg : G d es = some es1) (hs : S es1 ms = some (.nx e m)) : forGo G S (d :: ds) es ms = forGo G S ds e m := by
  rw [forGo, hg]
  show (match S es1 ms with | some (.nx e m) => forGo G S ds e m | some (.ct e m) => forGo G S ds e m | some (.bk e m) => some (.nx e m) | o => o) = _
  rw [hs]
def pulls (scr : List Int) : Nat → Int → Rng → Int × Rng
  | 0, a, r => (a, r)
  | n + 1, a, r => pulls scr n (a * 100000007 + (pull scr r 100000007).1) (pull scr r 100000007).2
theorem pow27 (b : Nat) : (2 : Int) ^ (b + 27) = 2 ^ b * 134217728 := by rw [Int.pow_add]; rfl
theorem big_go {scr : List Int} {many : Int} : ∀ (ds : List Dt) (b : Nat) (a : Int) (r : Rng) (o : Option Sv), Ok scr r → 0 ≤ a → a < 2 ^ b → b + 27 * ds.length ≤ 9000 → 0 < b →
    ∃ o', forGo (tg1 3) (asg 2 (bin .Add (bin .Mult (var 2) (kst (.int 100000007))) (call f_law_pull (consA (var 0) (consA (kst (.int 100000007)) nilA)))) done) ds [some (.m 0), some (.d (.int many)), some (.d (.int a)), o] [stC scr r]
      = some (.nx [some (.m 0), some (.d (.int many)), some (.d (.int (pulls scr ds.length a r).1)), o'] [stC scr (pulls scr ds.length a r).2]) ∧ Ok scr (pulls scr ds.length a r).2 ∧ 0 ≤ (pulls scr ds.length a r).1
  | [], b, a, r, o, ok, h0, h1, h2, hb => ⟨o, rfl, ok, h0⟩
  | d :: ds, b, a, r, o, ok, h0, h1, h2, hb => by
    have pk := ok.pull (many := 100000007) (by decide)
    have cp := cf_pull (ms := []) ok (many := 100000007) (by decide) (by decide)
    have h2' : b + 27 * (ds.length + 1) ≤ 9000 := h2
    have nb : a.natAbs < 2 ^ b := by
      have : ((2 ^ b : Nat) : Int) = (2 : Int) ^ b := by simp
      omega
    have cm : CMulW a 100000007 := L2.wide_mul (a := b) (b := 27) nb (by decide) hb (by decide) (by omega)
    have n0 : 0 ≤ a * 100000007 + (pull scr r 100000007).1 := by have := pk.2.1; omega
    have n1 : a * 100000007 + (pull scr r 100000007).1 < 2 ^ (b + 27) := by
      rw [pow27]
      have := pk.2.2
      generalize (2 : Int) ^ b = z at *
      omega
    obtain ⟨o', g1, g2, g3⟩ := big_go ds (b + 27) _ _ (some (.d d)) pk.1 n0 n1 (by omega) (by omega)
    refine ⟨o', ?_, g2, g3⟩
    show _ = some (Out.nx [some (.m 0), some (.d (.int many)), some (.d (.int (pulls scr ds.length _ _).1)), o'] [stC scr (pulls scr ds.length _ _).2])
    rw [← g1]
    refine forGo_nx (by rfl) ?_
    simp [asg, var, kst, opx, map2, Dn.bin, opS, Dn.opI, call, consA, nilA, cp, done, cm]
def big (scr : List Int) (r : Rng) (many : Int) : Int × Rng := ((pulls scr 6 0 r).1 % many, (pulls scr 6 0 r).2)
theorem big_ok {scr : List Int} {r : Rng} {many : Int} (ok : Ok scr r) (h0 : 0 < many) : Ok scr (big scr r many).2 ∧ 0 ≤ (big scr r many).1 ∧ (big scr r many).1 < many := by
  obtain ⟨o', g1, g2, g3⟩ := big_go (many := many) (irange 0 6) 1 0 r none ok (by decide) (by decide) (by decide) (by decide)
  exact ⟨g2, Int.emod_nonneg _ (by omega), Int.emod_lt_of_pos _ h0⟩
theorem e_law_big {scr : List Int} {r : Rng} {many : Int} (ok : Ok scr r) (h0 : 0 < many) (h9 : many.natAbs.log2 < 9000) :
    f_law_big [.m 0, .d (.int many)] [stC scr r] = some (.ret (.int (big scr r many).1) [stC scr (big scr r many).2]) := by
  obtain ⟨o', g1, g2, g3⟩ := big_go (many := many) (irange 0 6) 1 0 r none ok (by decide) (by decide) (by decide) (by decide)
  have cd : ∀ i : Int, CDivW i many := fun i => ⟨h0, h9⟩
  have h : d_law_big [some (.m 0), some (.d (.int many)), none, none] [stC scr r] = some (.rt (.int (big scr r many).1) [stC scr (big scr r many).2]) := by
    unfold d_law_big
    simp only [asg, kst, List.set]
    unfold forS
    simp only [itR, kst, opx]
    rw [if_pos (by decide)]
    show seqO (forGo _ _ (irange 0 6) _ _) _ = _
    rw [g1]
    simp [seqO, ret, Dn.bin, map2, opx, var, intE, intS, map1, opS, Dn.opI, cd, big, irange, h0]
  unfold f_law_big
  simp only [runDef, List.map, List.replicate, List.length, List.append, List.cons_append, List.nil_append]
  simp only [h]
  simp [cellOk, Cell.isD, stD, Dn.isD]
theorem cf_big {scr : List Int} {r : Rng} {many : Int} {ms : Ms} (ok : Ok scr r) (h0 : 0 < many) (h9 : many.natAbs.log2 < 9000) :
    callF f_law_big [.m 0, .d (.int many)] (stC scr r :: ms) = some (.v (.d (.int (big scr r many).1)), stC scr (big scr r many).2 :: ms) := cf_st2 (e_law_big ok h0 h9)
end k43
namespace k43
open PySem (Str)
open Dv Dn
open L2 (CMulW CDivW)
theorem irange_s (lo : Int) (k : Nat) : irange lo (k + 1) = .int lo :: irange (lo + 1) k := by
  unfold irange
  rw [List.range_succ_eq_map, List.map_cons, List.map_map]
  congr 1
  · simp
  · apply List.map_congr_left
    intro i _
    show Dt.int (lo + ((i + 1 : Nat) : Int)) = Dt.int (lo + 1 + (i : Int))
    congr 1
    omega
/-- what _law_same can look through, to this depth -/
def sameOk : Nat → Dt → Bool
  | 0, _ => false
  | _ + 1, .obj _ _ => false
  | n + 1, .lst ds => decide (ds.length < 2 ^ 62) && ds.all (sameOk n)
  | n + 1, .tup ds => decide (ds.length < 2 ^ 62) && ds.all (sameOk n)
  | _ + 1, _ => true
theorem iff_ff {T : TD} {S1 k : SD} {es : Es} {ms m : Ms} (h : T es ms = some (false, m)) : iff T S1 done k es ms = k es m := by
  unfold iff
  rw [h]
  rfl
theorem iff_tt {T : TD} {S1 S2 k : SD} {es : Es} {ms m : Ms} (h : T es ms = some (true, m)) : iff T S1 S2 k es ms = seqO (S1 es m) k := by
  unfold iff
  rw [h]
theorem call_self {F : FD} {d : Dt} (h : F [.d d, .d d] [] = some (.ret (.bl true) [])) : callF F [.d d, .d d] [] = some (.v (.d (.bl true)), []) := by
  simp [callF, refs, argOk, loc, cellsAt, h, setAll]
theorem same_go {F : FD} {D : Dt} {ds : List Dt} (hD : D = .lst ds ∨ D = .tup ds) (h : ∀ d ∈ ds, F [.d d, .d d] [] = some (.ret (.bl true) [])) : ∀ (k : Nat) (lo : Nat) (o : Option Sv), lo + k ≤ ds.length →
    ∃ o', forGo (tg1 2) (iff (tnot (tval (call F (consA (sub (var 0) (var 2)) (consA (sub (var 1) (var 2)) nilA))))) (ret (kst (.bl false))) done done) (irange (lo : Int) k) [some (.d D), some (.d D), o] [] = some (.nx [some (.d D), some (.d D), o'] [])
  | 0, lo, o, _ => ⟨o, rfl⟩
  | k + 1, lo, o, hl => by
    obtain ⟨o', g⟩ := same_go hD h k (lo + 1) (some (.d (.int lo))) (by omega)
    refine ⟨o', ?_⟩
    rw [← g, irange_s]
    have hx : L2.atI ds (lo : Int) = some (ds[lo]'(by omega)) := atI_ge (Int.natCast_nonneg _) (by simp)
    have hc := call_self (h _ (List.getElem_mem (n := lo) (by omega)))
    refine forGo_nx (by rfl) ?_
    rcases hD with rfl | rfl <;> simp [iff_if, tnot, tval, call, consA, nilA, sub, var, opx, ixS, hx, hc, seqO, done]
theorem same_go0 {F : FD} {D : Dt} {ds : List Dt} (hD : D = .lst ds ∨ D = .tup ds) (h : ∀ d ∈ ds, F [.d d, .d d] [] = some (.ret (.bl true) [])) :
    ∃ o', forGo (tg1 2) (iff (tnot (tval (call F (consA (sub (var 0) (var 2)) (consA (sub (var 1) (var 2)) nilA))))) (ret (kst (.bl false))) done done) (irange 0 ds.length) [some (.d D), some (.d D), none] [] = some (.nx [some (.d D), some (.d D), o'] []) := by
  have := same_go hD h ds.length 0 none (by omega)
  rwa [Int.ofNat_zero] at this
theorem forS_go {J : ID} {G : GD} {S k : SD} {es : Es} {ms m : Ms} {ds : List Dt} (h : J es ms = some (ds, m)) : forS J G S k es ms = seqO (forGo G S ds es m) k := by
  unfold forS
  rw [h]
theorem same_non {F : FD} : d_law_same F [some (.d .non), some (.d .non), none] [] = some (.rt (.bl true) []) := by
  unfold d_law_same
  simp [iff_if, tcmp, tval, var, kst, opx, cmpS, isNon, seqO, ret, cmp, map2, map1, isE, isTS, plainD, isT, andE, done]
theorem same_bl {F : FD} {b : Bool} : d_law_same F [some (.d (.bl b)), some (.d (.bl b)), none] [] = some (.rt (.bl true) []) := by
  unfold d_law_same
  simp [iff_if, tcmp, tval, var, kst, opx, cmpS, isNon, seqO, ret, cmp, map2, map1, isE, isTS, plainD, isT, andE, done]
theorem same_int {F : FD} {i : Int} : d_law_same F [some (.d (.int i)), some (.d (.int i)), none] [] = some (.rt (.bl true) []) := by
  unfold d_law_same
  have hi : f_law_is_int [.d (.int i)] [] = some (.ret (.bl true) []) := e_law_is_int rfl
  simp [iff_if, tcmp, tval, var, kst, opx, cmpS, isNon, seqO, ret, cmp, map2, map1, isE, isTS, plainD, isT, andE, done, call, consA, nilA, callF, refs, argOk, loc, cellsAt, hi, setAll]
theorem same_str {F : FD} {i : Str} : d_law_same F [some (.d (.str i)), some (.d (.str i)), none] [] = some (.rt (.bl true) []) := by
  unfold d_law_same
  simp [iff_if, tcmp, tval, var, kst, opx, cmpS, isNon, seqO, ret, cmp, map2, map1, isE, isTS, plainD, isT, andE, done]
theorem same_lst {n : Nat} (ih : ∀ d : Dt, sameOk n d = true → f_law_same n [.d d, .d d] [] = some (.ret (.bl true) [])) (ds : List Dt) (h : ds.length < 2 ^ 62) (h2 : ∀ d ∈ ds, sameOk n d = true) : d_law_same (f_law_same n) [some (.d (.lst ds)), some (.d (.lst ds)), none] [] = some (.rt (.bl true) []) := by
  obtain ⟨o', g⟩   := same_go0 (F := f_law_same n) (D := .lst ds) (.inl rfl) (fun d hd => ih d (h2 d hd))
  unfold d_law_same
  iterate 6 rw [iff_ff (m := []) (by simp [tand_if, tnot, tcmp, tval, var, kst, opx, cmpS, isNon, map1, isE, isTS, plainD, isT])]
  rw [iff_ff (m := []) (by simp [tcmp, lenE, map1, opx, var, lenS, seqS, cmpS])]
  have hl : (-(2 ^ 62) : Int) ≤ (ds.length : Int) ∧ (ds.length : Int) < 2 ^ 62 := by omega
  have hi : itR (lenE (var 1)) [some (.d (.lst ds)), some (.d (.lst ds)), none] [] = some (irange 0 ds.length, []) := by
    simp only [itR, lenE, map1, opx, var, lenS, seqS, List.getElem?_cons_succ, List.getElem?_cons_zero, List.length_map]
    rw [if_pos hl, Int.toNat_natCast]
  rw [forS_go hi, g]
  simp [seqO, ret, kst]
theorem same_tup {n : Nat} (ih : ∀ d : Dt, sameOk n d = true → f_law_same n [.d d, .d d] [] = some (.ret (.bl true) [])) (ds : List Dt) (h : ds.length < 2 ^ 62) (h2 : ∀ d ∈ ds, sameOk n d = true) : d_law_same (f_law_same n) [some (.d (.tup ds)), some (.d (.tup ds)), none] [] = some (.rt (.bl true) []) := by
  obtain ⟨o', g⟩   := same_go0 (F := f_law_same n) (D := .tup ds) (.inr rfl) (fun d hd => ih d (h2 d hd))
  unfold d_law_same
  iterate 6 rw [iff_ff (m := []) (by simp [tand_if, tnot, tcmp, tval, var, kst, opx, cmpS, isNon, map1, isE, isTS, plainD, isT])]
  rw [iff_ff (m := []) (by simp [tcmp, lenE, map1, opx, var, lenS, seqS, cmpS])]
  have hl : (-(2 ^ 62) : Int) ≤ (ds.length : Int) ∧ (ds.length : Int) < 2 ^ 62 := by omega
  have hi : itR (lenE (var 1)) [some (.d (.tup ds)), some (.d (.tup ds)), none] [] = some (irange 0 ds.length, []) := by
    simp only [itR, lenE, map1, opx, var, lenS, seqS, List.getElem?_cons_succ, List.getElem?_cons_zero, List.length_map]
    rw [if_pos hl, Int.toNat_natCast]
  rw [forS_go hi, g]
  simp [seqO, ret, kst]
theorem same_step {n : Nat} (ih : ∀ d : Dt, sameOk n d = true → f_law_same n [.d d, .d d] [] = some (.ret (.bl true) [])) (d : Dt) (h : sameOk (n + 1) d = true) : d_law_same (f_law_same n) [some (.d d), some (.d d), none] [] = some (.rt (.bl true) []) := by
  cases d with
  | non => exact same_non
  | bl b => exact same_bl
  | int i => exact same_int
  | str i => exact same_str
  | obj C fs => simp [sameOk] at h
  | lst ds =>
    rw [sameOk, Bool.and_eq_true, decide_eq_true_eq, List.all_eq_true] at h
    exact same_lst ih ds h.1 h.2
  | tup ds =>
    rw [sameOk, Bool.and_eq_true, decide_eq_true_eq, List.all_eq_true] at h
    exact same_tup ih ds h.1 h.2
theorem e_law_same (n : Nat) : ∀ (d : Dt), sameOk n d = true → f_law_same n [.d d, .d d] [] = some (.ret (.bl true) []) := by
  induction n with
  | zero => intro d h; simp [sameOk] at h
  | succ n ih =>
    intro d h
    have key := same_step ih d h
    show runDef 2 3 0 (d_law_same (f_law_same n)) [.d d, .d d] [] = some (.ret (.bl true) [])
    simp [runDef, key]
theorem cf_same {n : Nat} {d : Dt} {ms : Ms} (h : sameOk n d = true) : callF (f_law_same n) [.d d, .d d] ms = some (.v (.d (.bl true)), ms) := by
  simp [callF, refs, argOk, loc, cellsAt, e_law_same n d h, setAll]
end k43
namespace k43
open PySem (Str)
open Dv Dn
open L2 (CMulW CDivW)
theorem asg_v {i : Nat} {A : ED} {k : SD} {es : Es} {ms m : Ms} {d : Dt} (h : A es ms = some (.v (.d d), m)) : asg i A k es ms = k (es.set i (some (.d d))) m := by
  unfold asg
  rw [h]
theorem runDef_ret {np N P : Nat} {S : SD} {args : List Sv} {fm m : Ms} {d : Dt} (h : S (args.map some ++ List.replicate (N - np) none) fm = some (.rt d m)) (h1 : args.length = np) (h2 : fm.length ≤ P) (h3 : m.length = fm.length) (h4 : m.all cellOk = true) : runDef np N P S args fm = some (.ret d m) := by
  unfold runDef
  rw [if_pos ⟨h1, h2⟩, h]
  have e : m.take fm.length = m := by rw [← h3, List.take_length]
  dsimp only
  rw [e, if_pos ⟨by omega, h4⟩]
theorem gcd_go : ∀ (n a b : Nat) (o : Option Sv), b < n → b < 2 ^ 8000 → ∃ o', whileGo (tcmp .NotEq (var 1) (kst (.int 0))) (asg 2 (bin .Mod (intE (var 0)) (var 1)) 
    (asg 0 (var 1) 
    (asg 1 (var 2) done))) n [some (.d (.int a)), some (.d (.int b)), o] [] = some (.nx [some (.d (.int (Nat.gcd a b))), some (.d (.int 0)), o'] [])
  | 0, a, b, o, h, h2 => absurd h (by omega)
  | n + 1, a, b, o, h, h2 => by
    unfold whileGo
    by_cases c : b = 0
    · subst c
      refine ⟨o, ?_⟩
      simp [tcmp, var, kst, opx, cmpS]
    · have hb : 0 < b := by omega
      have c' : ¬ ((b : Int) = 0) := by omega
      have hb' : (0 : Int) < b := by omega
      obtain ⟨o', g⟩ := gcd_go n b (a % b) (some (.d (.int ((a % b : Nat) : Int)))) (by have := Nat.mod_lt a hb; omega) (by have := Nat.mod_lt a hb; omega)
      refine ⟨o', ?_⟩
      have e : Nat.gcd a b = Nat.gcd b (a % b) := by rw [Nat.gcd_comm a b, Nat.gcd_rec b a, Nat.gcd_comm]
      rw [e, ← g]
      simp [tcmp, var, kst, opx, cmpS, c, asg, Dn.bin, map1, map2, intE, intS, opS, Dn.opI, hb, done]
theorem e_law_gcd {a b : Nat} (h : b < 2 ^ 8000) : f_law_gcd [.d (.int a), .d (.int b)] [] = some (.ret (.int (Nat.gcd a b)) []) := by
  obtain ⟨o', g⟩ := gcd_go (b + 1) a b none (by omega) h
  refine runDef_ret ?_ rfl (Nat.zero_le _) rfl rfl
  show d_law_gcd [some (.d (.int a)), some (.d (.int b)), none] [] = _
  unfold d_law_gcd whileS
  have e : natAt 1 [some (.d (.int a)), some (.d (.int b)), none] [] = b + 1 := by simp [natAt]
  rw [e, g]
  simp [seqO, ret, var]
theorem cf_gcd {a b : Nat} {ms : Ms} (h : b < 2 ^ 8000) : callF f_law_gcd [.d (.int a), .d (.int b)] ms = some (.v (.d (.int (Nat.gcd a b))), ms) := by
  simp [callF, refs, argOk, loc, cellsAt, e_law_gcd h, setAll]
theorem log2_8000 {n : Nat} (h : n < 2 ^ 8000) : n.log2 < 9000 := Nat.lt_of_lt_of_le (PySem.Flt.log2_lt_of (by decide) h) (by decide)
theorem e_law_low {a b : Int} (h0 : 0 < b) (h : b < 2 ^ 8000) : f_law_low [.d (.int a), .d (.int b)] [] = some (.ret (.tup [.int (a / (Nat.gcd a.natAbs b.natAbs : Nat)), .int (b / (Nat.gcd a.natAbs b.natAbs : Nat))]) []) := by
  have hb : b.natAbs < 2 ^ 8000 := by omega
  have eb : ((b.natAbs : Nat) : Int) = b := by omega
  have cg := cf_gcd (a := a.natAbs) (ms := []) hb
  rw [eb] at cg
  have g0 : 0 < Nat.gcd a.natAbs b.natAbs := Nat.gcd_pos_of_pos_right _ (by omega)
  have g1 : Nat.gcd a.natAbs b.natAbs ≤ b.natAbs := Nat.gcd_le_right _ (by omega)
  generalize Nat.gcd a.natAbs b.natAbs = g at *
  have cd : ∀ i : Int, CDivW i (g : Int) := fun i => ⟨by omega, log2_8000 (by omega)⟩
  have nb : ¬ b < 0 := by omega
  refine runDef_ret ?_ rfl (Nat.zero_le _) rfl rfl
  show d_law_low [some (.d (.int a)), some (.d (.int b)), none] [] = _
  unfold d_law_low
  simp only [iff_if]
  simp [tcmp, var, kst, opx, cmpS, nb, seqO, done, asg, call, consA, nilA, absE, map1, absS, cg, tup, Dn.bin, map2, opS, Dn.opI, cd, ret, unD]
theorem cf_low {a b : Int} {ms : Ms} (h0 : 0 < b) (h : b < 2 ^ 8000) : callF f_law_low [.d (.int a), .d (.int b)] ms = some (.v (.d (.tup [.int (a / (Nat.gcd a.natAbs b.natAbs : Nat)), .int (b / (Nat.gcd a.natAbs b.natAbs : Nat))])), ms) := by
  simp [callF, refs, argOk, loc, cellsAt, e_law_low h0 h, setAll]
theorem cf1 {F : FD} {d d' : Dt} {ms : Ms} (h : F [.d d] [] = some (.ret d' [])) : callF F [.d d] ms = some (.v (.d d'), ms) := by
  simp [callF, refs, argOk, loc, cellsAt, h, setAll]
theorem cf2 {F : FD} {d e d' : Dt} {ms : Ms} (h : F [.d d, .d e] [] = some (.ret d' [])) : callF F [.d d, .d e] ms = some (.v (.d d'), ms) := by
  simp [callF, refs, argOk, loc, cellsAt, h, setAll]
theorem cx1 {F : FD} {d : Dt} {x : Xc} {ms : Ms} (h : F [.d d] [] = some (.exc x [])) : callF F [.d d] ms = some (.x x, ms) := by
  simp [callF, refs, argOk, loc, cellsAt, h, setAll]
theorem cx2 {F : FD} {d e : Dt} {x : Xc} {ms : Ms} (h : F [.d d, .d e] [] = some (.exc x [])) : callF F [.d d, .d e] ms = some (.x x, ms) := by
  simp [callF, refs, argOk, loc, cellsAt, h, setAll]
theorem runDef_exc {np N P : Nat} {S : SD} {args : List Sv} {e : Es} {x : Xc} (h : S (args.map some ++ List.replicate (N - np) none) [] = some (.rs x e [])) (h1 : args.length = np) : runDef np N P S args [] = some (.exc x []) := by
  unfold runDef
  rw [if_pos ⟨h1, Nat.zero_le _⟩, h]
  rfl
theorem runDef_nw {np N P : Nat} {S : SD} {args : List Sv} {c c' : Option Cell} {ss : List Sv} (h : S (args.map some ++ List.replicate (N - np) none) [c] = some (.rn 1 [c', some (.l ss)])) (h1 : args.length = np) (h4 : (cellOk c' && ss.all Dn.isD) = true) (hP : 1 ≤ P := by decide) : runDef np N P S args [c] = some (.nw ss [c']) := by
  unfold runDef
  rw [if_pos ⟨h1, hP⟩, h]
  rw [Bool.and_eq_true] at h4
  simp only [List.length_cons, List.length_nil, List.take_succ_cons, List.take_zero, List.all_cons, List.all_nil, h4.1, Bool.and_true]
  simp only [cellL, List.getElem?_cons_succ, List.getElem?_cons_zero]
  simp
  exact List.all_eq_true.mp h4.2
def low (a b : Int) : Dt := .tup [.int (a / (Nat.gcd a.natAbs b.natAbs : Nat)), .int (b / (Nat.gcd a.natAbs b.natAbs : Nat))]
theorem pl_non : plainD .non = true := by simp [plainD]
theorem pl_bl {b : Bool} : plainD (.bl b) = true := by simp [plainD]
theorem pl_int {i : Int} : plainD (.int i) = true := by simp [plainD]
theorem pl_str {s : Str} : plainD (.str s) = true := by simp [plainD]
theorem pl_lst {s : List Dt} : plainD (.lst s) = true := by simp [plainD]
theorem pl_tup {s : List Dt} : plainD (.tup s) = true := by simp [plainD]
theorem runDef_ret0 {np N P : Nat} {S : SD} {args : List Sv} {m : Ms} {d : Dt} (h : S (args.map some ++ List.replicate (N - np) none) [] = some (.rt d m)) (h1 : args.length = np) : runDef np N P S args [] = some (.ret d []) := by
  unfold runDef
  rw [if_pos ⟨h1, Nat.zero_le _⟩, h]
  simp
theorem e_is_integer {d : Dt} (h : plainD d = true) : f_is_integer [.d d] [] = some (.ret (.bl (isI d)) []) := by
  unfold f_is_integer d_is_integer
  rw [← isI_eq]
  cases h1 : isT "int" d <;> simp [runDef, var, opx, map1, notE, notS, andE, isE, isTS, ret, h, h1]
theorem cf_is_integer {d : Dt} {ms : Ms} (h : plainD d = true) : callF f_is_integer [.d d] ms = some (.v (.d (.bl (isI d))), ms) := cf1 (e_is_integer h)
def isP : Dt → Bool
  | .tup ds => ds.length == 2
  | _ => false
theorem e_is_pair {d : Dt} (h : plainD d = true) : f_is_pair [.d d] [] = some (.ret (.bl (isP d)) []) := by
  refine runDef_ret ?_ rfl (Nat.zero_le _) rfl rfl
  show d_is_pair [some (.d d)] [] = _
  unfold d_is_pair
  cases d with
  | tup ds =>
    have e : (decide ((ds.length : Int) = 2)) = (ds.length == 2) := by
      by_cases c : ds.length = 2
      · simp [c]
      · have : ¬ (ds.length : Int) = 2 := by omega
        simp [c, this]
    simp [ret, andE, isE, map1, map2, opx, var, isTS, plainD, isT, cmp, lenE, lenS, seqS, cmpS, kst, isP, e]
  | obj C fs => cases h
  | _ => simp [ret, andE, isE, map1, opx, var, isTS, plainD, isT, isP]
theorem cf_is_pair {d : Dt} {ms : Ms} (h : plainD d = true) : callF f_is_pair [.d d] ms = some (.v (.d (.bl (isP d))), ms) := cf1 (e_is_pair h)
def isF : Dt → Bool
  | .int _ => true
  | .tup [.int _, .int b] => decide (1 ≤ b)
  | _ => false
theorem cf_u_told {s : Str} {ms : Ms} : callF (f_u_told 3) [.d (.str s)] ms = some (.v (.d (.str s)), ms) := by
  refine cf1 ?_
  show runDef 1 3 0 (d_u_told (recDef 1 3 0 d_u_told 2)) [.d (.str s)] [] = _
  refine runDef_ret ?_ rfl (Nat.zero_le _) rfl rfl
  show d_u_told _ [some (.d (.str s)), none, none] [] = _
  unfold d_u_told
  simp [iff_if, tval, isE, map1, opx, var, isTS, plainD, isT, ret, seqO]
theorem cf_lowest {a b : Int} {ms : Ms} (h0 : 0 < b) (h : b < 2 ^ 8000) : callF f_u_lowest [.d (.int a), .d (.int b)] ms = some (.v (.d (low a b)), ms) := by
  have g0 : 0 < Nat.gcd a.natAbs b.natAbs := Nat.gcd_pos_of_pos_right _ (by omega)
  have g1 : Nat.gcd a.natAbs b.natAbs ≤ b.natAbs := Nat.gcd_le_right _ (by omega)
  refine cf2 (runDef_ret ?_ rfl (Nat.zero_le _) rfl rfl)
  show d_u_lowest [some (.d (.int a)), some (.d (.int b)), none] [] = _
  unfold d_u_lowest low
  have e : Int.gcd a b = Nat.gcd a.natAbs b.natAbs := rfl
  rw [← e] at g0 g1 ⊢
  have cd : ∀ i : Int, CDivW i (Int.gcd a b : Int) := fun i => ⟨by omega, log2_8000 (by omega)⟩
  simp [asg, gcdE, map2, gcdS, opx, var, ret, tup, consA, nilA, Dn.bin, opS, Dn.opI, cd, unD]
theorem cf_low' {a b : Int} {ms : Ms} (h0 : 0 < b) (h : b < 2 ^ 8000) : callF f_law_low [.d (.int a), .d (.int b)] ms = some (.v (.d (low a b)), ms) := cf_low h0 h
theorem low_scale {k a b : Int} (hk : 0 < k) (hb : 0 < b) : low (k * a) (k * b) = low a b := by
  unfold low
  have e : Nat.gcd (k * a).natAbs (k * b).natAbs = k.natAbs * Nat.gcd a.natAbs b.natAbs := by rw [Int.natAbs_mul, Int.natAbs_mul, Nat.gcd_mul_left]
  rw [e]
  have ek : ((k.natAbs : Nat) : Int) = k := by omega
  rw [Int.natCast_mul, ek, Int.mul_ediv_mul_of_pos _ _ hk, Int.mul_ediv_mul_of_pos _ _ hk]
theorem low_ex {a b : Int} (ha : a.natAbs < 2 ^ 140) (hb : 0 < b) (hb' : b < 2 ^ 140) : ∃ g n d : Int, 0 < g ∧ a = g * n ∧ b = g * d ∧ low a b = .tup [.int n, .int d] ∧ n.natAbs < 2 ^ 140 ∧ 0 < d ∧ d < 2 ^ 140 := by
  have g0 : 0 < Nat.gcd a.natAbs b.natAbs := Nat.gcd_pos_of_pos_right _ (by omega)
  have da : ((Nat.gcd a.natAbs b.natAbs : Nat) : Int) ∣ a := Int.gcd_dvd_left (a := a) (b := b)
  have db : ((Nat.gcd a.natAbs b.natAbs : Nat) : Int) ∣ b := Int.gcd_dvd_right (a := a) (b := b)
  refine ⟨(Nat.gcd a.natAbs b.natAbs : Nat), a / (Nat.gcd a.natAbs b.natAbs : Nat), b / (Nat.gcd a.natAbs b.natAbs : Nat), by omega, (Int.mul_ediv_cancel' da).symm, (Int.mul_ediv_cancel' db).symm, rfl, ?_, ?_, ?_⟩
  · have := Int.natAbs_ediv_le_natAbs a (Nat.gcd a.natAbs b.natAbs : Nat)
    omega
  · exact Int.ediv_pos_of_pos_of_dvd hb (by omega) db
  · have := Int.ediv_le_self (Nat.gcd a.natAbs b.natAbs : Nat) (Int.le_of_lt hb)
    omega
theorem cm140 {a b : Int} (ha : a.natAbs < 2 ^ 140) (hb : b.natAbs < 2 ^ 140) : CMulW a b := L2.wide_mul (a := 140) (b := 140) ha hb (by decide) (by decide) (by decide)
end k43
namespace k43
/-- the product of f lo, f (lo + 1), .., k of them -/
def prodI (f : Int → Int) : Nat → Int → Int
  | 0, _ => 1
  | k + 1, lo => f lo * prodI f k (lo + 1)
theorem prodI_last (f : Int → Int) : ∀ (k : Nat) (lo : Int), prodI f (k + 1) lo = prodI f k lo * f (lo + k)
  | 0, lo => by simp [prodI]
  | k + 1, lo => by
    rw [prodI, prodI_last f k (lo + 1), prodI, Int.mul_assoc]
    congr 3
    omega
theorem prodI_pos {f : Int → Int} : ∀ (k : Nat) (lo : Int), (∀ i, lo ≤ i → i < lo + k → 0 < f i) → 0 < prodI f k lo
  | 0, lo, _ => by simp [prodI]
  | k + 1, lo, h => by
    rw [prodI]
    exact Int.mul_pos (h lo (by omega) (by omega)) (prodI_pos k (lo + 1) fun i h1 h2 => h i (by omega) (by omega))
theorem prodI_zero {f : Int → Int} : ∀ (k : Nat) (lo i : Int), lo ≤ i → i < lo + k → f i = 0 → prodI f k lo = 0
  | 0, lo, i, h1, h2, _ => by omega
  | k + 1, lo, i, h1, h2, h => by
    rw [prodI]
    by_cases c : i = lo
    · subst c; rw [h, Int.zero_mul]
    · rw [prodI_zero k (lo + 1) i (by omega) (by omega) h, Int.mul_zero]
theorem prodI_shift {f : Int → Int} (t : Int) : ∀ (k : Nat) (lo : Int), prodI (fun i => f (i + t)) k lo = prodI f k (lo + t)
  | 0, lo => rfl
  | k + 1, lo => by
    rw [prodI, prodI, prodI_shift t k (lo + 1), show lo + 1 + t = lo + t + 1 by omega]
theorem low_cross {a b c d : Int} (h : a * d = c * b) (hb : 0 < b) (hd : 0 < d) : low a b = low c d := by
  rw [← low_scale hd hb, ← low_scale (a := c) hb hd, Int.mul_comm d a, h, Int.mul_comm c b, Int.mul_comm d b]
/-- the product of x - 1, .., x - k -/
def under (k : Nat) (x : Int) : Int := prodI (fun i => x - i) k 1
theorem under_s (k : Nat) (x : Int) : under (k + 1) x = under k x * (x - (k + 1)) := by
  unfold under
  rw [prodI_last]
  congr 1
  omega
theorem under_up : ∀ (k : Nat) (x : Int), under k (x + 1) * (x - k) = x * under k x
  | 0, x => by simp [under, prodI]
  | k + 1, x => by
    have h := under_up k x
    rw [under_s, under_s, show x + 1 - ((k : Int) + 1) = x - k by omega, h, show (x - ((k + 1 : Nat) : Int)) = x - ((k : Int) + 1) by omega]
    ac_rfl
/-- a root below the start: the product walked and the closed one -/
theorem walk_under (k : Nat) (s : Int) : ∀ n : Nat, prodI (fun i => i - k) n s * under k (s + n) = prodI (fun i => i) n s * under k s
  | 0 => by simp [prodI]
  | n + 1 => by
    have h := walk_under k s n
    have u := under_up k (s + n)
    rw [prodI_last, prodI_last, show s + ((n + 1 : Nat) : Int) = s + n + 1 by omega]
    calc prodI (fun i => i - k) n s * (s + n - k) * under k (s + n + 1)
        = prodI (fun i => i - k) n s * (under k (s + n + 1) * (s + n - k)) := by ac_rfl
      _ = prodI (fun i => i - k) n s * under k (s + n) * (s + n) := by rw [u]; ac_rfl
      _ = _ := by rw [h]; ac_rfl
/-- the root 1 -/
theorem walk_one (s : Int) : ∀ n : Nat, prodI (fun i => i + 1) n s * s = prodI (fun i => i) n s * (s + n)
  | 0 => by simp [prodI]
  | n + 1 => by
    have h := walk_one s n
    rw [prodI_last, prodI_last, show s + ((n + 1 : Nat) : Int) = s + n + 1 by omega]
    calc prodI (fun i => i + 1) n s * (s + n + 1) * s
        = (prodI (fun i => i + 1) n s * s) * (s + n + 1) := by ac_rfl
      _ = _ := by rw [h]
theorem under_pos {k : Nat} {x : Int} (h : (k : Int) < x) : 0 < under k x := prodI_pos k 1 fun i h1 h2 => by show 0 < x - i; omega
end k43
namespace k43
open PySem (Str)
open Dv Dn
open L2 (CMulW CDivW)
def vals (f : Int → Int) : Nat → Int → List Int
  | 0, _ => []
  | k + 1, lo => f lo :: vals f k (lo + 1)
theorem vals_len (f : Int → Int) : ∀ (k : Nat) (lo : Int), (vals f k lo).length = k
  | 0, _ => rfl
  | k + 1, lo => by rw [vals, List.length_cons, vals_len f k (lo + 1)]
theorem irange_vals : ∀ (k : Nat) (lo : Int), irange lo k = (vals (fun i => i) k lo).map Dt.int
  | 0, lo => rfl
  | k + 1, lo => by rw [irange_s, irange_vals k (lo + 1)]; rfl
theorem pow140 (b : Nat) : (2 : Int) ^ (b + 140) = 2 ^ b * 2 ^ 140 := by rw [Int.pow_add]
theorem mul_nat {a x : Int} {b : Nat} (h : a.natAbs < 2 ^ b) (hx : x.natAbs < 2 ^ 140) : (a * x).natAbs < 2 ^ (b + 140) := L2.wide_lt h hx
theorem prod_go {f : Int → Int} {D : Dt} : ∀ (k : Nat) (lo a : Int) (b : Nat) (o : Option Sv), (∀ i, lo ≤ i → i < lo + k → (f i).natAbs < 2 ^ 140) → a.natAbs < 2 ^ b → 0 < b → b + 140 * k ≤ 9000 →
    (∃ o', forGo (tg1 2) (asg 1 (bin .Mult (var 1) (var 2)) done) ((vals f k lo).map Dt.int) [some (.d D), some (.d (.int a)), o] [] = some (.nx [some (.d D), some (.d (.int (a * prodI f k lo))), o'] [])) ∧ (a * prodI f k lo).natAbs < 2 ^ (b + 140 * k)
  | 0, lo, a, b, o, _, ha, _, _ => ⟨⟨o, by simp [vals, prodI, forGo]⟩, by simpa [prodI] using ha⟩
  | k + 1, lo, a, b, o, hf, ha, hb, hk => by
    have h1 := hf lo (by omega) (by omega)
    obtain ⟨⟨o', g⟩, g2⟩ := prod_go k (lo + 1) (a * f lo) (b + 140) (some (.d (.int (f lo)))) (fun i h1 h2 => hf i (by omega) (by omega)) (mul_nat ha h1) (by omega) (by omega)
    have e : a * prodI f (k + 1) lo = a * f lo * prodI f k (lo + 1) := by rw [prodI, Int.mul_assoc]
    refine ⟨⟨o', ?_⟩, by rw [e]; have : b + 140 * (k + 1) = b + 140 + 140 * k := by omega
                         rw [this]; exact g2⟩
    rw [e, ← g]
    have cm : CMulW a (f lo) := L2.wide_mul (a := b) (b := 140) ha h1 hb (by decide) (by omega)
    refine forGo_nx (by rfl) ?_
    simp [asg, Dn.bin, map2, opx, var, opS, Dn.opI, cm, done]
theorem cf_product {f : Int → Int} {k : Nat} {lo : Int} {ms : Ms} (hf : ∀ i, lo ≤ i → i < lo + k → (f i).natAbs < 2 ^ 140) (hk : k ≤ 50) : callF f_u_product [.d (.lst ((vals f k lo).map Dt.int))] ms = some (.v (.d (.int (prodI f k lo))), ms) := by
  obtain ⟨⟨o', g⟩, _⟩ := prod_go (D := .lst ((vals f k lo).map Dt.int)) k lo 1 1 none hf (by decide) (by decide) (by omega)
  rw [Int.one_mul] at g
  refine cf1 (runDef_ret ?_ rfl (Nat.zero_le _) rfl rfl)
  show d_u_product [some (.d (.lst ((vals f k lo).map Dt.int))), none, none] [] = _
  unfold d_u_product
  simp [asg, kst, forS, itL, opx, var, g, seqO, ret]
theorem prod_lt {f : Int → Int} {k : Nat} {lo : Int} (hf : ∀ i, lo ≤ i → i < lo + k → (f i).natAbs < 2 ^ 140) (hk : k ≤ 50) : (prodI f k lo).natAbs < 2 ^ 8000 := by
  obtain ⟨_, g⟩ := prod_go (D := .non) k lo 1 1 none hf (by decide) (by decide) (by omega)
  rw [Int.one_mul] at g
  exact Nat.lt_of_lt_of_le g (Nat.pow_le_pow_right (by decide) (by omega))
/-- a comprehension over integers -/
theorem lc_vals {f : Int → Int} {i : Nat} {A : ED} {es0 : Es} {ms : Ms} (h : ∀ j : Int, opx A (es0.set i (some (.d (.int j)))) ms = some (.v (.d (.int (f j))), ms)) : ∀ (k : Nat) (lo : Int) (acc : List Sv),
    lcGo (tg1 i) yesT A es0 (irange lo k) acc ms = some (acc ++ (vals f k lo).map (fun j => Sv.d (Dt.int j)), ms)
  | 0, lo, acc => by simp [irange, lcGo, vals]
  | k + 1, lo, acc => by
    rw [irange_s, lcGo]
    have := lc_vals h k (lo + 1) (acc ++ [.d (.int (f lo))])
    simp only [tg1, yesT, h]
    rw [this]
    simp [vals]
end k43
namespace k43
open PySem (Str)
open Dv Dn
open L2 (CMulW CDivW)
theorem cf_is_fraction {a b : Int} {ms : Ms} (h : 0 < b) : callF f_is_fraction [.d (.tup [.int a, .int b])] ms = some (.v (.d (.bl true)), ms) := by
  refine cf1 (runDef_ret ?_ rfl (Nat.zero_le _) rfl rfl)
  show d_is_fraction [some (.d (.tup [.int a, .int b]))] [] = _
  unfold d_is_fraction
  have h' : 1 ≤ b := by omega
  simp [iff_if, tval, call, consA, nilA, opx, var, kst, cf_is_pair, pl_int, pl_tup, isP, ret, andE, cf_is_integer, isI, sub, ixS, L2.atI, L2.ixN, cmp, map2, cmpS, seqO, done, h']
theorem cf_fraction {a b : Int} {ms : Ms} (h : 0 < b) (h9 : b < 2 ^ 8000) : callF f_fraction [.d (.tup [.int a, .int b])] ms = some (.v (.d (low a b)), ms) := by
  have t : callF f_u_terms [.d (.tup [.int a, .int b]), .d (.str "value")] [] = some (.v (.d (.tup [.int a, .int b])), []) := by
    refine cf2 (runDef_ret ?_ rfl (Nat.zero_le _) rfl rfl)
    show d_u_terms [some (.d (.tup [.int a, .int b])), some (.d (.str "value"))] [] = _
    unfold d_u_terms
    simp [iff_if, tnot, tval, call, consA, nilA, opx, var, cf_is_fraction h, cf_is_integer, pl_tup, isI, tup, unD, kst, ret, seqO, done]
  have cl := cf_lowest (a := a) (ms := []) h h9
  refine cf1 (runDef_ret ?_ rfl (Nat.zero_le _) rfl rfl)
  show d_fraction [some (.d (.tup [.int a, .int b])), none, none] [] = _
  unfold d_fraction
  simp [asg2, tg2, call, consA, nilA, opx, var, kst, t, cl, ret]
theorem cf_quotient {a b : Int} {ms : Ms} (h : 0 < b) (h9 : b < 2 ^ 8000) : callF f_quotient [.d (.int a), .d (.int b)] ms = some (.v (.d (low a b)), ms) := by
  have cl := cf_fraction (a := a) (ms := []) h h9
  have nb : ¬ b < 0 := by omega
  refine cf2 (runDef_ret ?_ rfl (Nat.zero_le _) rfl rfl)
  show d_quotient [some (.d (.int a)), some (.d (.int b))] [] = _
  unfold d_quotient
  simp [iff_if, tcmp, opx, var, kst, cmpS, nb, seqO, done, ret, call, consA, nilA, tup, unD, cl]
theorem callF_ret3 {r s n : Int} {d : Dt} {ms : Ms} (h : d_u_factor [some (.d (.int r)), some (.d (.int s)), some (.d (.int n)), none, none, none, none] [] = some (.rt d [])) : callF f_u_factor [.d (.int r), .d (.int s), .d (.int n)] ms = some (.v (.d d), ms) := by
  have : f_u_factor [.d (.int r), .d (.int s), .d (.int n)] [] = some (.ret d []) := runDef_ret h rfl (Nat.zero_le _) rfl rfl
  simp [callF, refs, argOk, loc, cellsAt, this, setAll]
/-- what the program's factor is: topF and bottom -/
def topF (r s n : Int) : Int := if r = 1 then s + n else if s ≤ -r ∧ -r < s + n then 0 else if -r < s then under (-r).toNat s else prodI (fun i => i + r) n.toNat s
def botF (r s n : Int) : Int := if r = 1 then s else if s ≤ -r ∧ -r < s + n then 1 else if -r < s then under (-r).toNat (s + n) else prodI (fun i => i) n.toNat s
theorem u_factor {r s n : Int} {ms : Ms} (hr : -25 ≤ r ∧ r ≤ 1) (hs : 1 ≤ s ∧ s < 2 ^ 138) (hn : 0 ≤ n ∧ n < 2 ^ 138) : callF f_u_factor [.d (.int r), .d (.int s), .d (.int n)] ms = some (.v (.d (low (topF r s n) (botF r s n))), ms) := by
  have key : d_u_factor [some (.d (.int r)), some (.d (.int s)), some (.d (.int n)), none, none, none, none] [] = some (.rt (low (topF r s n) (botF r s n)) []) := by
    unfold d_u_factor topF botF
    by_cases c1 : r = 1
    · subst c1
      have q := cf_quotient (a := s + n) (ms := []) (b := s) (by omega) (by omega)
      simp [iff_if, tcmp, opx, var, kst, cmpS, seqO, ret, call, consA, nilA, Dn.bin, map2, opS, Dn.opI, q]
    rw [if_neg c1, if_neg c1]
    by_cases c2 : s ≤ -r ∧ -r < s + n
    · rw [if_pos c2, if_pos c2]
      have e : low 0 1 = .tup [.int 0, .int 1] := by simp [low]
      rw [e]
      simp [iff_if, tcmp, tchain, chain, opx, var, kst, cmpS, c1, seqO, done, ret, tup, consA, nilA, unD, neg, negS, map1, Dn.bin, map2, opS, Dn.opI, c2.1, c2.2]
    rw [if_neg c2, if_neg c2]
    by_cases c3 : -r < s
    · rw [if_pos c3, if_pos c3]
      have hk : (((-r).toNat : Nat) : Int) = -r := by omega
      have u0 : 0 < under (-r).toNat (s + n) := under_pos (by omega)
      have f3 : ∀ i, 1 ≤ i → i < 1 + ((-r).toNat : Int) → (s - i).natAbs < 2 ^ 140 := fun i _ _ => by omega
      have f4 : ∀ i, 1 ≤ i → i < 1 + ((-r).toNat : Int) → (s + n - i).natAbs < 2 ^ 140 := fun i _ _ => by omega
      have u1 : under (-r).toNat (s + n) < 2 ^ 8000 := by
        have := prod_lt (f := fun i => s + n - i) (k := (-r).toNat) (lo := 1) f4 (by omega)
        unfold under at u0 ⊢
        have e : ((2 ^ 8000 : Nat) : Int) = (2 : Int) ^ 8000 := by rw [Int.natCast_pow]; rfl
        rw [← e]
        omega
      have p3 := cf_product (f := fun i => s - i) (k := (-r).toNat) (lo := 1) (ms := []) f3 (by omega)
      have p4 := cf_product (f := fun i => s + n - i) (k := (-r).toNat) (lo := 1) (ms := []) f4 (by omega)
      have q := cf_quotient (a := under (-r).toNat s) (ms := []) u0 u1
      have J : ∀ o3 o4 o5 o6, itR2 (kst (.int 1)) (bin .Sub (kst (.int 1)) (var 0)) [some (.d (.int r)), some (.d (.int s)), some (.d (.int n)), o3, o4, o5, o6] [] = some (irange 1 (-r).toNat, []) := fun o3 o4 o5 o6 => by
        have e1 : -(2 ^ 62) ≤ (1 : Int) ∧ (1 : Int) < 2 ^ 62 ∧ -(2 ^ 62) ≤ 1 - r ∧ 1 - r < 2 ^ 62 := by omega
        simp only [itR2, kst, opx, Dn.bin, map2, opS, Dn.opI, var, List.getElem?_cons_zero]
        rw [if_pos e1, show (1 - r - 1 : Int) = -r by omega]
      have L3 : ∀ o3 o4 o5 o6, lc (itR2 (kst (.int 1)) (bin .Sub (kst (.int 1)) (var 0))) (tg1 5) [5] yesT (bin .Sub (var 1) (var 5)) [some (.d (.int r)), some (.d (.int s)), some (.d (.int n)), o3, o4, o5, o6] [] = some (.n ((vals (fun i => s - i) (-r).toNat 1).map (fun j => Sv.d (Dt.int j))), []) := fun o3 o4 o5 o6 => by
        unfold lc
        rw [J]
        dsimp only
        rw [if_pos (by rw [irange_len]; omega), lc_vals (f := fun i => s - i) (fun j => by simp [wipeE, opx, Dn.bin, map2, var, opS, Dn.opI])]
        rfl
      have L4 : ∀ o3 o4 o5 o6, lc (itR2 (kst (.int 1)) (bin .Sub (kst (.int 1)) (var 0))) (tg1 5) [5] yesT (bin .Sub (bin .Add (var 1) (var 2)) (var 5)) [some (.d (.int r)), some (.d (.int s)), some (.d (.int n)), o3, o4, o5, o6] [] = some (.n ((vals (fun i => s + n - i) (-r).toNat 1).map (fun j => Sv.d (Dt.int j))), []) := fun o3 o4 o5 o6 => by
        unfold lc
        rw [J]
        dsimp only
        rw [if_pos (by rw [irange_len]; omega), lc_vals (f := fun i => s + n - i) (fun j => by simp [wipeE, opx, Dn.bin, map2, var, opS, Dn.opI])]
        rfl
      have un : ∀ l : List Int, unD (l.map fun j => Sv.d (Dt.int j)) = some (l.map Dt.int) := fun l => by
        have := unD_data (l.map Dt.int)
        rwa [List.map_map] at this
      have t1 : tcmp .Eq (var 0) (kst (.int 1)) [some (.d (.int r)), some (.d (.int s)), some (.d (.int n)), none, none, none, none] [] = some (false, []) := by
        simp [tcmp, opx, var, kst, cmpS, c1]
      have t2 : tchain .LtE .Lt (var 1) (neg (var 0)) (bin .Add (var 1) (var 2)) [some (.d (.int r)), some (.d (.int s)), some (.d (.int n)), none, none, none, none] [] = some (false, []) := by
        have : ¬ s ≤ -r := by omega
        simp [tchain, chain, opx, var, neg, negS, map1, cmpS, this]
      have t3 : tcmp .Lt (neg (var 0)) (var 1) [some (.d (.int r)), some (.d (.int s)), some (.d (.int n)), none, none, none, none] [] = some (true, []) := by
        simp [tcmp, opx, var, neg, negS, map1, cmpS, c3]
      rw [iff_ff t1, iff_ff t2, iff_tt t3]
      unfold under at q
      simp [asg, L3, L4, un, done, seqO, ret, call, consA, nilA, opx, var, p3, p4, q]
      rfl
    · rw [if_neg c3, if_neg c3]
      have hk : ((n.toNat : Nat) : Int) = n := by omega
      have f3 : ∀ i, s ≤ i → i < s + (n.toNat : Int) → (i + r).natAbs < 2 ^ 140 := fun i _ _ => by omega
      have f4 : ∀ i, s ≤ i → i < s + (n.toNat : Int) → i.natAbs < 2 ^ 140 := fun i _ _ => by omega
      have u0 : 0 < prodI (fun i => i) n.toNat s := prodI_pos _ _ fun i _ _ => by omega
      have u1 : prodI (fun i => i) n.toNat s < 2 ^ 8000 := by
        have := prod_lt (f := fun i => i) (k := n.toNat) (lo := s) f4 (by omega)
        have e : ((2 ^ 8000 : Nat) : Int) = (2 : Int) ^ 8000 := by rw [Int.natCast_pow]; rfl
        rw [← e]
        omega
      have p3 := cf_product (f := fun i => i + r) (k := n.toNat) (lo := s) (ms := []) f3 (by omega)
      have p4 := cf_product (f := fun i => i) (k := n.toNat) (lo := s) (ms := []) f4 (by omega)
      have q := cf_quotient (a := prodI (fun i => i + r) n.toNat s) (ms := []) u0 u1
      have e1 : -(2 ^ 62) ≤ s ∧ s < 2 ^ 62 ∧ -(2 ^ 62) ≤ s + n ∧ s + n < 2 ^ 62 := by omega
      have e2 : -(2 ^ 62) ≤ s ∧ s < 2 ^ 62 ∧ -(2 ^ 62) ≤ s + n ∧ s + n < 2 ^ 62 ∧ (s + n - s).toNat ≤ 100000 := by omega
      have L3 : ∀ o3 o4 o5 o6, lc (itR2 (var 1) (bin .Add (var 1) (var 2))) (tg1 6) [6] yesT (bin .Add (var 6) (var 0)) [some (.d (.int r)), some (.d (.int s)), some (.d (.int n)), o3, o4, o5, o6] [] = some (.n ((vals (fun i => i + r) n.toNat s).map (fun j => Sv.d (Dt.int j))), []) := fun o3 o4 o5 o6 => by
        have J : itR2 (var 1) (bin .Add (var 1) (var 2)) [some (.d (.int r)), some (.d (.int s)), some (.d (.int n)), o3, o4, o5, o6] [] = some (irange s n.toNat, []) := by
          simp only [itR2, opx, Dn.bin, map2, opS, Dn.opI, var, List.getElem?_cons_zero, List.getElem?_cons_succ]
          rw [if_pos e1, show (s + n - s : Int) = n by omega]
        unfold lc
        rw [J]
        dsimp only
        rw [if_pos (by rw [irange_len]; omega), lc_vals (f := fun i => i + r) (fun j => by simp [wipeE, opx, Dn.bin, map2, var, opS, Dn.opI])]
        rfl
      have L4 : ∀ o3 o4 o5 o6, listR2 (var 1) (bin .Add (var 1) (var 2)) [some (.d (.int r)), some (.d (.int s)), some (.d (.int n)), o3, o4, o5, o6] [] = some (.n ((vals (fun i => i) n.toNat s).map (fun j => Sv.d (Dt.int j))), []) := fun o3 o4 o5 o6 => by
        simp only [listR2, opx, Dn.bin, map2, opS, Dn.opI, var, List.getElem?_cons_zero, List.getElem?_cons_succ]
        rw [if_pos e2, show (s + n - s : Int) = n by omega, irange_vals, List.map_map]
        rfl
      have un : ∀ l : List Int, unD (l.map fun j => Sv.d (Dt.int j)) = some (l.map Dt.int) := fun l => by
        have := unD_data (l.map Dt.int)
        rwa [List.map_map] at this
      have t1 : tcmp .Eq (var 0) (kst (.int 1)) [some (.d (.int r)), some (.d (.int s)), some (.d (.int n)), none, none, none, none] [] = some (false, []) := by
        simp [tcmp, opx, var, kst, cmpS, c1]
      have t2 : tchain .LtE .Lt (var 1) (neg (var 0)) (bin .Add (var 1) (var 2)) [some (.d (.int r)), some (.d (.int s)), some (.d (.int n)), none, none, none, none] [] = some (false, []) := by
        have h1 : s ≤ -r := by omega
        have h2 : ¬ -r < s + n := by omega
        simp [tchain, chain, opx, var, neg, negS, map1, cmpS, h1, h2, Dn.bin, map2, opS, Dn.opI]
      have t3 : tcmp .Lt (neg (var 0)) (var 1) [some (.d (.int r)), some (.d (.int s)), some (.d (.int n)), none, none, none, none] [] = some (false, []) := by
        simp [tcmp, opx, var, neg, negS, map1, cmpS, c3]
      rw [iff_ff t1, iff_ff t2]
      unfold iff
      rw [t3]
      simp [asg, L3, L4, un, done, seqO, ret, call, consA, nilA, opx, var, p3, p4, q]
  refine callF_ret3 key
end k43
namespace k43
open PySem (Str)
open Dv Dn
open L2 (CMulW CDivW)
theorem bot_pos {r s n : Int} (hs : 1 ≤ s) (hn : 0 ≤ n) : 0 < botF r s n := by
  unfold botF
  split
  · omega
  split
  · decide
  split
  · exact under_pos (by omega)
  · exact prodI_pos _ _ fun i _ _ => by omega
theorem walk_pos {s : Int} (hs : 1 ≤ s) (n : Nat) : 0 < prodI (fun i => i) n s := prodI_pos _ _ fun i _ _ => by omega
theorem walk_eq {r s n : Int} (hr : r ≤ 1) (hs : 1 ≤ s) (hn : 0 ≤ n) : prodI (fun i => i + r) n.toNat s * botF r s n = topF r s n * prodI (fun i => i) n.toNat s := by
  have hk : ((n.toNat : Nat) : Int) = n := by omega
  unfold topF botF
  by_cases c1 : r = 1
  · subst c1
    have := walk_one s n.toNat
    rw [hk] at this
    rw [if_pos rfl, if_pos rfl, this, Int.mul_comm]
  rw [if_neg c1, if_neg c1]
  by_cases c2 : s ≤ -r ∧ -r < s + n
  · rw [if_pos c2, if_pos c2, prodI_zero n.toNat s (-r) c2.1 (by omega) (by omega)]
    omega
  rw [if_neg c2, if_neg c2]
  by_cases c3 : -r < s
  · rw [if_pos c3, if_pos c3]
    have h := walk_under (-r).toNat s n.toNat
    have hr' : (((-r).toNat : Nat) : Int) = -r := by omega
    rw [hk] at h
    have e : (fun i : Int => i - (((-r).toNat : Nat) : Int)) = fun i => i + r := by funext i; omega
    rw [e] at h
    rw [h, Int.mul_comm]
  · rw [if_neg c3, if_neg c3]
theorem low_walk {r s n : Int} (hr : r ≤ 1) (hs : 1 ≤ s) (hn : 0 ≤ n) : low (prodI (fun i => i + r) n.toNat s) (prodI (fun i => i) n.toNat s) = low (topF r s n) (botF r s n) :=
  low_cross (walk_eq hr hs hn) (walk_pos hs _) (bot_pos hs hn)
theorem step_eq {r s n : Int} (hr : r ≤ 1) (hs : 1 ≤ s) (hn : 0 ≤ n) : topF r s (n + 1) * (botF r s n * (s + n)) = topF r s n * (s + n + r) * botF r s (n + 1) := by
  have h0 := walk_eq hr hs hn
  have h1 := walk_eq (n := n + 1) hr hs (by omega)
  have e : (n + 1).toNat = n.toNat + 1 := by omega
  have hk : ((n.toNat : Nat) : Int) = n := by omega
  have wp := walk_pos hs n.toNat
  rw [e, prodI_last, prodI_last, hk] at h1
  generalize prodI (fun i => i + r) n.toNat s = N at *
  generalize prodI (fun i => i) n.toNat s = D at *
  generalize topF r s (n + 1) = T' at *
  generalize botF r s (n + 1) = B' at *
  generalize topF r s n = T at *
  generalize botF r s n = B at *
  have k : D * (T' * (B * (s + n))) = D * (T * (s + n + r) * B') := by
    calc D * (T' * (B * (s + n))) = T' * (D * (s + n)) * B := by ac_rfl
      _ = N * (s + n + r) * B' * B := by rw [← h1]
      _ = N * B * (s + n + r) * B' := by ac_rfl
      _ = _ := by rw [h0]; ac_rfl
  exact Int.eq_of_mul_eq_mul_left (by omega) k
theorem low_step {r s n : Int} (hr : r ≤ 1) (hs : 1 ≤ s) (hn : 0 ≤ n) : low (topF r s (n + 1)) (botF r s (n + 1)) = low (topF r s n * (s + n + r)) (botF r s n * (s + n)) :=
  low_cross (step_eq hr hs hn) (bot_pos hs (by omega)) (Int.mul_pos (bot_pos hs hn) (by omega))
end k43
namespace k43
open PySem (Str)
open Dv Dn
open L2 (CMulW CDivW)
def within (lo hi : Int) : Dt → Bool
  | .int i => decide (lo ≤ i) && decide (i ≤ hi)
  | _ => false
theorem cf_within {v : Dt} {lo hi : Int} {ms : Ms} (h : plainD v = true) : callF f_is_integer_within [.d v, .d (.int lo), .d (.int hi)] ms = some (.v (.d (.bl (within lo hi v))), ms) := by
  have key : d_is_integer_within [some (.d v), some (.d (.int lo)), some (.d (.int hi))] [] = some (.rt (.bl (within lo hi v)) []) := by
    unfold d_is_integer_within
    have ci := cf_is_integer (ms := []) h
    cases v with
    | int i =>
      by_cases c : lo ≤ i
      · simp [ret, andE, opx, call, consA, nilA, var, ci, isI, chain, cmpS, within, c]
      · simp [ret, andE, opx, call, consA, nilA, var, ci, isI, chain, cmpS, within, c]
    | obj C fs => cases h
    | _ => simp [ret, andE, opx, call, consA, nilA, var, ci, isI, within]
  have : f_is_integer_within [.d v, .d (.int lo), .d (.int hi)] [] = some (.ret (.bl (within lo hi v)) []) := runDef_ret key rfl (Nat.zero_le _) rfl rfl
  simp [callF, refs, argOk, loc, cellsAt, this, setAll]
theorem msg_root : msgOk m_InvalidBound [.str "root"] = true := by decide +kernel
theorem msg_start : msgOk m_InvalidBound [.str "start"] = true := by decide +kernel
theorem msg_n : msgOk m_InvalidBound [.str "n"] = true := by decide +kernel
def bound (nm : Str) : Xc := ⟨"InvalidBound", [("name", .str nm)]⟩
theorem cx3 {F : FD} {d e f : Dt} {x : Xc} {ms : Ms} (h : F [.d d, .d e, .d f] [] = some (.exc x [])) : callF F [.d d, .d e, .d f] ms = some (.x x, ms) := by
  simp [callF, refs, argOk, loc, cellsAt, h, setAll]
theorem cf3 {F : FD} {d e f d' : Dt} {ms : Ms} (h : F [.d d, .d e, .d f] [] = some (.ret d' [])) : callF F [.d d, .d e, .d f] ms = some (.v (.d d'), ms) := by
  simp [callF, refs, argOk, loc, cellsAt, h, setAll]
theorem x_root {v s n : Dt} {ms : Ms} (hv : plainD v = true) (h : within (-25) 1 v = false) : callF f_factor [.d v, .d s, .d n] ms = some (.x (bound "root"), ms) := by
  have c := cf_within (lo := -25) (hi := 1) (ms := []) hv
  refine cx3 (runDef_exc (e := [some (.d v), some (.d s), some (.d n)]) ?_ rfl)
  show d_factor [some (.d v), some (.d s), some (.d n)] [] = _
  unfold d_factor
  simp [iff_if, tnot, tval, opx, call, consA, nilA, var, glob, kst, c, h, raiseS, unD, msg_root, seqO, bound]
theorem x_start {v s n : Dt} {ms : Ms} (hv : plainD v = true) (h : within (-25) 1 v = true) (hs : plainD s = true) (h2 : isI s = false ∨ ∃ i, s = .int i ∧ i < 1) : callF f_factor [.d v, .d s, .d n] ms = some (.x (bound "start"), ms) := by
  have c := cf_within (lo := -25) (hi := 1) (ms := []) hv
  have ci := cf_is_integer (ms := []) hs
  refine cx3 (runDef_exc (e := [some (.d v), some (.d s), some (.d n)]) ?_ rfl)
  show d_factor [some (.d v), some (.d s), some (.d n)] [] = _
  unfold d_factor
  rcases h2 with h2 | ⟨i, rfl, h2⟩
  · simp [iff_if, tnot, tval, tor_if, opx, call, consA, nilA, var, glob, kst, c, h, ci, h2, raiseS, unD, msg_start, seqO, done, bound]
  · simp [iff_if, tnot, tval, tor_if, tcmp, cmpS, opx, call, consA, nilA, var, glob, kst, c, h, ci, h2, isI, raiseS, unD, msg_start, seqO, done, bound]
theorem x_comings {n : Dt} {ms : Ms} (hn : plainD n = true) (h : within 0 10000000000000000000000000000000000000000 n = false) : callF f_check_comings [.d n, .d (.int 10000000000000000000000000000000000000000)] ms = some (.x (bound "n"), ms) := by
  have c := cf_within (lo := 0) (hi := 10000000000000000000000000000000000000000) (ms := []) hn
  refine cx2 (runDef_exc (e := [some (.d n), some (.d (.int 10000000000000000000000000000000000000000))]) ?_ rfl)
  show d_check_comings [some (.d n), some (.d (.int 10000000000000000000000000000000000000000))] [] = _
  unfold d_check_comings
  simp [iff_if, tnot, tval, opx, call, consA, nilA, var, kst, c, h, raiseS, unD, msg_n, seqO, bound]
theorem g_comings {n : Dt} {ms : Ms} (hn : plainD n = true) (h : within 0 10000000000000000000000000000000000000000 n = true) : callF f_check_comings [.d n, .d (.int 10000000000000000000000000000000000000000)] ms = some (.v (.d .non), ms) := by
  have c := cf_within (lo := 0) (hi := 10000000000000000000000000000000000000000) (ms := []) hn
  have key : d_check_comings [some (.d n), some (.d (.int 10000000000000000000000000000000000000000))] [] = some (.nx [some (.d n), some (.d (.int 10000000000000000000000000000000000000000))] []) := by
    unfold d_check_comings
    simp [iff_if, tnot, tval, opx, call, consA, nilA, var, kst, c, h, seqO, done]
  refine cf2 ?_
  unfold f_check_comings runDef
  rw [if_pos ⟨rfl, Nat.zero_le _⟩]
  simp [key]
theorem x_n {v n : Dt} {s : Int} {ms : Ms} (hv : plainD v = true) (h : within (-25) 1 v = true) (hs : 1 ≤ s) (hn : plainD n = true) (h3 : within 0 10000000000000000000000000000000000000000 n = false) : callF f_factor [.d v, .d (.int s), .d n] ms = some (.x (bound "n"), ms) := by
  have c := cf_within (lo := -25) (hi := 1) (ms := []) hv
  have ci := cf_is_integer (d := .int s) (ms := []) rfl
  have cx := x_comings (ms := []) hn h3
  have ns : ¬ s < 1 := by omega
  refine cx3 (runDef_exc (e := [some (.d v), some (.d (.int s)), some (.d n)]) ?_ rfl)
  show d_factor [some (.d v), some (.d (.int s)), some (.d n)] [] = _
  unfold d_factor
  simp [iff_if, tnot, tval, tor_if, tcmp, cmpS, opx, call, consA, nilA, var, glob, kst, c, h, ci, isI, ns, seqO, done, exprS, cx]
theorem g_factor {r s n : Int} {ms : Ms} (hr : -25 ≤ r ∧ r ≤ 1) (hs : 1 ≤ s ∧ s < 2 ^ 138) (hn : 0 ≤ n ∧ n ≤ 10000000000000000000000000000000000000000) : callF f_factor [.d (.int r), .d (.int s), .d (.int n)] ms = some (.v (.d (low (topF r s n) (botF r s n))), ms) := by
  have c := cf_within (v := .int r) (lo := -25) (hi := 1) (ms := []) rfl
  have ci := cf_is_integer (d := .int s) (ms := []) rfl
  have cg := g_comings (n := .int n) (ms := []) rfl (by simp [within, hn.1, hn.2])
  have cu := u_factor (ms := []) hr hs ⟨hn.1, by omega⟩
  have ns : ¬ s < 1 := by omega
  have hw : within (-25) 1 (.int r) = true := by simp [within, hr.1, hr.2]
  refine cf3 (runDef_ret ?_ rfl (Nat.zero_le _) rfl rfl)
  show d_factor [some (.d (.int r)), some (.d (.int s)), some (.d (.int n))] [] = _
  unfold d_factor
  simp [iff_if, tnot, tval, tor_if, tcmp, cmpS, opx, call, consA, nilA, var, glob, kst, c, hw, ci, isI, ns, seqO, done, exprS, cg, ret, cu]
end k43
namespace k43
open PySem (Str)
open Dv Dn
open L2 (CMulW CDivW)
def BadIx (many : Int) (v : Dt) : Prop := (∃ i, v = .int i ∧ (i < 0 ∨ many < i)) ∨ (isI v = false ∧ plainD v = true)
theorem e_law_index {scr : List Int} {r : Rng} {many : Int} (ok : Ok scr r) (h0 : 0 ≤ many) (h9 : many < 100) : ∃ v b r', f_law_index [.m 0, .d (.int many)] [stC scr r] = some (.nw [.d v, .d (.bl b)] [stC scr r']) ∧ Ok scr r' ∧ ((b = true ∧ ∃ i, v = .int i ∧ 0 ≤ i ∧ i ≤ many) ∨ (b = false ∧ BadIx many v)) := by
  have p1 := ok.pull (many := 3) (by decide)
  have c1 := cf_pull (ms := []) ok (many := 3) (by decide) (by decide)
  have lg : (many + 1).natAbs.log2 < 9000 := Nat.lt_of_le_of_lt (Nat.log2_le_self _) (by omega)
  have p2 := p1.1.pull (many := many + 1) (by omega)
  have c2 := cf_pull (ms := []) p1.1 (many := many + 1) (by omega) lg
  have p3 := p1.1.pull (many := 9) (by decide)
  have c3 := cf_pull (ms := []) p1.1 (many := 9) (by decide) (by decide)
  generalize (pull scr r 3).2 = r1 at *
  generalize (pull scr r 3).1 = a at *
  have w1 : L2.CPow 10 39 := ⟨by decide, by decide, by decide⟩
  have main : ∃ v b r', d_law_index [some (.m 0), some (.d (.int many)), none] [stC scr r] = some (.rn 1 [stC scr r', some (.l [.d v, .d (.bl b)])]) ∧ Ok scr r' ∧ ((b = true ∧ ∃ i, v = .int i ∧ 0 ≤ i ∧ i ≤ many) ∨ (b = false ∧ BadIx many v)) := by
    unfold d_law_index
    by_cases q1 : 0 < a
    · refine ⟨.int (pull scr r1 (many + 1)).1, true, (pull scr r1 (many + 1)).2, ?_, p2.1, .inl ⟨rfl, _, rfl, p2.2.1, by omega⟩⟩
      simp [iff_if, tcmp, call, consA, nilA, opx, var, kst, c1, cmpS, q1, seqO, lst, Dn.bin, map2, opS, Dn.opI, c2, ret]
    · have q3 := p3.2
      generalize (pull scr r1 9).2 = r2 at *
      generalize (pull scr r1 9).1 = p at *
      have q4 : p = 0 ∨ p = 1 ∨ p = 2 ∨ p = 3 ∨ p = 4 ∨ p = 5 ∨ p = 6 ∨ p = 7 ∨ p = 8 := by omega
      rcases q4 with rfl | rfl | rfl | rfl | rfl | rfl | rfl | rfl | rfl
      · exact ⟨.int (-1), false, r2, by simp [iff_if, tcmp, call, consA, nilA, opx, var, kst, c1, cmpS, q1, seqO, done, lst, tup, Dn.bin, neg, negS, map1, map2, opS, Dn.opI, w1, unD, asg, c3, sub, ixS, L2.atI, L2.ixN, ret], p3.1, .inr ⟨rfl, .inl ⟨_, rfl, by omega⟩⟩⟩
      · exact ⟨.int (many + 1), false, r2, by simp [iff_if, tcmp, call, consA, nilA, opx, var, kst, c1, cmpS, q1, seqO, done, lst, tup, Dn.bin, neg, negS, map1, map2, opS, Dn.opI, w1, unD, asg, c3, sub, ixS, L2.atI, L2.ixN, ret], p3.1, .inr ⟨rfl, .inl ⟨_, rfl, by omega⟩⟩⟩
      · exact ⟨.bl true, false, r2, by simp [iff_if, tcmp, call, consA, nilA, opx, var, kst, c1, cmpS, q1, seqO, done, lst, tup, Dn.bin, neg, negS, map1, map2, opS, Dn.opI, w1, unD, asg, c3, sub, ixS, L2.atI, L2.ixN, ret], p3.1, .inr ⟨rfl, .inr ⟨rfl, rfl⟩⟩⟩
      · exact ⟨.bl false, false, r2, by simp [iff_if, tcmp, call, consA, nilA, opx, var, kst, c1, cmpS, q1, seqO, done, lst, tup, Dn.bin, neg, negS, map1, map2, opS, Dn.opI, w1, unD, asg, c3, sub, ixS, L2.atI, L2.ixN, ret], p3.1, .inr ⟨rfl, .inr ⟨rfl, rfl⟩⟩⟩
      · exact ⟨.non, false, r2, by simp [iff_if, tcmp, call, consA, nilA, opx, var, kst, c1, cmpS, q1, seqO, done, lst, tup, Dn.bin, neg, negS, map1, map2, opS, Dn.opI, w1, unD, asg, c3, sub, ixS, L2.atI, L2.ixN, ret], p3.1, .inr ⟨rfl, .inr ⟨rfl, rfl⟩⟩⟩
      · exact ⟨.str "0", false, r2, by simp [iff_if, tcmp, call, consA, nilA, opx, var, kst, c1, cmpS, q1, seqO, done, lst, tup, Dn.bin, neg, negS, map1, map2, opS, Dn.opI, w1, unD, asg, c3, sub, ixS, L2.atI, L2.ixN, ret], p3.1, .inr ⟨rfl, .inr ⟨rfl, rfl⟩⟩⟩
      · exact ⟨.tup [.int 0, .int 1], false, r2, by simp [iff_if, tcmp, call, consA, nilA, opx, var, kst, c1, cmpS, q1, seqO, done, lst, tup, Dn.bin, neg, negS, map1, map2, opS, Dn.opI, w1, unD, asg, c3, sub, ixS, L2.atI, L2.ixN, ret], p3.1, .inr ⟨rfl, .inr ⟨rfl, rfl⟩⟩⟩
      · exact ⟨.lst [.int 0], false, r2, by simp [iff_if, tcmp, call, consA, nilA, opx, var, kst, c1, cmpS, q1, seqO, done, lst, tup, Dn.bin, neg, negS, map1, map2, opS, Dn.opI, w1, unD, asg, c3, sub, ixS, L2.atI, L2.ixN, ret], p3.1, .inr ⟨rfl, .inr ⟨rfl, rfl⟩⟩⟩
      · exact ⟨.int (1000000000000000000000000000000000000000 + many), false, r2, by simp [iff_if, tcmp, call, consA, nilA, opx, var, kst, c1, cmpS, q1, seqO, done, lst, tup, Dn.bin, neg, negS, map1, map2, opS, Dn.opI, w1, unD, asg, c3, sub, ixS, L2.atI, L2.ixN, ret], p3.1, .inr ⟨rfl, .inl ⟨_, rfl, by omega⟩⟩⟩
  obtain ⟨v, b, r', h, h1, h2⟩ := main
  exact ⟨v, b, r', runDef_nw h rfl rfl, h1, h2⟩
end k43
namespace k43
open PySem (Str)
open Dv Dn
open L2 (CMulW CDivW)
theorem cn_index {scr : List Int} {r r' : Rng} {many : Int} {v w : Dt} (h : f_law_index [.m 0, .d (.int many)] [stC scr r] = some (.nw [.d v, .d w] [stC scr r'])) : callF f_law_index [.m 0, .d (.int many)] [stC scr r] = some (.n [.d v, .d w], [stC scr r']) := by
  simp [callF, refs, argOk, loc, cellsAt, st_isD, h, setAll]
theorem cf_law_is_int {d : Dt} {ms : Ms} (h : plainD d = true) : callF f_law_is_int [.d d] ms = some (.v (.d (.bl (isI d))), ms) := cf1 (e_law_is_int h)
def S1 (k : SD) : SD := asg 2 (call f_law_index (consA (var 1) (consA (kst (.int 26)) nilA))) 
  (asg 3 (sub (var 2) (kst (.int 0))) 
  (iff (tval (sub (var 2) (kst (.int 1)))) (asg 3 (bin .Sub (var 3) (kst (.int 25))) done) (iff (tval (call f_law_is_int (consA (var 3) nilA))) (asg 3 (sub (lst (consA (kst (.int 2)) (consA (neg (kst (.int 26))) (consA (bin .Pow (kst (.int 10)) (kst (.int 39))) nilA)))) (call f_law_pull (consA (var 1) (consA (kst (.int 3)) nilA)))) done) done done) k))
theorem step1 {scr : List Int} {r : Rng} {s : Dt} {t : Es} (ok : Ok scr r) : ∃ vi b v r1, Ok scr r1 ∧ plainD v = true ∧ ((b = true ∧ ∃ i, v = .int i ∧ -25 ≤ i ∧ i ≤ 1) ∨ (b = false ∧ within (-25) 1 v = false)) ∧ ∀ k, S1 k (some (.d s) :: some (.m 0) :: none :: none :: t) [stC scr r] = k (some (.d s) :: some (.m 0) :: some (.d (.lst [vi, .bl b])) :: some (.d v) :: t) [stC scr r1] := by
  obtain ⟨v, b, r1, h, ok1, hv⟩ := e_law_index ok (many := 26) (by decide) (by decide)
  have ci := cn_index h
  have p3 := ok1.pull (many := 3) (by decide)
  have c3 := cf_pull (ms := []) ok1 (many := 3) (by decide) (by decide)
  have w1 : L2.CPow 10 39 := ⟨by decide, by decide, by decide⟩
  unfold S1
  rcases hv with ⟨rfl, i, rfl, h0, h1⟩ | ⟨rfl, hb⟩
  · refine ⟨.int i, true, .int (i - 25), r1, ok1, rfl, .inl ⟨rfl, _, rfl, by omega, by omega⟩, fun k => ?_⟩
    simp [asg, call, consA, nilA, opx, var, kst, ci, unD, sub, ixS, L2.atI, L2.ixN, iff_if, tval, Dn.bin, map2, opS, Dn.opI, seqO, done]
  rcases hb with ⟨i, rfl, hi⟩ | ⟨h1, h2⟩
  · have q3 := p3.2
    have cl := cf_law_is_int (d := .int i) (ms := [stC scr r1]) rfl
    generalize (pull scr r1 3).2 = r2 at *
    generalize (pull scr r1 3).1 = p at *
    have q4 : p = 0 ∨ p = 1 ∨ p = 2 := by omega
    rcases q4 with rfl | rfl | rfl
    · refine ⟨.int i, false, .int 2, r2, p3.1, rfl, .inr ⟨rfl, rfl⟩, fun k => ?_⟩
      simp [asg, call, consA, nilA, opx, var, kst, ci, unD, sub, ixS, L2.atI, L2.ixN, iff_if, tval, Dn.bin, map1, map2, opS, Dn.opI, seqO, done, cl, isI, lst, neg, negS, w1, c3]
    · refine ⟨.int i, false, .int (-26), r2, p3.1, rfl, .inr ⟨rfl, rfl⟩, fun k => ?_⟩
      simp [asg, call, consA, nilA, opx, var, kst, ci, unD, sub, ixS, L2.atI, L2.ixN, iff_if, tval, Dn.bin, map1, map2, opS, Dn.opI, seqO, done, cl, isI, lst, neg, negS, w1, c3]
    · refine ⟨.int i, false, .int 1000000000000000000000000000000000000000, r2, p3.1, rfl, .inr ⟨rfl, rfl⟩, fun k => ?_⟩
      simp [asg, call, consA, nilA, opx, var, kst, ci, unD, sub, ixS, L2.atI, L2.ixN, iff_if, tval, Dn.bin, map1, map2, opS, Dn.opI, seqO, done, cl, isI, lst, neg, negS, w1, c3]
  · have cl := cf_law_is_int (d := v) (ms := [stC scr r1]) h2
    have hw : within (-25) 1 v = false := by cases v <;> first | rfl | (simp [isI] at h1)
    refine ⟨v, false, v, r1, ok1, h2, .inr ⟨rfl, hw⟩, fun k => ?_⟩
    simp [asg, call, consA, nilA, opx, var, kst, ci, unD, sub, ixS, L2.atI, L2.ixN, iff_if, tval, Dn.bin, map1, map2, opS, Dn.opI, seqO, done, cl, h1]
def S2 (k : SD) : SD := asg 4 (bin .Add (kst (.int 1)) (call f_law_pull (consA (var 1) (consA (kst (.int 30)) nilA)))) 
  (iff (tcmp .Eq (call f_law_pull (consA (var 1) (consA (kst (.int 4)) nilA))) (kst (.int 0))) (asg 4 (bin .Add (kst (.int 1)) (call f_law_big (consA (var 1) (consA (bin .Pow (kst (.int 10)) (kst (.int 39))) nilA)))) done) done 
  (asg 5 (call f_law_pull (consA (var 1) (consA (kst (.int 6)) nilA))) 
  (iff (tcmp .Eq (var 5) (kst (.int 0))) (asg 4 (sub (lst (consA (kst (.int 0)) (consA (kst (.bl true)) (consA (neg (kst (.int 1))) (consA (kst .non) (consA (tup (consA (kst (.int 1)) (consA (kst (.int 1)) nilA))) nilA)))))) (call f_law_pull (consA (var 1) (consA (kst (.int 5)) nilA)))) done) done k)))
theorem step2a {scr : List Int} {r : Rng} {s x2 x3 : Dt} {t : Es} (ok : Ok scr r) : ∃ (i : Int) (r1 : Rng), Ok scr r1 ∧ 1 ≤ i ∧ i ≤ 1000000000000000000000000000000000000000 ∧ ∀ k, asg 4 (bin .Add (kst (.int 1)) (call f_law_pull (consA (var 1) (consA (kst (.int 30)) nilA)))) 
  (iff (tcmp .Eq (call f_law_pull (consA (var 1) (consA (kst (.int 4)) nilA))) (kst (.int 0))) (asg 4 (bin .Add (kst (.int 1)) (call f_law_big (consA (var 1) (consA (bin .Pow (kst (.int 10)) (kst (.int 39))) nilA)))) done) done k) (some (.d s) :: some (.m 0) :: some (.d x2) :: some (.d x3) :: none :: t) [stC scr r] = k (some (.d s) :: some (.m 0) :: some (.d x2) :: some (.d x3) :: some (.d (.int i)) :: t) [stC scr r1] := by
  have p1 := ok.pull (many := 30) (by decide)
  have c1 := cf_pull (ms := []) ok (many := 30) (by decide) (by decide)
  have p2 := p1.1.pull (many := 4) (by decide)
  have c2 := cf_pull (ms := []) p1.1 (many := 4) (by decide) (by decide)
  have p3 := big_ok p2.1 (many := 1000000000000000000000000000000000000000) (by decide)
  have c3 := cf_big (ms := []) p2.1 (many := 1000000000000000000000000000000000000000) (by decide) (by decide +kernel)
  have w1 : L2.CPow 10 39 := ⟨by decide, by decide, by decide⟩
  by_cases c : (pull scr (pull scr r 30).2 4).1 = 0
  · refine ⟨1 + (big scr (pull scr (pull scr r 30).2 4).2 1000000000000000000000000000000000000000).1, _, p3.1, ?_, ?_, fun k => ?_⟩
    rotate_left 2
    · simp [asg, call, consA, nilA, opx, var, kst, c1, c2, c, Dn.bin, map2, opS, Dn.opI, iff_if, tcmp, cmpS, w1, c3, seqO, done]
    · have := p3.2.1; omega
    · have := p3.2.2; omega
  · refine ⟨1 + (pull scr r 30).1, _, p2.1, ?_, ?_, fun k => ?_⟩
    · have := p1.2.1; omega
    · have := p1.2.2; omega
    · simp [asg, call, consA, nilA, opx, var, kst, c1, c2, c, Dn.bin, map2, opS, Dn.opI, iff_if, tcmp, cmpS, seqO, done]
end k43
namespace k43
open PySem (Str)
open Dv Dn
open L2 (CMulW CDivW)
/-- a start that is refused -/
def badStart (d : Dt) : Prop := plainD d = true ∧ (isI d = false ∨ ∃ i, d = .int i ∧ i < 1)
theorem step2b {scr : List Int} {r : Rng} {s x2 x3 : Dt} {i : Int} {t : Es} (ok : Ok scr r) : ∃ (v : Dt) (five : Int) (r1 : Rng), Ok scr r1 ∧ ((five = 0 ∧ badStart v) ∨ (five ≠ 0 ∧ v = .int i)) ∧ ∀ k, asg 5 (call f_law_pull (consA (var 1) (consA (kst (.int 6)) nilA))) 
  (iff (tcmp .Eq (var 5) (kst (.int 0))) (asg 4 (sub (lst (consA (kst (.int 0)) (consA (kst (.bl true)) (consA (neg (kst (.int 1))) (consA (kst .non) (consA (tup (consA (kst (.int 1)) (consA (kst (.int 1)) nilA))) nilA)))))) (call f_law_pull (consA (var 1) (consA (kst (.int 5)) nilA)))) done) done k) (some (.d s) :: some (.m 0) :: some (.d x2) :: some (.d x3) :: some (.d (.int i)) :: none :: t) [stC scr r] = k (some (.d s) :: some (.m 0) :: some (.d x2) :: some (.d x3) :: some (.d v) :: some (.d (.int five)) :: t) [stC scr r1] := by
  have p1 := ok.pull (many := 6) (by decide)
  have c1 := cf_pull (ms := []) ok (many := 6) (by decide) (by decide)
  have p2 := p1.1.pull (many := 5) (by decide)
  have c2 := cf_pull (ms := []) p1.1 (many := 5) (by decide) (by decide)
  generalize (pull scr r 6).2 = r1 at *
  generalize (pull scr r 6).1 = a at *
  by_cases c : a = 0
  · subst c
    have q3 := p2.2
    generalize (pull scr r1 5).2 = r2 at *
    generalize (pull scr r1 5).1 = p at *
    have q4 : p = 0 ∨ p = 1 ∨ p = 2 ∨ p = 3 ∨ p = 4 := by omega
    rcases q4 with rfl | rfl | rfl | rfl | rfl
    · refine ⟨.int 0, 0, r2, p2.1, .inl ⟨rfl, rfl, .inr ⟨_, rfl, by decide⟩⟩, fun k => ?_⟩
      simp [asg, call, consA, nilA, opx, var, kst, c1, c2, iff_if, tcmp, cmpS, sub, lst, tup, neg, negS, map1, unD, ixS, L2.atI, L2.ixN, seqO, done]
    · refine ⟨.bl true, 0, r2, p2.1, .inl ⟨rfl, rfl, .inl rfl⟩, fun k => ?_⟩
      simp [asg, call, consA, nilA, opx, var, kst, c1, c2, iff_if, tcmp, cmpS, sub, lst, tup, neg, negS, map1, unD, ixS, L2.atI, L2.ixN, seqO, done]
    · refine ⟨.int (-1), 0, r2, p2.1, .inl ⟨rfl, rfl, .inr ⟨_, rfl, by decide⟩⟩, fun k => ?_⟩
      simp [asg, call, consA, nilA, opx, var, kst, c1, c2, iff_if, tcmp, cmpS, sub, lst, tup, neg, negS, map1, unD, ixS, L2.atI, L2.ixN, seqO, done]
    · refine ⟨.non, 0, r2, p2.1, .inl ⟨rfl, rfl, .inl rfl⟩, fun k => ?_⟩
      simp [asg, call, consA, nilA, opx, var, kst, c1, c2, iff_if, tcmp, cmpS, sub, lst, tup, neg, negS, map1, unD, ixS, L2.atI, L2.ixN, seqO, done]
    · refine ⟨.tup [.int 1, .int 1], 0, r2, p2.1, .inl ⟨rfl, rfl, .inl rfl⟩, fun k => ?_⟩
      simp [asg, call, consA, nilA, opx, var, kst, c1, c2, iff_if, tcmp, cmpS, sub, lst, tup, neg, negS, map1, unD, ixS, L2.atI, L2.ixN, seqO, done]
  · refine ⟨.int i, a, r1, p1.1, .inr ⟨c, rfl⟩, fun k => ?_⟩
    simp [asg, call, consA, nilA, opx, var, kst, c1, iff_if, tcmp, cmpS, c, seqO, done]
theorem step3 {scr : List Int} {r : Rng} {s x2 x3 x4 x5 : Dt} {t : Es} (ok : Ok scr r) : ∃ vi b v r1, Ok scr r1 ∧ plainD v = true ∧ ((b = true ∧ ∃ i, v = .int i ∧ 0 ≤ i ∧ i ≤ 40) ∨ (b = false ∧ within 0 10000000000000000000000000000000000000000 v = false)) ∧ ∀ k, asg 6 (call f_law_index (consA (var 1) (consA (kst (.int 40)) nilA))) 
  (asg 7 (sub (var 6) (kst (.int 0))) 
  (iff (tand (tnot (tval (sub (var 6) (kst (.int 1))))) (tval (call f_law_is_int (consA (var 7) nilA)))) (asg 7 (sub (lst (consA (neg (kst (.int 1))) (consA (bin .Add (bin .Pow (kst (.int 10)) (kst (.int 40))) (kst (.int 1))) nilA))) (call f_law_pull (consA (var 1) (consA (kst (.int 2)) nilA)))) done) done k)) (some (.d s) :: some (.m 0) :: some (.d x2) :: some (.d x3) :: some (.d x4) :: some (.d x5) :: none :: none :: t) [stC scr r] = k (some (.d s) :: some (.m 0) :: some (.d x2) :: some (.d x3) :: some (.d x4) :: some (.d x5) :: some (.d (.lst [vi, .bl b])) :: some (.d v) :: t) [stC scr r1] := by
  obtain ⟨v, b, r1, h, ok1, hv⟩ := e_law_index ok (many := 40) (by decide) (by decide)
  have ci := cn_index h
  have p3 := ok1.pull (many := 2) (by decide)
  have c3 := cf_pull (ms := []) ok1 (many := 2) (by decide) (by decide)
  have w1 : L2.CPow 10 40 := ⟨by decide, by decide, by decide⟩
  rcases hv with ⟨rfl, i, rfl, h0, h1⟩ | ⟨rfl, hb⟩
  · refine ⟨.int i, true, .int i, r1, ok1, rfl, .inl ⟨rfl, _, rfl, by omega, by omega⟩, fun k => ?_⟩
    simp [asg, call, consA, nilA, opx, var, kst, ci, unD, sub, ixS, L2.atI, L2.ixN, iff_if, tand_if, tnot, tval, seqO, done]
  rcases hb with ⟨i, rfl, hi⟩ | ⟨h1, h2⟩
  · have q3 := p3.2
    have cl := cf_law_is_int (d := .int i) (ms := [stC scr r1]) rfl
    generalize (pull scr r1 2).2 = r2 at *
    generalize (pull scr r1 2).1 = p at *
    have q4 : p = 0 ∨ p = 1 := by omega
    rcases q4 with rfl | rfl
    · refine ⟨.int i, false, .int (-1), r2, p3.1, rfl, .inr ⟨rfl, rfl⟩, fun k => ?_⟩
      simp [asg, call, consA, nilA, opx, var, kst, ci, unD, sub, ixS, L2.atI, L2.ixN, iff_if, tand_if, tnot, tval, Dn.bin, map1, map2, opS, Dn.opI, seqO, done, cl, isI, lst, neg, negS, w1, c3]
    · refine ⟨.int i, false, .int 10000000000000000000000000000000000000001, r2, p3.1, rfl, .inr ⟨rfl, rfl⟩, fun k => ?_⟩
      simp [asg, call, consA, nilA, opx, var, kst, ci, unD, sub, ixS, L2.atI, L2.ixN, iff_if, tand_if, tnot, tval, Dn.bin, map1, map2, opS, Dn.opI, seqO, done, cl, isI, lst, neg, negS, w1, c3]
  · have cl := cf_law_is_int (d := v) (ms := [stC scr r1]) h2
    have hw : within 0 10000000000000000000000000000000000000000 v = false := by cases v <;> first | rfl | (simp [isI] at h1)
    refine ⟨v, false, v, r1, ok1, h2, .inr ⟨rfl, hw⟩, fun k => ?_⟩
    simp [asg, call, consA, nilA, opx, var, kst, ci, unD, sub, ixS, L2.atI, L2.ixN, iff_if, tand_if, tnot, tval, Dn.bin, map1, map2, opS, Dn.opI, seqO, done, cl, h1]
end k43
/-! # asked; fractions; products -/
namespace k43
open PySem (Str)
open Dv Dn
open L2 (CMulW CDivW atI_nat)
open Bk
theorem runDef_d0 {np N P : Nat} {S : SD} {args : List Sv} {m : Ms} {d : Dt} (h : S (args.map some ++ List.replicate (N - np) none) [] = some (.rt d m)) (h1 : args.length = np) : runDef np N P S args [] = some (.ret d []) := by
  unfold runDef
  rw [if_pos ⟨h1, Nat.zero_le _⟩, h]
  simp
def tgS (s : Str) (d : Dt) : Dt := .tup [.str s, d]
theorem ask_x {a b c : Dt} {nm : Str} {ms : Ms} (h : ∀ ms, callF f_factor [.d a, .d b, .d c] ms = some (.x (bound nm), ms)) : callF f_law_asked [.d a, .d b, .d c] ms = some (.v (.d (tgS "refused" (.str nm))), ms) := by
  refine cf3 (runDef_d0 (m := []) ?_ rfl)
  show d_law_asked [some (.d a), some (.d b), some (.d c), none] [] = _
  unfold d_law_asked
  exact z_try_x (z_retX (v_tupX (ac_x o_kst (a_consX (ox_x (c_x (ac (o_var (by rfl)) (ac (o_var (by rfl)) (a1 (o_var (by rfl))))) (h []))))))) rfl (by simp) (by rfl)
theorem ask_v {a b c d : Dt} {ms : Ms} (h : ∀ ms, callF f_factor [.d a, .d b, .d c] ms = some (.v (.d d), ms)) : callF f_law_asked [.d a, .d b, .d c] ms = some (.v (.d (tgS "told" d)), ms) := by
  refine cf3 (runDef_d0 (m := []) ?_ rfl)
  show d_law_asked [some (.d a), some (.d b), some (.d c), none] [] = _
  unfold d_law_asked
  exact z_try_ok (z_ret (v_tup (ds := [.str "told", d]) (ac o_kst (a1 (ox_v (c_v (ac (o_var (by rfl)) (ac (o_var (by rfl)) (a1 (o_var (by rfl))))) (h []))))) (by simp)))
theorem fr_0 {ms : Ms} {a b : Int} : ixS ms (.d (.tup [.int a, .int b])) 0 = some (.d (.int a)) := ix_t (atI_nat (j := 0) (by rfl))
theorem fr_1 {ms : Ms} {a b : Int} : ixS ms (.d (.tup [.int a, .int b])) 1 = some (.d (.int b)) := ix_t (atI_nat (j := 1) (by rfl))
theorem t_ff {T U : TD} {es : Es} {ms m : Ms} (h1 : T es ms = some (false, ms)) (h2 : U es ms = some (false, ms)) : tor T U es ms = some (false, ms) := by
  rw [tor_if]
  simp only [h1, h2]
  rfl
theorem cf_is_frac {p q : Int} {ms : Ms} (hq : 1 ≤ q) (h9 : q < 2 ^ 8000) (hg : Nat.gcd p.natAbs q.natAbs = 1) : callF f_law_is_fraction [.d (.tup [.int p, .int q])] ms = some (.v (.d (.bl true)), ms) := by
  refine cf1 (runDef_d0 (m := []) ?_ rfl)
  show d_law_is_fraction [some (.d (.tup [.int p, .int q]))] [] = _
  unfold d_law_is_fraction
  have v0 : opx (sub (var 0) (kst (.int 0))) [some (.d (.tup [.int p, .int q]))] [] = some (.v (.d (.int p)), []) := o_sub (o_var (s := .d (.tup [.int p, .int q])) (by rfl)) o_kst fr_0
  have v1 : opx (sub (var 0) (kst (.int 1))) [some (.d (.tup [.int p, .int q]))] [] = some (.v (.d (.int q)), []) := o_sub (o_var (s := .d (.tup [.int p, .int q])) (by rfl)) o_kst fr_1
  have t1 : tnot (tval (isE "tuple" (var 0))) [some (.d (.tup [.int p, .int q]))] [] = some (false, []) := t_not (b := true) (t_val (o_isE (o_var (s := .d (.tup [.int p, .int q])) (by rfl)) (by simp [isTS, plainD, isT])))
  have t2 : tcmp .NotEq (lenE (var 0)) (kst (.int 2)) [some (.d (.tup [.int p, .int q]))] [] = some (false, []) := t_cmp (o_len (d := .int 2) (o_var (s := .d (.tup [.int p, .int q])) (by rfl)) (by simp [lenS, seqS])) o_kst (by rfl)
  have t3 : tnot (tval (call f_law_is_int (consA (sub (var 0) (kst (.int 0))) nilA))) [some (.d (.tup [.int p, .int q]))] [] = some (false, []) := t_not (b := true) (t_val (ox_v (c_v (a1 v0) (cf_law_is_int (d := .int p) (by simp [plainD])))))
  have t4 : tnot (tval (call f_law_is_int (consA (sub (var 0) (kst (.int 1))) nilA))) [some (.d (.tup [.int p, .int q]))] [] = some (false, []) := t_not (b := true) (t_val (ox_v (c_v (a1 v1) (cf_law_is_int (d := .int q) (by simp [plainD])))))
  have t5 : tcmp .Lt (sub (var 0) (kst (.int 1))) (kst (.int 1)) [some (.d (.tup [.int p, .int q]))] [] = some (false, []) := t_cmp v1 o_kst (by show some (decide (q < 1)) = _; rw [decide_eq_false (by omega)])
  rw [s_ff0 (t_ff (m := []) t1 t2), s_ff0 (t_ff (m := []) t3 (t_ff (m := []) t4 t5))]
  have eq : (q.natAbs : Int) = q := by omega
  have cg := cf_gcd (a := p.natAbs) (b := q.natAbs) (ms := []) (by omega)
  rw [eq, hg] at cg
  exact z_ret (v_cmp (ox_v (c_v (ac (o_abs (d := .int p.natAbs) v0 (by rfl)) (a1 v1)) cg)) o_kst (by rfl))
theorem low_parts {a b : Int} (hb : 0 < b) : ∃ g p q : Int, 0 < g ∧ a = g * p ∧ b = g * q ∧ low a b = .tup [.int p, .int q] ∧ 1 ≤ q ∧ q ≤ b ∧ p.natAbs ≤ a.natAbs ∧ Nat.gcd p.natAbs q.natAbs = 1 := by
  have g0 : 0 < Nat.gcd a.natAbs b.natAbs := Nat.gcd_pos_of_pos_right _ (by omega)
  have da : ((Nat.gcd a.natAbs b.natAbs : Nat) : Int) ∣ a := Int.gcd_dvd_left (a := a) (b := b)
  have db : ((Nat.gcd a.natAbs b.natAbs : Nat) : Int) ∣ b := Int.gcd_dvd_right (a := a) (b := b)
  refine ⟨(Nat.gcd a.natAbs b.natAbs : Nat), a / (Nat.gcd a.natAbs b.natAbs : Nat), b / (Nat.gcd a.natAbs b.natAbs : Nat), by omega, (Int.mul_ediv_cancel' da).symm, (Int.mul_ediv_cancel' db).symm, rfl, ?_, Int.ediv_le_self _ (Int.le_of_lt hb), Int.natAbs_ediv_le_natAbs _ _, ?_⟩
  · have := Int.ediv_pos_of_pos_of_dvd hb (by omega) db
    omega
  · rw [Int.natAbs_ediv_of_dvd da, Int.natAbs_ediv_of_dvd db, Int.natAbs_natCast]
    exact Nat.coprime_div_gcd_div_gcd g0
theorem cf_times {p q u w : Int} {ms : Ms} (hq : 1 ≤ q) (hw : 1 ≤ w) (h1 : p.natAbs < 2 ^ 4000) (h2 : q.natAbs < 2 ^ 4000) (h3 : u.natAbs < 2 ^ 140) (h4 : w.natAbs < 2 ^ 140) : callF f_law_times [.d (.tup [.int p, .int q]), .d (.tup [.int u, .int w])] ms = some (.v (.d (low (p * u) (q * w))), ms) := by
  refine cf2 (runDef_d0 (m := []) ?_ rfl)
  show d_law_times [some (.d (.tup [.int p, .int q])), some (.d (.tup [.int u, .int w]))] [] = _
  unfold d_law_times
  have c1 : CMulW p u := L2.wide_mul (a := 4000) (b := 140) h1 h3 (by decide) (by decide) (by decide)
  have c2 : CMulW q w := L2.wide_mul (a := 4000) (b := 140) h2 h4 (by decide) (by decide) (by decide)
  have h5 : (q * w).natAbs < 2 ^ (4000 + 140) := L2.wide_lt h2 h4
  have h6 : (2 : Nat) ^ (4000 + 140) ≤ 2 ^ 8000 := Nat.pow_le_pow_right (by decide) (by decide)
  have h7 : 0 < q * w := Int.mul_pos (by omega) (by omega)
  have h8 : q * w < 2 ^ 8000 := by
    have e : (((2 : Nat) ^ 8000 : Nat) : Int) = (2 : Int) ^ 8000 := by rw [Int.natCast_pow]; rfl
    rw [← e]
    generalize (2 : Nat) ^ 8000 = z at *
    omega
  exact z_ret (c_v (ac (o_bin (r := p * u) (o_sub (o_var (s := .d (.tup [.int p, .int q])) (by rfl)) o_kst fr_0) (o_sub (o_var (s := .d (.tup [.int u, .int w])) (by rfl)) o_kst fr_0) (by simp [Dn.opI, c1]))
    (a1 (o_bin (r := q * w) (o_sub (o_var (s := .d (.tup [.int p, .int q])) (by rfl)) o_kst fr_1) (o_sub (o_var (s := .d (.tup [.int u, .int w])) (by rfl)) o_kst fr_1) (by simp [Dn.opI, c2])))) (cf_low h7 h8))
theorem prodB {f : Int → Int} {k : Nat} {lo : Int} (hf : ∀ i, lo ≤ i → i < lo + k → (f i).natAbs < 2 ^ 140) (hk : k ≤ 25) : (prodI f k lo).natAbs < 2 ^ 4000 := by
  obtain ⟨_, g⟩ := prod_go (D := .non) k lo 1 1 none hf (by decide) (by decide) (by omega)
  rw [Int.one_mul] at g
  exact Nat.lt_of_lt_of_le g (Nat.pow_le_pow_right (by decide) (by omega))
theorem p4000 {x : Nat} (h : x < 2 ^ 140) : x < 2 ^ 4000 := Nat.lt_of_lt_of_le h (Nat.pow_le_pow_right (by decide) (by decide))
theorem bot_lt {r s n : Int} (hr : -25 ≤ r ∧ r ≤ 1) (hs : 1 ≤ s ∧ s < 2 ^ 138) (hn : 0 ≤ n ∧ n < 2 ^ 138) : (botF r s n).natAbs < 2 ^ 4000 := by
  unfold botF
  split
  · exact p4000 (by omega)
  split
  · exact p4000 (by decide)
  split
  · exact prodB (fun i h1 h2 => by show (s + n - i).natAbs < 2 ^ 140; omega) (by omega)
  · exact prodB (fun i h1 h2 => by show i.natAbs < 2 ^ 140; omega) (by omega)
theorem top_lt {r s n : Int} (hr : -25 ≤ r ∧ r ≤ 1) (hs : 1 ≤ s ∧ s < 2 ^ 138) (hn : 0 ≤ n ∧ n < 2 ^ 138) : (topF r s n).natAbs < 2 ^ 4000 := by
  unfold topF
  split
  · exact p4000 (by omega)
  split
  · exact p4000 (by decide)
  split
  · exact prodB (fun i h1 h2 => by show (s - i).natAbs < 2 ^ 140; omega) (by omega)
  · exact prodB (fun i h1 h2 => by show (i + r).natAbs < 2 ^ 140; omega) (by omega)
theorem to8000 {b : Int} (h0 : 0 < b) (h : b.natAbs < 2 ^ 4000) : b < 2 ^ 8000 := by
  have h6 : (2 : Nat) ^ 4000 ≤ 2 ^ 8000 := Nat.pow_le_pow_right (by decide) (by decide)
  have e : (((2 : Nat) ^ 8000 : Nat) : Int) = (2 : Int) ^ 8000 := by rw [Int.natCast_pow]; rfl
  rw [← e]
  generalize (2 : Nat) ^ 8000 = z at *
  omega
end k43
/-! # the law -/
namespace k43
open PySem (Str)
open Dv Dn
open L2 (CMulW CDivW atI_nat)
open Bk
def d_tail : SD := asg 12 (call f_law_big (consA (var 1) (consA (bin .Pow (kst (.int 10)) (kst (.int 40))) nilA))) 
  (asg 13 (call f_factor (consA (var 3) (consA (var 4) (consA (var 12) nilA)))) 
  (iff (tnot (tval (call f_law_is_fraction (consA (var 13) nilA)))) (ret (kst (.bl false))) done 
  (asg 14 (call f_law_low (consA (bin .Add (bin .Add (var 4) (var 12)) (var 3)) (consA (bin .Add (var 4) (var 12)) nilA))) 
  (ret (call (f_law_same 12) (consA (call f_factor (consA (var 3) (consA (var 4) (consA (bin .Add (var 12) (kst (.int 1))) nilA)))) (consA (call f_law_times (consA (var 13) (consA (var 14) nilA))) nilA)))))))
def d_walk : SD := asg 9 (kst (.int 1)) 
  (asg 10 (kst (.int 1)) 
  (forS (itR (var 7)) (tg1 11) (asg 9 (bin .Mult (var 9) (bin .Add (bin .Add (var 4) (var 11)) (var 3))) 
    (asg 10 (bin .Mult (var 10) (bin .Add (var 4) (var 11))) done)) 
  (iff (tnot (tval (call (f_law_same 12) (consA (call f_law_asked (consA (var 3) (consA (var 4) (consA (var 7) nilA)))) (consA (tup (consA (kst (.str "told")) (consA (call f_law_low (consA (var 9) (consA (var 10) nilA))) nilA))) nilA))))) (ret (kst (.bl false))) done d_tail)))
def d_due : SD := iff (tcmp .IsNot (var 8) (kst .non)) (ret (call (f_law_same 12) (consA (call f_law_asked (consA (var 3) (consA (var 4) (consA (var 7) nilA)))) (consA (var 8) nilA)))) done d_walk
def d_chain : SD := asg 8 (kst .non) 
  (iff (tnot (tval (sub (var 2) (kst (.int 1))))) (asg 8 (tup (consA (kst (.str "refused")) (consA (kst (.str "root")) nilA))) done) (iff (tcmp .Eq (var 5) (kst (.int 0))) (asg 8 (tup (consA (kst (.str "refused")) (consA (kst (.str "start")) nilA))) done) (iff (tnot (tval (sub (var 6) (kst (.int 1))))) (asg 8 (tup (consA (kst (.str "refused")) (consA (kst (.str "n")) nilA))) done) done done) done) d_due)
theorem same_frac {a b : Int} {ms : Ms} : callF (f_law_same 12) [.d (.tup [.int a, .int b]), .d (.tup [.int a, .int b])] ms = some (.v (.d (.bl true)), ms) := cf_same (by simp [sameOk])
theorem same_ss {s t : Str} {ms : Ms} : callF (f_law_same 12) [.d (tgS s (.str t)), .d (tgS s (.str t))] ms = some (.v (.d (.bl true)), ms) := cf_same (by simp [sameOk, tgS])
theorem same_sf {s : Str} {a b : Int} {ms : Ms} : callF (f_law_same 12) [.d (tgS s (.tup [.int a, .int b])), .d (tgS s (.tup [.int a, .int b]))] ms = some (.v (.d (.bl true)), ms) := cf_same (by simp [sameOk, tgS])
theorem due_x {scr : List Int} {r : Rng} {x0 x2 x6 a b c x5 : Dt} {nm : Str} (h : ∀ ms, callF f_factor [.d a, .d b, .d c] ms = some (.x (bound nm), ms)) :
    d_due [some (.d x0), some (.m 0), some (.d x2), some (.d a), some (.d b), some (.d x5), some (.d x6), some (.d c), some (.d (tgS "refused" (.str nm))), none, none, none, none, none, none] [stC scr r] = some (.rt (.bl true) [stC scr r]) := by
  unfold d_due
  rw [s_tt (t_cmp (o_var (s := .d (tgS "refused" (.str nm))) (by rfl)) o_kst (b := true) (by rfl))]
  have := z_ret (c_v (F := f_law_same 12) (R := consA (call f_law_asked (consA (var 3) (consA (var 4) (consA (var 7) nilA)))) (consA (var 8) nilA)) (es := [some (.d x0), some (.m 0), some (.d x2), some (.d a), some (.d b), some (.d x5), some (.d x6), some (.d c), some (.d (tgS "refused" (.str nm))), none, none, none, none, none, none]) (ms := [stC scr r])
    (ac (ox_v (c_v (ac (o_var (s := .d a) (by rfl)) (ac (o_var (s := .d b) (by rfl)) (a1 (o_var (s := .d c) (by rfl))))) (ask_x h))) (a1 (o_var (s := .d (tgS "refused" (.str nm))) (by rfl)))) (same_ss (ms := [stC scr r])))
  exact congrArg (fun o => seqO o d_walk) this
/-- why it is refused, or that it is told -/
theorem chain_root {scr : List Int} {r : Rng} {x0 vi a b c x5 x6 : Dt} (h : ∀ ms, callF f_factor [.d a, .d b, .d c] ms = some (.x (bound "root"), ms)) :
    d_chain [some (.d x0), some (.m 0), some (.d (.lst [vi, .bl false])), some (.d a), some (.d b), some (.d x5), some (.d x6), some (.d c), none, none, none, none, none, none, none] [stC scr r] = some (.rt (.bl true) [stC scr r]) := by
  unfold d_chain
  rw [z_asg rfl, s_tt (t_not (b := false) (t_val (o_sub (a := 1) (o_var (s := .d (.lst [vi, .bl false])) (by rfl)) o_kst (ix_l (d := .bl false) (atI_nat (j := 1) (by rfl)))))), z_asg (v_tup (ds := [.str "refused", .str "root"]) (ac o_kst (a1 o_kst)) (by simp)), s_done, q_nx]
  exact due_x h
theorem chain_start {scr : List Int} {r : Rng} {x0 vi a b c x6 : Dt} (h : ∀ ms, callF f_factor [.d a, .d b, .d c] ms = some (.x (bound "start"), ms)) :
    d_chain [some (.d x0), some (.m 0), some (.d (.lst [vi, .bl true])), some (.d a), some (.d b), some (.d (.int 0)), some (.d x6), some (.d c), none, none, none, none, none, none, none] [stC scr r] = some (.rt (.bl true) [stC scr r]) := by
  unfold d_chain
  rw [z_asg rfl, s_ff (t_not (b := true) (t_val (o_sub (a := 1) (o_var (s := .d (.lst [vi, .bl true])) (by rfl)) o_kst (ix_l (d := .bl true) (atI_nat (j := 1) (by rfl)))))), s_tt (t_cmp (o_var (s := .d (.int 0)) (by rfl)) o_kst (b := true) (by rfl)), z_asg (v_tup (ds := [.str "refused", .str "start"]) (ac o_kst (a1 o_kst)) (by simp)), s_done, q_nx, s_done, q_nx]
  exact due_x h
theorem chain_n {scr : List Int} {r : Rng} {x0 vi ni a b c : Dt} {five : Int} (h5 : five ≠ 0) (h : ∀ ms, callF f_factor [.d a, .d b, .d c] ms = some (.x (bound "n"), ms)) :
    d_chain [some (.d x0), some (.m 0), some (.d (.lst [vi, .bl true])), some (.d a), some (.d b), some (.d (.int five)), some (.d (.lst [ni, .bl false])), some (.d c), none, none, none, none, none, none, none] [stC scr r] = some (.rt (.bl true) [stC scr r]) := by
  unfold d_chain
  rw [z_asg rfl, s_ff (t_not (b := true) (t_val (o_sub (a := 1) (o_var (s := .d (.lst [vi, .bl true])) (by rfl)) o_kst (ix_l (d := .bl true) (atI_nat (j := 1) (by rfl)))))), s_ff (t_cmp (o_var (s := .d (.int five)) (by rfl)) o_kst (b := false) (by show some (decide (five = 0)) = _; rw [decide_eq_false h5])), s_tt (t_not (b := false) (t_val (o_sub (a := 1) (o_var (s := .d (.lst [ni, .bl false])) (by rfl)) o_kst (ix_l (d := .bl false) (atI_nat (j := 1) (by rfl)))))), z_asg (v_tup (ds := [.str "refused", .str "n"]) (ac o_kst (a1 o_kst)) (by simp)), s_done, q_nx, s_done, q_nx, s_done, q_nx]
  exact due_x h
theorem chain_go {scr : List Int} {r : Rng} {x0 vi ni a b c : Dt} {five : Int} {R : Option Out} (h5 : five ≠ 0) (h : d_walk [some (.d x0), some (.m 0), some (.d (.lst [vi, .bl true])), some (.d a), some (.d b), some (.d (.int five)), some (.d (.lst [ni, .bl true])), some (.d c), some (.d .non), none, none, none, none, none, none] [stC scr r] = R) :
    d_chain [some (.d x0), some (.m 0), some (.d (.lst [vi, .bl true])), some (.d a), some (.d b), some (.d (.int five)), some (.d (.lst [ni, .bl true])), some (.d c), none, none, none, none, none, none, none] [stC scr r] = R := by
  unfold d_chain
  rw [z_asg rfl, s_ff (t_not (b := true) (t_val (o_sub (a := 1) (o_var (s := .d (.lst [vi, .bl true])) (by rfl)) o_kst (ix_l (d := .bl true) (atI_nat (j := 1) (by rfl)))))), s_ff (t_cmp (o_var (s := .d (.int five)) (by rfl)) o_kst (b := false) (by show some (decide (five = 0)) = _; rw [decide_eq_false h5])), s_ff0 (t_not (b := true) (t_val (o_sub (a := 1) (o_var (s := .d (.lst [ni, .bl true])) (by rfl)) o_kst (ix_l (d := .bl true) (atI_nat (j := 1) (by rfl)))))), s_done, q_nx, s_done, q_nx]
  unfold d_due
  rw [s_ff0 (t_cmp (o_var (s := .d .non) (by rfl)) o_kst (b := false) (by rfl))]
  exact h
end k43
/-! # the walk, the far coming, the law -/
namespace k43
open PySem (Str)
open Dv Dn
open L2 (CMulW CDivW atI_nat)
open Bk
theorem cf_lowL {a b : Int} {ms : Ms} (h0 : 0 < b) (h : b < 2 ^ 8000) : callF f_law_low [.d (.int a), .d (.int b)] ms = some (.v (.d (low a b)), ms) := cf_low h0 h
theorem nat8000 {b : Int} (h : b.natAbs < 2 ^ 8000) : b < 2 ^ 8000 := by
  have e : (((2 : Nat) ^ 8000 : Nat) : Int) = (2 : Int) ^ 8000 := by rw [Int.natCast_pow]; rfl
  rw [← e]
  generalize (2 : Nat) ^ 8000 = z at *
  omega
theorem tail_ok {scr : List Int} {r : Rng} {x0 x2 x5 x6 x7 x8 x9 x10 : Dt} {x11 : Option Sv} {rt s : Int} (ok : Ok scr r) (hr : -25 ≤ rt ∧ rt ≤ 1) (hs : 1 ≤ s ∧ s ≤ 1000000000000000000000000000000000000000) :
    ∃ m, d_tail [some (.d x0), some (.m 0), some (.d x2), some (.d (.int rt)), some (.d (.int s)), some (.d x5), some (.d x6), some (.d x7), some (.d x8), some (.d x9), some (.d x10), x11, none, none, none] [stC scr r] = some (.rt (.bl true) m) := by
  have w1 : L2.CPow 10 40 := ⟨by decide, by decide, by decide⟩
  have b1 := big_ok ok (many := 10 ^ 40) (by decide)
  have cb := cf_big (ms := []) ok (many := 10 ^ 40) (by decide) (by decide +kernel)
  generalize (big scr r (10 ^ 40)).2 = r1 at *
  generalize (big scr r (10 ^ 40)).1 = n at *
  have hn : 0 ≤ n ∧ n < 10000000000000000000000000000000000000000 := ⟨b1.2.1, by have := b1.2.2; omega⟩
  have g1 := g_factor (r := rt) (s := s) (n := n) (ms := [stC scr r1]) hr (by omega) (by omega)
  have g2 := g_factor (r := rt) (s := s) (n := n + 1) (ms := [stC scr r1]) hr (by omega) (by omega)
  have bp := bot_pos (r := rt) hs.1 hn.1
  have bl := bot_lt (r := rt) (s := s) (n := n) hr (by omega) (by omega)
  have tl := top_lt (r := rt) (s := s) (n := n) hr (by omega) (by omega)
  have bp2 := bot_pos (r := rt) (n := n + 1) hs.1 (by omega)
  obtain ⟨g, p, q, c1, c2, c3, c4, c5, c6, c7, c8⟩ := low_parts (a := topF rt s n) bp
  obtain ⟨g', u, w, d1, d2, d3, d4, d5, d6, d7, d8⟩ := low_parts (a := s + n + rt) (b := s + n) (by omega)
  have hst := low_step (r := rt) hr.2 hs.1 hn.1
  have fin : low (p * u) (q * w) = low (topF rt s (n + 1)) (botF rt s (n + 1)) := by
    rw [hst]
    refine low_cross ?_ (Int.mul_pos (by omega) (by omega)) (Int.mul_pos bp (by omega))
    have e1 : p * u * (botF rt s n * (s + n)) = p * u * (g * q * (g' * w)) := by rw [← c3, ← d3]
    have e2 : topF rt s n * (s + n + rt) * (q * w) = g * p * (g' * u) * (q * w) := by rw [← c2, ← d2]
    rw [e1, e2]
    simp only [Int.mul_assoc, Int.mul_comm, Int.mul_left_comm]
  rw [c4] at g1
  have qb : q.natAbs < 2 ^ 4000 := by generalize (2 : Nat) ^ 4000 = z at *; omega
  have pb : p.natAbs < 2 ^ 4000 := by generalize (2 : Nat) ^ 4000 = z at *; omega
  refine ⟨[stC scr r1], ?_⟩
  unfold d_tail
  rw [z_asg (c_v (ac (o_var (s := .m 0) (by rfl)) (a1 (o_bin (r := 10 ^ 40) o_kst o_kst (by simp [Dn.opI, w1])))) cb)]
  rw [z_asg (c_v (ac (o_var (s := .d (.int rt)) (by rfl)) (ac (o_var (s := .d (.int s)) (by rfl)) (a1 (o_var (s := .d (.int n)) (by rfl))))) g1)]
  rw [s_ff0 (t_not (b := true) (t_val (ox_v (c_v (a1 (o_var (s := .d (.tup [.int p, .int q])) (by rfl))) (cf_is_frac c5 (to8000 (by omega) qb) c8)))))]
  rw [z_asg (c_v (ac (o_bin (r := s + n + rt) (o_bin (r := s + n) (o_var (s := .d (.int s)) (by rfl)) (o_var (s := .d (.int n)) (by rfl)) (by rfl)) (o_var (s := .d (.int rt)) (by rfl)) (by rfl)) (a1 (o_bin (r := s + n) (o_var (s := .d (.int s)) (by rfl)) (o_var (s := .d (.int n)) (by rfl)) (by rfl)))) (cf_lowL (a := s + n + rt) (b := s + n) (by omega) (to8000 (by omega) (p4000 (by omega)))))]
  have ht := cf_times (ms := [stC scr r1]) c5 d5 pb qb (show u.natAbs < 2 ^ 140 by omega) (show w.natAbs < 2 ^ 140 by omega)
  rw [fin] at ht
  rw [d4]
  rw [z_ret (c_v (ac (ox_v (c_v (ac (o_var (s := .d (.int rt)) (by rfl)) (ac (o_var (s := .d (.int s)) (by rfl)) (a1 (o_bin (r := n + 1) (o_var (s := .d (.int n)) (by rfl)) o_kst (by rfl))))) g2)) (a1 (ox_v (c_v (ac (o_var (s := .d (.tup [.int p, .int q])) (by rfl)) (a1 (o_var (s := .d (.tup [.int u, .int w])) (by rfl)))) ht)))) (same_frac (ms := [stC scr r1])))]
theorem walk_ok {scr : List Int} {r : Rng} {x0 x2 x5 x6 x8 : Dt} {rt s : Int} {n : Nat} (ok : Ok scr r) (hr : -25 ≤ rt ∧ rt ≤ 1) (hs : 1 ≤ s ∧ s ≤ 1000000000000000000000000000000000000000) (hn : n ≤ 40) :
    ∃ m, d_walk [some (.d x0), some (.m 0), some (.d x2), some (.d (.int rt)), some (.d (.int s)), some (.d x5), some (.d x6), some (.d (.int n)), some (.d x8), none, none, none, none, none, none] [stC scr r] = some (.rt (.bl true) m) := by
  obtain ⟨es', ms', hl, o11, rfl, rfl⟩ := range_inv0 (n := n) (G := tg1 11) (S := asg 9 (bin .Mult (var 9) (bin .Add (bin .Add (var 4) (var 11)) (var 3))) 
    (asg 10 (bin .Mult (var 10) (bin .Add (var 4) (var 11))) done))
    (I := fun k es ms => ∃ o11, es = [some (.d x0), some (.m 0), some (.d x2), some (.d (.int rt)), some (.d (.int s)), some (.d x5), some (.d x6), some (.d (.int n)), some (.d x8), some (.d (.int (prodI (fun i => i + rt) k s))), some (.d (.int (prodI (fun i => i) k s))), o11, none, none, none] ∧ ms = [stC scr r])
    (es := [some (.d x0), some (.m 0), some (.d x2), some (.d (.int rt)), some (.d (.int s)), some (.d x5), some (.d x6), some (.d (.int n)), some (.d x8), some (.d (.int 1)), some (.d (.int 1)), none, none, none, none]) (ms := [stC scr r])
    (fun k es ms hk hI => by
      obtain ⟨o11, rfl, rfl⟩ := hI
      have a := prod_lt (f := fun i => i + rt) (k := k) (lo := s) (fun i h1 h2 => by show (i + rt).natAbs < 2 ^ 140; omega) (by omega)
      have b := prod_lt (f := fun i => i) (k := k) (lo := s) (fun i h1 h2 => by show i.natAbs < 2 ^ 140; omega) (by omega)
      have c1 : CMulW (prodI (fun i => i + rt) k s) (s + k + rt) := L2.wide_mul (a := 8000) (b := 140) a (by omega) (by decide) (by decide) (by decide)
      have c2 : CMulW (prodI (fun i => i) k s) (s + k) := L2.wide_mul (a := 8000) (b := 140) b (by omega) (by decide) (by decide) (by decide)
      rw [prodI_last, prodI_last]
      refine ⟨_, _, _, rfl, ?_, some (.d (.int k)), rfl, rfl⟩
      rw [z_asg (v_bin (r := prodI (fun i => i + rt) k s * (s + k + rt)) (o_var (s := .d (.int (prodI (fun i => i + rt) k s))) (by rfl)) (o_bin (r := s + k + rt) (o_bin (r := s + k) (o_var (s := .d (.int s)) (by rfl)) (o_var (s := .d (.int k)) (by rfl)) (by rfl)) (o_var (s := .d (.int rt)) (by rfl)) (by rfl)) (by simp [Dn.opI, c1]))]
      rw [z_asg (v_bin (r := prodI (fun i => i) k s * (s + k)) (o_var (s := .d (.int (prodI (fun i => i) k s))) (by rfl)) (o_bin (r := s + k) (o_var (s := .d (.int s)) (by rfl)) (o_var (s := .d (.int k)) (by rfl)) (by rfl)) (by simp [Dn.opI, c2])), s_done]
      rfl)
    ⟨none, rfl, rfl⟩
  have hp := walk_pos hs.1 n
  have hb := prod_lt (f := fun i => i) (k := n) (lo := s) (fun i h1 h2 => by show i.natAbs < 2 ^ 140; omega) (by omega)
  have gf : ∀ ms, callF f_factor [.d (.int rt), .d (.int s), .d (.int n)] ms = some (.v (.d (low (prodI (fun i => i + rt) n s) (prodI (fun i => i) n s))), ms) := fun ms => by
    have := g_factor (r := rt) (s := s) (n := n) (ms := ms) hr (by omega) (by omega)
    have lw := low_walk (r := rt) (s := s) (n := n) hr.2 hs.1 (by omega)
    rw [Int.toNat_natCast] at lw
    rw [lw]
    exact this
  generalize prodI (fun i => i + rt) n s = P at *
  generalize prodI (fun i => i) n s = Q at *
  obtain ⟨m, hm⟩ := tail_ok (x0 := x0) (x2 := x2) (x5 := x5) (x6 := x6) (x7 := .int n) (x8 := x8) (x9 := .int P) (x10 := .int Q) (x11 := o11) ok hr hs
  refine ⟨m, ?_⟩
  unfold d_walk
  rw [z_asg rfl, z_asg rfl]
  show forS (itR (var 7)) (tg1 11) _ _ [some (.d x0), some (.m 0), some (.d x2), some (.d (.int rt)), some (.d (.int s)), some (.d x5), some (.d x6), some (.d (.int n)), some (.d x8), some (.d (.int 1)), some (.d (.int 1)), none, none, none, none] [stC scr r] = _
  rw [s_forR (o_var (by rfl)) (by omega), hl, q_nx]
  have hsame : ∀ ms, callF (f_law_same 12) [.d (tgS "told" (low P Q)), .d (tgS "told" (low P Q))] ms = some (.v (.d (.bl true)), ms) := fun ms => same_sf
  rw [s_ff0 (t_not (b := true) (t_val (ox_v (c_v (ac (ox_v (c_v (ac (o_var (s := .d (.int rt)) (by rfl)) (ac (o_var (s := .d (.int s)) (by rfl)) (a1 (o_var (s := .d (.int n)) (by rfl))))) (ask_v gf))) (a1 (ox_v (v_tup (ds := [.str "told", low P Q]) (ac o_kst (a1 (ox_v (c_v (ac (o_var (s := .d (.int P)) (by rfl)) (a1 (o_var (s := .d (.int Q)) (by rfl)))) (cf_lowL hp (nat8000 hb)))))) (by simp))))) (hsame _)))))]
  exact hm
theorem cn_start {ns : List Int} {ms : Ms} : callF f_law_start [.d (.lst (ns.map Dt.int))] ms = some (.n (stD ns ⟨0, 0, 1234577⟩), ms) := by
  have h := e_law_start (ds := ns.map Dt.int)
  have e : ([.d (.lst (ns.map Dt.int)), .d (.int 0), .d (.int 0), .d (.int 1234577)] : List Sv) = stD ns ⟨0, 0, 1234577⟩ := rfl
  rw [e] at h
  simp [callF, refs, argOk, loc, cellsAt, h, setAll]
theorem law_holds (ns : List Int) : f_law [.d (.lst (ns.map Dt.int))] [] = some (.ret (.bl true) []) := by
  obtain ⟨vi, b1, v, r1, ok1, pv, hv, e1⟩ := step1 (scr := ns) (r := ⟨0, 0, 1234577⟩) (s := .lst (ns.map Dt.int)) (t := [none, none, none, none, none, none, none, none, none, none, none]) ⟨Nat.zero_le _, by decide, by decide, by decide⟩
  obtain ⟨i, r2, ok2, i0, i1, e2⟩ := step2a (s := .lst (ns.map Dt.int)) (x2 := .lst [vi, .bl b1]) (x3 := v) (t := [none, none, none, none, none, none, none, none, none, none]) ok1
  obtain ⟨st, five, r3, ok3, hst, e3⟩ := step2b (s := .lst (ns.map Dt.int)) (x2 := .lst [vi, .bl b1]) (x3 := v) (i := i) (t := [none, none, none, none, none, none, none, none, none]) ok2
  obtain ⟨ni, b3, n, r4, ok4, pn, hn, e4⟩ := step3 (s := .lst (ns.map Dt.int)) (x2 := .lst [vi, .bl b1]) (x3 := v) (x4 := st) (x5 := .int five) (t := [none, none, none, none, none, none, none]) ok3
  have main : ∃ m, d_chain [some (.d (.lst (ns.map Dt.int))), some (.m 0), some (.d (.lst [vi, .bl b1])), some (.d v), some (.d st), some (.d (.int five)), some (.d (.lst [ni, .bl b3])), some (.d n), none, none, none, none, none, none, none] [stC ns r4] = some (.rt (.bl true) m) := by
    rcases hv with ⟨rfl, rt, rfl, q1, q2⟩ | ⟨rfl, q⟩
    · have hw : within (-25) 1 (.int rt) = true := by simp [within, q1, q2]
      rcases hst with ⟨rfl, hb1, hb2⟩ | ⟨h5, rfl⟩
      · exact ⟨_, chain_start fun ms => x_start pv hw hb1 hb2⟩
      · rcases hn with ⟨rfl, k, rfl, k0, k1⟩ | ⟨rfl, q⟩
        · obtain ⟨kn, rfl⟩ : ∃ kn : Nat, k = kn := ⟨k.toNat, by omega⟩
          obtain ⟨m, hm⟩ := walk_ok (x0 := .lst (ns.map Dt.int)) (x2 := .lst [vi, .bl true]) (x5 := .int five) (x6 := .lst [ni, .bl true]) (x8 := .non) (rt := rt) (s := i) (n := kn) ok4 ⟨q1, q2⟩ ⟨i0, i1⟩ (by omega)
          exact ⟨m, chain_go h5 hm⟩
        · exact ⟨_, chain_n h5 fun ms => x_n pv hw i0 pn q⟩
    · exact ⟨_, chain_root fun ms => x_root pv q⟩
  obtain ⟨m, hm⟩ := main
  have e0 : d_law [some (.d (.lst (ns.map Dt.int))), none, none, none, none, none, none, none, none, none, none, none, none, none, none] [] = some (.rt (.bl true) m) := by
    unfold d_law
    rw [z_asgN ((c_call (a1 (o_var (s := .d (.lst (ns.map Dt.int))) (by rfl)))).trans (cn_start (ns := ns)))]
    refine Eq.trans (e1 _) ?_
    refine Eq.trans (e2 _) ?_
    refine Eq.trans (e3 _) ?_
    refine Eq.trans (e4 _) ?_
    exact hm
  exact runDef_d0 e0 rfl
end k43
local macro_rules | `(tactic| walk_at "bi") => `(tactic| exact Dn.Bx.at (by assumption) (by decide))
local macro_rules | `(tactic| walk_at "dn") => `(tactic| first | (intro _ _ _ _ _; walk_at "dn1") | walk_at "dn1")
local macro_rules | `(tactic| walk_at "dn1") => `(tactic| first
  | exact Dn.den_int
  | exact Dn.den_var rfl
  | exact Dn.den_str
  | exact Dn.den_bl
  | exact Dn.den_non
  | exact Dn.den_globI rfl (by assumption)
  | (refine' Dn.den_bin ?_ ?_ <;> walk_at "dn")
  | (refine' Dn.den_neg ?_ <;> walk_at "dn")
  | (refine' Dn.den_cmp (by assumption) ?_ ?_ <;> walk_at "dn")
  | (refine' Dn.den_in (by assumption) ?_ ?_ <;> walk_at "dn")
  | (refine' Dn.den_nin (by assumption) ?_ ?_ <;> walk_at "dn")
  | (refine' Dn.den_chain (by assumption) ?_ ?_ ?_ <;> walk_at "dn")
  | (refine' Dn.den_not ?_ <;> walk_at "dn")
  | (refine' Dn.den_and ?_ ?_ <;> walk_at "dn")
  | (refine' Dn.den_or ?_ ?_ <;> walk_at "dn")
  | (refine' Dn.den_one ?_ <;> walk_at "dn")
  | (refine' Dn.den_if ?_ ?_ ?_ <;> walk_at "dn")
  | (refine' Dn.den_sub ?_ ?_ <;> walk_at "dn")
  | (refine' Dn.den_fld (by assumption) (by assumption) ?_ <;> walk_at "dn")
  | (refine' Dn.den_meth (by with_reducible assumption) (by exact ⟨rfl, rfl, rfl, rfl, rfl⟩) (by assumption) (by first | decide | omega) ?_ ?_ <;> walk_at "dn")
  | (refine' Dn.den_meth0 (by with_reducible assumption) (by exact ⟨rfl, rfl, rfl, rfl, rfl⟩) (by assumption) (by first | decide | omega) ?_ <;> walk_at "dn")
  | (refine' Dn.den_subO (by with_reducible assumption) (by exact ⟨rfl, rfl, rfl, rfl, rfl⟩) (by assumption) (by first | decide | omega) ?_ ?_ <;> walk_at "dn")
  | (refine' Dn.den_lenO (by with_reducible assumption) (by exact ⟨rfl, rfl, rfl, rfl, rfl⟩) (by assumption) (by first | decide | omega) rfl ?_ ?_ <;> first | walk_at "bi" | walk_at "dn")
  | (refine' Dn.den_make (by with_reducible assumption) (by exact ⟨rfl, rfl, rfl, rfl, rfl⟩) (by assumption) (by first | decide | omega) rfl ?_ <;> walk_at "dn")
  | (refine' Dn.den_sort (by assumption) rfl ?_ ?_ <;> first | walk_at "bi" | walk_at "dn")
  | (refine' Dn.den_slice ?_ ?_ ?_ <;> walk_at "dn")
  | (refine' Dn.den_tup ?_ <;> walk_at "dn")
  | (refine' Dn.den_lst ?_ <;> walk_at "dn")
  | exact Dn.da_nil
  | (refine' Dn.da_cons ?_ ?_ <;> walk_at "dn")
  | exact Dn.do_no
  | (refine' Dn.do_some ?_ <;> walk_at "dn")
  | (refine' Dn.den_call (by with_reducible assumption) (by exact ⟨rfl, rfl, rfl, rfl, rfl⟩) (by assumption) (by first | decide | omega) rfl ?_ <;> walk_at "dn")
  | (refine' Dn.den_len rfl ?_ ?_ <;> first | walk_at "bi" | walk_at "dn")
  | (refine' Dn.den_int1 rfl ?_ ?_ <;> first | walk_at "bi" | walk_at "dn")
  | (refine' Dn.den_abs rfl ?_ ?_ <;> first | walk_at "bi" | walk_at "dn")
  | (refine' Dn.den_isT (T := "int") (by decide) Dv.bt_int rfl ?_ rfl ?_ ?_ <;> first | walk_at "bi" | walk_at "dn")
  | (refine' Dn.den_isT (T := "bool") (by decide) Dv.bt_bool rfl ?_ rfl ?_ ?_ <;> first | walk_at "bi" | walk_at "dn")
  | (refine' Dn.den_isT (T := "str") (by decide) Dv.bt_str rfl ?_ rfl ?_ ?_ <;> first | walk_at "bi" | walk_at "dn")
  | (refine' Dn.den_isT (T := "list") (by decide) Dv.bt_list rfl ?_ rfl ?_ ?_ <;> first | walk_at "bi" | walk_at "dn")
  | (refine' Dn.den_isT (T := "tuple") (by decide) Dv.bt_tuple rfl ?_ rfl ?_ ?_ <;> first | walk_at "bi" | walk_at "dn")
  | (refine' Dn.den_listR2 rfl rfl ?_ rfl ?_ ?_ ?_ <;> first | walk_at "bi" | walk_at "dn")
  | (refine' Dn.den_list rfl ?_ ?_ <;> first | walk_at "bi" | walk_at "dn")
  | (refine' Dn.den_tuple rfl ?_ ?_ <;> first | walk_at "bi" | walk_at "dn")
  | (refine' Dn.den_sum rfl rfl ?_ ?_ <;> first | walk_at "bi" | walk_at "dn")
  | (refine' Dn.den_all rfl rfl ?_ ?_ <;> first | walk_at "bi" | walk_at "dn")
  | (refine' Dn.den_any rfl rfl ?_ ?_ <;> first | walk_at "bi" | walk_at "dn")
  | (refine' Dn.den_max rfl rfl ?_ ?_ <;> first | walk_at "bi" | walk_at "dn")
  | (refine' Dn.den_min rfl rfl ?_ ?_ <;> first | walk_at "bi" | walk_at "dn")
  | (refine' Dn.den_max2 rfl rfl ?_ ?_ ?_ <;> first | walk_at "bi" | walk_at "dn")
  | (refine' Dn.den_min2 rfl rfl ?_ ?_ ?_ <;> first | walk_at "bi" | walk_at "dn")
  | (refine' Dn.den_gcd rfl (by assumption) ?_ ?_ <;> walk_at "dn")
  | (refine' Dn.den_lcm rfl (by assumption) ?_ ?_ <;> walk_at "dn")
  | (refine' Dn.den_strE rfl ?_ ?_ <;> first | walk_at "bi" | walk_at "dn")
  | (refine' Dn.den_bits ?_ <;> walk_at "dn")
  | (refine' Dn.den_joinS ?_ ?_ <;> walk_at "dn")
  | (refine' Dn.den_joined ?_ <;> walk_at "dn")
  | (refine' Dn.den_fmt ?_ <;> walk_at "dn")
  | exact Dn.dj_nil
  | (refine' Dn.dj_cons ?_ ?_ <;> walk_at "dn")
  | (refine' Dn.den_lc rfl (by assumption) ?_ ?_ ?_ ?_ ?_ <;> walk_at "dn")
  | exact Dn.blkApply (by assumption) (by decide +kernel)
  | exact L2.blkOk_by rfl
  | (refine' Dn.di_rng rfl ?_ ?_ <;> first | walk_at "bi" | walk_at "dn")
  | (refine' Dn.di_rng2 rfl ?_ ?_ ?_ <;> first | walk_at "bi" | walk_at "dn")
  | (refine' Dn.di_enum rfl ?_ ?_ <;> first | walk_at "bi" | walk_at "dn")
  | (refine' Dn.di_zip rfl ?_ ?_ ?_ <;> first | walk_at "bi" | walk_at "dn")
  | (refine' Dn.di_list ?_ <;> walk_at "dn")
  | exact Dn.dg_name (by assumption) rfl
  | exact Dn.dg_two rfl (by assumption) rfl rfl
  | exact Dn.db_name (by assumption) rfl (fun _ _ _ _ _ => by first | exact Or.inl rfl | exact Or.inr rfl) (fun _ _ _ _ _ => by first | exact .inl rfl | exact .inr rfl)
  | exact Dn.db_two rfl (by assumption) rfl rfl (fun _ _ _ _ _ => by first | exact Or.inl rfl | exact Or.inr rfl) (fun _ _ _ _ _ => by first | exact .inl rfl | exact .inr rfl) (fun _ _ _ _ _ => by first | exact Or.inl rfl | exact Or.inr rfl) (fun _ _ _ _ _ => by first | exact .inl rfl | exact .inr rfl) (fun _ _ _ _ _ => rfl) (fun _ _ _ _ _ => rfl) (fun _ _ _ _ _ => rfl) (fun _ _ _ _ _ => rfl)
  | exact Dn.dts_nil
  | (refine' Dn.dts_one ?_ <;> walk_at "dn")
  | (refine' Dn.dt_cmp (by assumption) ?_ ?_ <;> walk_at "dn")
  | (refine' Dn.dt_chain (by assumption) ?_ ?_ ?_ <;> walk_at "dn")
  | (refine' Dn.dt_not ?_ <;> walk_at "dn")
  | (refine' Dn.dt_w (Dn.dw_and ?_ ?_) <;> walk_at "dn")
  | (refine' Dn.dt_w (Dn.dw_or ?_ ?_) <;> walk_at "dn")
  | (refine' Dn.dw_and ?_ ?_ <;> walk_at "dn")
  | (refine' Dn.dw_or ?_ ?_ <;> walk_at "dn")
  | (refine' Dn.dw_and1 ?_ <;> walk_at "dn")
  | (refine' Dn.dw_or1 ?_ <;> walk_at "dn")
  | (refine' Dn.dt_val ?_ <;> walk_at "dn")
  | (refine' Dn.ds_try1 (by assumption) rfl (fun _ _ => ?_) ?_ ?_ ⟨rfl, by decide, Or.inl (by assumption)⟩ (by assumption) (by assumption) <;> walk_at "dn")
  | exact Dn.dh_str
  | exact Dn.dh_int
  | exact Dn.dh_fld rfl (by assumption) (by assumption)
  | (refine' Dn.dh_tup ?_ <;> walk_at "dn")
  | exact Dn.DenHs.nil
  | (refine' Dn.DenHs.cons ?_ rfl ?_ <;> walk_at "dn")
  | exact Dn.ds_nil
  | exact Dn.DenCls.nil
  | (refine' Dn.DenCls.cons rfl rfl ⟨rfl, by decide, Or.inl (by assumption)⟩ (by assumption) (by assumption) (fun c hc => by cases List.mem_singleton.mp hc; walk_at "dn") ?_ <;> walk_at "dn")
  | (refine' Dn.ds_tryS (by assumption) (fun _ _ => ?_) ?_ ?_ <;> walk_at "dn")
  | (refine' Dn.ds_frzAt ?_ <;> walk_at "dn")
  | (refine' Dn.ds_last ?_ <;> walk_at "dn")
  | (refine' Dn.ds_flat ?_ <;> walk_at "dn")
  | (refine' Dn.ds_asgLcM rfl (by assumption) rfl rfl ?_ ?_ ?_ ?_ ?_ ?_ ?_ <;> first | (exact Dn.blkApply (by assumption) (by decide +kernel)) | (exact fun _ _ _ _ _ => by first | exact Or.inl rfl | exact Or.inr rfl) | walk_at "dn")
  | (refine' Dn.ds_asgNN rfl (by assumption) rfl ?_ ?_ ?_ ?_ ?_ <;> walk_at "dn")
  | (refine' Dn.ds_setF (by assumption) (by assumption) ?_ ?_ ?_ <;> walk_at "dn")
  | (refine' Dn.ds_appN ?_ ?_ ?_ <;> walk_at "dn")
  | exact Dn.ds_retN
  | exact Dn.ds_brk
  | exact Dn.ds_cont
  | (refine' Dn.ds_asgLc rfl (by assumption) rfl ?_ ?_ ?_ ?_ ?_ ?_ <;> walk_at "dn")
  | (refine' Dn.ds_asgLcN rfl (by assumption) rfl ?_ ?_ ?_ ?_ ?_ ?_ <;> walk_at "dn")
  | (refine' Dn.ds_asg (by assumption) rfl ?_ ?_ <;> walk_at "dn")
  | (refine' Dn.ds_asgN (by assumption) rfl ?_ ?_ <;> walk_at "dn")
  | (refine' Dn.ds_asg2 ?_ ?_ ?_ <;> walk_at "dn")
  | (refine' Dn.ds_put ?_ ?_ ?_ ?_ <;> walk_at "dn")
  | (refine' Dn.ds_app ?_ ?_ ?_ <;> walk_at "dn")
  | (refine' Dn.ds_ins ?_ ?_ ?_ ?_ <;> walk_at "dn")
  | (refine' Dn.ds_ret ?_ <;> walk_at "dn")
  | (refine' Dn.ds_if ?_ ?_ ?_ ?_ <;> walk_at "dn")
  | (refine' Dn.ds_for ?_ ?_ ?_ ?_ rfl <;> walk_at "dn")
  | (refine' Dn.ds_while _ ?_ ?_ ?_ <;> walk_at "dn")
  | (refine' Dn.ds_raise (by with_reducible assumption) (by exact ⟨rfl, rfl, rfl, rfl, rfl⟩) (by assumption) (by first | decide | omega) rfl rfl ?_ <;> walk_at "dn")
  | (refine' Dn.ds_expr ?_ ?_ <;> walk_at "dn")
  | (refine' Dn.ds_pass ?_ <;> walk_at "dn"))
namespace k43
open PySem PySem.Spec L2 Dv Dn
def top (i : Nat) : Stmt := PySem.Challenge.pw_pageshares_k43_factors.main.body.getD i (.Pass ⟨0, 0, 0, 0⟩)
def inCls (s : Stmt) (i : Nat) : Stmt :=
  match s with
  | .ClassDef _ _ _ b _ _ _ _ _ _ _ => b.getD i (.Pass ⟨0, 0, 0, 0⟩)
  | _ => .Pass ⟨0, 0, 0, 0⟩
def msgOf (s : Stmt) : Expr := match defBody s with
  | .Expr (.Call _ [_, e] _ _) _ :: _ => e
  | _ => .Constant .none 0 ⟨0, 0, 0, 0⟩
section
variable {PP : Program} {w : World} {K : PySem.W.Frag} {mg : Str → Option Value} {base : Heap} {f : Addr} {fd : FuncData}
abbrev s_u_told : Stmt := top 6
abbrev n_u_told : List Str := ["value", "entries", "entry"]
theorem sc_u_told : FnScope n_u_told ["value"] (defScope s_u_told) := ⟨rfl, rfl, rfl, by decide +kernel, rfl, by decide +kernel, by decide +kernel⟩
theorem ok_u_told {n : Nat} {self : FD} (hself : Cal PP w K mg base "_told" (n + 0) self) (hB : Bx mg) (g_MOST_BITS : ∃ u, mg "MOST_BITS" = some u ∧ RelV (V.int 200) u) (F : Fun K "_told" "_told" s_u_told f fd) :
    FnOk PP w K mg base (L2.CX PP w) (n + 0 + 1) f fd ["value"] (Pr K (preF (runDef 1 3 0 (d_u_told self)))) := ok_run F sc_u_told fun cdv A outer s H E X hX hr => by
  have nd : X.N.Nodup := by rw [hX]; exact sc_u_told.nd
  have hb : BlkH X n_u_told (defScope s_u_told) := by rw [hX]; exact ⟨rfl, rfl⟩
  subst hX
  conv => arg 3; whnf
  unfold d_u_told
  walk_at "dn"
abbrev s_InvalidFraction___init : Stmt := inCls (top 4) 0
abbrev n_InvalidFraction___init : List Str := ["self", "name"]
theorem sc_InvalidFraction___init : FnScope n_InvalidFraction___init ["self", "name"] (defScope s_InvalidFraction___init) := ⟨rfl, rfl, rfl, by decide +kernel, rfl, by decide +kernel, by decide +kernel⟩
theorem ok_InvalidFraction___init {CB : Addr} (hB : Bx mg) (c_told : Cal PP w K mg base "_told" 3 (f_u_told 3)) (T : ExnC K (clsA K "InvalidFraction")) (hn0 : PySem.W.findIn K (.ref (clsA K "InvalidFraction")) "name" = some none) (hS : mg "ShareError" = some (.ref CB))
    (hga : PySem.W.specialIn K (.ref CB) "__getattribute__" = some (some (.builtin "type.__getattribute__"))) (hrd : PySem.W.readsIn K CB (.type "type") = true)
    (hfc : PySem.W.findCls K (.ref CB) (.type "type") "__init__" = some (.val (.builtin "ArithmeticError.__init__")))
    (F : Fun K "__init__" "InvalidFraction.__init__" s_InvalidFraction___init f fd) : FnOk PP w K mg base (L2.CX PP w) 4 f fd ["self", "name"] (spInit (clsA K "InvalidFraction") ["name"] (okM K m_InvalidFraction)) := by
  refine F.okX sc_InvalidFraction___init (fun vs H Q E h => ?_) (fun cdv A outer s H vs Q E hr h => ?_)
  · obtain ⟨a, xs, rfl, hl, _⟩ := h
    show xs.length + 1 = 2
    rw [hl]
    rfl
  obtain ⟨a, xs, rfl, hl, ⟨ds, hm, hds⟩, ha, q⟩ := h
  obtain ⟨v0, rfl⟩ : ∃ v0, xs = [v0] := by
    match xs, hl with
    | [v0], _ => exact ⟨v0, rfl⟩
  have pe := fun X e (h : Den X e m_InvalidFraction) => msg_run h hm
  have hd := pe _ _ (show Den (cxOf (L2.CX PP w) PP w K mg base n_InvalidFraction___init "InvalidFraction.__init__" (defScope s_InvalidFraction___init) f cdv A outer s H E) (msgOf s_InvalidFraction___init) m_InvalidFraction by
    have hb : BlkH (cxOf (L2.CX PP w) PP w K mg base n_InvalidFraction___init "InvalidFraction.__init__" (defScope s_InvalidFraction___init) f cdv A outer s H E) n_InvalidFraction___init (defScope s_InvalidFraction___init) := ⟨rfl, rfl⟩
    conv => arg 2; whnf
    unfold m_InvalidFraction
    walk_at "dn")
  obtain ⟨d, hd⟩ := hd
  refine ⟨_, pss_cons (ps_expr (pe_base (by exact rfl) hS hga hrd hfc (pa_cons (pv 0) (pa_cons hd pa_nil)))) (pss_one (ps_sto (pv 0) (pv 1))), ?_⟩
  refine ⟨_, rfl, [], init_sr hds rfl, fun v H1 m1 e1 r1 => ?_⟩
  have mono : ∀ (b : Addr) (o : HO), H b = some o → H1 b = some o := fun b o hb => by
    have := e1 b o (by rw [hid_nil]; exact hb)
    rwa [hid_nil] at this
  refine ⟨a, _, _, rfl, (by decide : 1 ≤ 1000), T, mono _ _ ha, ?_⟩
  refine ⟨_, rfl, _, rfl, a, _, rfl, T, hn0, .inl ⟨mono _ _ ha, fun dx h1 h2 => ?_⟩⟩
  have h0 : H dx = none := by
    cases z : H dx with
    | none => rfl
    | some o => rw [mono _ _ z] at h1; cases h1
  refine q dx _ h0 h2 upd_same ?_ fun b o h3 h4 => ?_
  · rw [upd_ne h2, upd_same]
    rfl
  · have h5 := mono _ _ h4
    rw [upd_ne h3, upd_ne (fun z => by rw [z, h1] at h5; cases h5)]
    exact h5
abbrev s_InvalidBound___init : Stmt := inCls (top 5) 0
abbrev n_InvalidBound___init : List Str := ["self", "name"]
theorem sc_InvalidBound___init : FnScope n_InvalidBound___init ["self", "name"] (defScope s_InvalidBound___init) := ⟨rfl, rfl, rfl, by decide +kernel, rfl, by decide +kernel, by decide +kernel⟩
theorem ok_InvalidBound___init {CB : Addr} (hB : Bx mg) (c_told : Cal PP w K mg base "_told" 3 (f_u_told 3)) (T : ExnC K (clsA K "InvalidBound")) (hn0 : PySem.W.findIn K (.ref (clsA K "InvalidBound")) "name" = some none) (hS : mg "ShareError" = some (.ref CB))
    (hga : PySem.W.specialIn K (.ref CB) "__getattribute__" = some (some (.builtin "type.__getattribute__"))) (hrd : PySem.W.readsIn K CB (.type "type") = true)
    (hfc : PySem.W.findCls K (.ref CB) (.type "type") "__init__" = some (.val (.builtin "ArithmeticError.__init__")))
    (F : Fun K "__init__" "InvalidBound.__init__" s_InvalidBound___init f fd) : FnOk PP w K mg base (L2.CX PP w) 4 f fd ["self", "name"] (spInit (clsA K "InvalidBound") ["name"] (okM K m_InvalidBound)) := by
  refine F.okX sc_InvalidBound___init (fun vs H Q E h => ?_) (fun cdv A outer s H vs Q E hr h => ?_)
  · obtain ⟨a, xs, rfl, hl, _⟩ := h
    show xs.length + 1 = 2
    rw [hl]
    rfl
  obtain ⟨a, xs, rfl, hl, ⟨ds, hm, hds⟩, ha, q⟩ := h
  obtain ⟨v0, rfl⟩ : ∃ v0, xs = [v0] := by
    match xs, hl with
    | [v0], _ => exact ⟨v0, rfl⟩
  have pe := fun X e (h : Den X e m_InvalidBound) => msg_run h hm
  have hd := pe _ _ (show Den (cxOf (L2.CX PP w) PP w K mg base n_InvalidBound___init "InvalidBound.__init__" (defScope s_InvalidBound___init) f cdv A outer s H E) (msgOf s_InvalidBound___init) m_InvalidBound by
    have hb : BlkH (cxOf (L2.CX PP w) PP w K mg base n_InvalidBound___init "InvalidBound.__init__" (defScope s_InvalidBound___init) f cdv A outer s H E) n_InvalidBound___init (defScope s_InvalidBound___init) := ⟨rfl, rfl⟩
    conv => arg 2; whnf
    unfold m_InvalidBound
    walk_at "dn")
  obtain ⟨d, hd⟩ := hd
  refine ⟨_, pss_cons (ps_expr (pe_base (by exact rfl) hS hga hrd hfc (pa_cons (pv 0) (pa_cons hd pa_nil)))) (pss_one (ps_sto (pv 0) (pv 1))), ?_⟩
  refine ⟨_, rfl, [], init_sr hds rfl, fun v H1 m1 e1 r1 => ?_⟩
  have mono : ∀ (b : Addr) (o : HO), H b = some o → H1 b = some o := fun b o hb => by
    have := e1 b o (by rw [hid_nil]; exact hb)
    rwa [hid_nil] at this
  refine ⟨a, _, _, rfl, (by decide : 1 ≤ 1000), T, mono _ _ ha, ?_⟩
  refine ⟨_, rfl, _, rfl, a, _, rfl, T, hn0, .inl ⟨mono _ _ ha, fun dx h1 h2 => ?_⟩⟩
  have h0 : H dx = none := by
    cases z : H dx with
    | none => rfl
    | some o => rw [mono _ _ z] at h1; cases h1
  refine q dx _ h0 h2 upd_same ?_ fun b o h3 h4 => ?_
  · rw [upd_ne h2, upd_same]
    rfl
  · have h5 := mono _ _ h4
    rw [upd_ne h3, upd_ne (fun z => by rw [z, h1] at h5; cases h5)]
    exact h5
abbrev s_is_integer : Stmt := top 8
abbrev n_is_integer : List Str := ["value"]
theorem sc_is_integer : FnScope n_is_integer ["value"] (defScope s_is_integer) := ⟨rfl, rfl, rfl, by decide +kernel, rfl, by decide +kernel, by decide +kernel⟩
theorem ok_is_integer (hB : Bx mg) (F : Fun K "is_integer" "is_integer" s_is_integer f fd) :
    FnOk PP w K mg base (L2.CX PP w) 1 f fd ["value"] (Pr K (preF f_is_integer)) := ok_run F sc_is_integer fun cdv A outer s H E X hX hr => by
  have nd : X.N.Nodup := by rw [hX]; exact sc_is_integer.nd
  have hb : BlkH X n_is_integer (defScope s_is_integer) := by rw [hX]; exact ⟨rfl, rfl⟩
  subst hX
  conv => arg 3; whnf
  unfold d_is_integer
  walk_at "dn"
abbrev s_is_integer_within : Stmt := top 9
abbrev n_is_integer_within : List Str := ["value", "low", "high"]
theorem sc_is_integer_within : FnScope n_is_integer_within ["value", "low", "high"] (defScope s_is_integer_within) := ⟨rfl, rfl, rfl, by decide +kernel, rfl, by decide +kernel, by decide +kernel⟩
theorem ok_is_integer_within (hB : Bx mg) (c_is_integer : Cal PP w K mg base "is_integer" 1 f_is_integer) (F : Fun K "is_integer_within" "is_integer_within" s_is_integer_within f fd) :
    FnOk PP w K mg base (L2.CX PP w) 2 f fd ["value", "low", "high"] (Pr K (preF f_is_integer_within)) := ok_run F sc_is_integer_within fun cdv A outer s H E X hX hr => by
  have nd : X.N.Nodup := by rw [hX]; exact sc_is_integer_within.nd
  have hb : BlkH X n_is_integer_within (defScope s_is_integer_within) := by rw [hX]; exact ⟨rfl, rfl⟩
  subst hX
  conv => arg 3; whnf
  unfold d_is_integer_within
  walk_at "dn"
abbrev s_is_pair : Stmt := top 10
abbrev n_is_pair : List Str := ["value"]
theorem sc_is_pair : FnScope n_is_pair ["value"] (defScope s_is_pair) := ⟨rfl, rfl, rfl, by decide +kernel, rfl, by decide +kernel, by decide +kernel⟩
theorem ok_is_pair (hB : Bx mg) (F : Fun K "is_pair" "is_pair" s_is_pair f fd) :
    FnOk PP w K mg base (L2.CX PP w) 1 f fd ["value"] (Pr K (preF f_is_pair)) := ok_run F sc_is_pair fun cdv A outer s H E X hX hr => by
  have nd : X.N.Nodup := by rw [hX]; exact sc_is_pair.nd
  have hb : BlkH X n_is_pair (defScope s_is_pair) := by rw [hX]; exact ⟨rfl, rfl⟩
  subst hX
  conv => arg 3; whnf
  unfold d_is_pair
  walk_at "dn"
abbrev s_check_comings : Stmt := top 11
abbrev n_check_comings : List Str := ["n", "most"]
theorem sc_check_comings : FnScope n_check_comings ["n", "most"] (defScope s_check_comings) := ⟨rfl, rfl, rfl, by decide +kernel, rfl, by decide +kernel, by decide +kernel⟩
theorem ok_check_comings (hB : Bx mg) (c_is_integer_within : Cal PP w K mg base "is_integer_within" 2 f_is_integer_within) (e_InvalidBound : Err PP w K mg base 4 "InvalidBound" ["name"] (okM K m_InvalidBound)) (F : Fun K "check_comings" "check_comings" s_check_comings f fd) :
    FnOk PP w K mg base (L2.CX PP w) 6 f fd ["n", "most"] (Pr K (preF f_check_comings)) := ok_run F sc_check_comings fun cdv A outer s H E X hX hr => by
  have nd : X.N.Nodup := by rw [hX]; exact sc_check_comings.nd
  have hb : BlkH X n_check_comings (defScope s_check_comings) := by rw [hX]; exact ⟨rfl, rfl⟩
  subst hX
  conv => arg 3; whnf
  unfold d_check_comings
  walk_at "dn"
abbrev s_is_fraction : Stmt := top 13
abbrev n_is_fraction : List Str := ["value"]
theorem sc_is_fraction : FnScope n_is_fraction ["value"] (defScope s_is_fraction) := ⟨rfl, rfl, rfl, by decide +kernel, rfl, by decide +kernel, by decide +kernel⟩
theorem ok_is_fraction (hB : Bx mg) (c_is_pair : Cal PP w K mg base "is_pair" 1 f_is_pair) (c_is_integer : Cal PP w K mg base "is_integer" 1 f_is_integer) (F : Fun K "is_fraction" "is_fraction" s_is_fraction f fd) :
    FnOk PP w K mg base (L2.CX PP w) 2 f fd ["value"] (Pr K (preF f_is_fraction)) := ok_run F sc_is_fraction fun cdv A outer s H E X hX hr => by
  have nd : X.N.Nodup := by rw [hX]; exact sc_is_fraction.nd
  have hb : BlkH X n_is_fraction (defScope s_is_fraction) := by rw [hX]; exact ⟨rfl, rfl⟩
  subst hX
  conv => arg 3; whnf
  unfold d_is_fraction
  walk_at "dn"
abbrev s_u_terms : Stmt := top 15
abbrev n_u_terms : List Str := ["value", "name"]
theorem sc_u_terms : FnScope n_u_terms ["value", "name"] (defScope s_u_terms) := ⟨rfl, rfl, rfl, by decide +kernel, rfl, by decide +kernel, by decide +kernel⟩
theorem ok_u_terms (hB : Bx mg) (c_is_integer : Cal PP w K mg base "is_integer" 1 f_is_integer) (c_is_fraction : Cal PP w K mg base "is_fraction" 2 f_is_fraction) (e_InvalidFraction : Err PP w K mg base 4 "InvalidFraction" ["name"] (okM K m_InvalidFraction)) (F : Fun K "_terms" "_terms" s_u_terms f fd) :
    FnOk PP w K mg base (L2.CX PP w) 6 f fd ["value", "name"] (Pr K (preF f_u_terms)) := ok_run F sc_u_terms fun cdv A outer s H E X hX hr => by
  have nd : X.N.Nodup := by rw [hX]; exact sc_u_terms.nd
  have hb : BlkH X n_u_terms (defScope s_u_terms) := by rw [hX]; exact ⟨rfl, rfl⟩
  subst hX
  conv => arg 3; whnf
  unfold d_u_terms
  walk_at "dn"
abbrev s_u_lowest : Stmt := top 16
abbrev n_u_lowest : List Str := ["above", "below", "shared"]
theorem sc_u_lowest : FnScope n_u_lowest ["above", "below"] (defScope s_u_lowest) := ⟨rfl, rfl, rfl, by decide +kernel, rfl, by decide +kernel, by decide +kernel⟩
theorem ok_u_lowest (hB : Bx mg) (l_gcd : mg "gcd" = some (.builtin "math.gcd")) (F : Fun K "_lowest" "_lowest" s_u_lowest f fd) :
    FnOk PP w K mg base (L2.CX PP w) 1 f fd ["above", "below"] (Pr K (preF f_u_lowest)) := ok_run F sc_u_lowest fun cdv A outer s H E X hX hr => by
  have nd : X.N.Nodup := by rw [hX]; exact sc_u_lowest.nd
  have hb : BlkH X n_u_lowest (defScope s_u_lowest) := by rw [hX]; exact ⟨rfl, rfl⟩
  subst hX
  conv => arg 3; whnf
  unfold d_u_lowest
  walk_at "dn"
abbrev s_fraction : Stmt := top 14
abbrev n_fraction : List Str := ["value", "above", "below"]
theorem sc_fraction : FnScope n_fraction ["value"] (defScope s_fraction) := ⟨rfl, rfl, rfl, by decide +kernel, rfl, by decide +kernel, by decide +kernel⟩
theorem ok_fraction (hB : Bx mg) (c_u_terms : Cal PP w K mg base "_terms" 6 f_u_terms) (c_u_lowest : Cal PP w K mg base "_lowest" 1 f_u_lowest) (F : Fun K "fraction" "fraction" s_fraction f fd) :
    FnOk PP w K mg base (L2.CX PP w) 7 f fd ["value"] (Pr K (preF f_fraction)) := ok_run F sc_fraction fun cdv A outer s H E X hX hr => by
  have nd : X.N.Nodup := by rw [hX]; exact sc_fraction.nd
  have hb : BlkH X n_fraction (defScope s_fraction) := by rw [hX]; exact ⟨rfl, rfl⟩
  subst hX
  conv => arg 3; whnf
  unfold d_fraction
  walk_at "dn"
abbrev s_quotient : Stmt := top 18
abbrev n_quotient : List Str := ["above", "below"]
theorem sc_quotient : FnScope n_quotient ["above", "below"] (defScope s_quotient) := ⟨rfl, rfl, rfl, by decide +kernel, rfl, by decide +kernel, by decide +kernel⟩
theorem ok_quotient (hB : Bx mg) (c_fraction : Cal PP w K mg base "fraction" 7 f_fraction) (F : Fun K "quotient" "quotient" s_quotient f fd) :
    FnOk PP w K mg base (L2.CX PP w) 8 f fd ["above", "below"] (Pr K (preF f_quotient)) := ok_run F sc_quotient fun cdv A outer s H E X hX hr => by
  have nd : X.N.Nodup := by rw [hX]; exact sc_quotient.nd
  have hb : BlkH X n_quotient (defScope s_quotient) := by rw [hX]; exact ⟨rfl, rfl⟩
  subst hX
  conv => arg 3; whnf
  unfold d_quotient
  walk_at "dn"
abbrev s_u_product : Stmt := top 25
abbrev n_u_product : List Str := ["numbers", "found", "number"]
theorem sc_u_product : FnScope n_u_product ["numbers"] (defScope s_u_product) := ⟨rfl, rfl, rfl, by decide +kernel, rfl, by decide +kernel, by decide +kernel⟩
theorem ok_u_product (hB : Bx mg) (F : Fun K "_product" "_product" s_u_product f fd) :
    FnOk PP w K mg base (L2.CX PP w) 1 f fd ["numbers"] (Pr K (preF f_u_product)) := ok_run F sc_u_product fun cdv A outer s H E X hX hr => by
  have nd : X.N.Nodup := by rw [hX]; exact sc_u_product.nd
  have hb : BlkH X n_u_product (defScope s_u_product) := by rw [hX]; exact ⟨rfl, rfl⟩
  subst hX
  conv => arg 3; whnf
  unfold d_u_product
  walk_at "dn"
abbrev s_u_factor : Stmt := top 24
abbrev n_u_factor : List Str := ["root", "start", "n", "tops", "lows", "k", "s"]
theorem sc_u_factor : FnScope n_u_factor ["root", "start", "n"] (defScope s_u_factor) := ⟨rfl, rfl, rfl, by decide +kernel, rfl, by decide +kernel, by decide +kernel⟩
theorem ok_u_factor (hB : Bx mg) (c_quotient : Cal PP w K mg base "quotient" 8 f_quotient) (c_u_product : Cal PP w K mg base "_product" 1 f_u_product) (F : Fun K "_factor" "_factor" s_u_factor f fd) :
    FnOk PP w K mg base (L2.CX PP w) 9 f fd ["root", "start", "n"] (Pr K (preF f_u_factor)) := ok_run F sc_u_factor fun cdv A outer s H E X hX hr => by
  have nd : X.N.Nodup := by rw [hX]; exact sc_u_factor.nd
  have hb : BlkH X n_u_factor (defScope s_u_factor) := by rw [hX]; exact ⟨rfl, rfl⟩
  subst hX
  conv => arg 3; whnf
  unfold d_u_factor
  walk_at "dn"
abbrev s_factor : Stmt := top 23
abbrev n_factor : List Str := ["root", "start", "n"]
theorem sc_factor : FnScope n_factor ["root", "start", "n"] (defScope s_factor) := ⟨rfl, rfl, rfl, by decide +kernel, rfl, by decide +kernel, by decide +kernel⟩
theorem ok_factor (hB : Bx mg) (c_check_comings : Cal PP w K mg base "check_comings" 6 f_check_comings) (c_u_factor : Cal PP w K mg base "_factor" 9 f_u_factor) (c_is_integer_within : Cal PP w K mg base "is_integer_within" 2 f_is_integer_within) (c_is_integer : Cal PP w K mg base "is_integer" 1 f_is_integer) (g_LEAST_ROOT : ∃ u, mg "LEAST_ROOT" = some u ∧ RelV (V.int (-25)) u) (g_GREATEST_ROOT : ∃ u, mg "GREATEST_ROOT" = some u ∧ RelV (V.int 1) u) (g_MOST_COMINGS : ∃ u, mg "MOST_COMINGS" = some u ∧ RelV (V.int 10000000000000000000000000000000000000000) u) (e_InvalidBound : Err PP w K mg base 4 "InvalidBound" ["name"] (okM K m_InvalidBound)) (F : Fun K "factor" "factor" s_factor f fd) :
    FnOk PP w K mg base (L2.CX PP w) 10 f fd ["root", "start", "n"] (Pr K (preF f_factor)) := ok_run F sc_factor fun cdv A outer s H E X hX hr => by
  have nd : X.N.Nodup := by rw [hX]; exact sc_factor.nd
  have hb : BlkH X n_factor (defScope s_factor) := by rw [hX]; exact ⟨rfl, rfl⟩
  subst hX
  conv => arg 3; whnf
  unfold d_factor
  walk_at "dn"
abbrev s_law_is_int : Stmt := top 27
abbrev n_law_is_int : List Str := ["_law_told"]
theorem sc_law_is_int : FnScope n_law_is_int ["_law_told"] (defScope s_law_is_int) := ⟨rfl, rfl, rfl, by decide +kernel, rfl, by decide +kernel, by decide +kernel⟩
theorem ok_law_is_int (hB : Bx mg) (F : Fun K "_law_is_int" "_law_is_int" s_law_is_int f fd) :
    FnOk PP w K mg base (L2.CX PP w) 1 f fd ["_law_told"] (Pr K (preF f_law_is_int)) := ok_run F sc_law_is_int fun cdv A outer s H E X hX hr => by
  have nd : X.N.Nodup := by rw [hX]; exact sc_law_is_int.nd
  have hb : BlkH X n_law_is_int (defScope s_law_is_int) := by rw [hX]; exact ⟨rfl, rfl⟩
  subst hX
  conv => arg 3; whnf
  unfold d_law_is_int
  walk_at "dn"
abbrev s_law_same : Stmt := top 28
abbrev n_law_same : List Str := ["_law_told", "_law_due", "_law_k"]
theorem sc_law_same : FnScope n_law_same ["_law_told", "_law_due"] (defScope s_law_same) := ⟨rfl, rfl, rfl, by decide +kernel, rfl, by decide +kernel, by decide +kernel⟩
theorem ok_law_same {n : Nat} {self : FD} (hself : Cal PP w K mg base "_law_same" (n + 1) self) (hB : Bx mg) (c_law_is_int : Cal PP w K mg base "_law_is_int" 1 f_law_is_int) (F : Fun K "_law_same" "_law_same" s_law_same f fd) :
    FnOk PP w K mg base (L2.CX PP w) (n + 1 + 1) f fd ["_law_told", "_law_due"] (Pr K (preF (runDef 2 3 0 (d_law_same self)))) := ok_run F sc_law_same fun cdv A outer s H E X hX hr => by
  have nd : X.N.Nodup := by rw [hX]; exact sc_law_same.nd
  have hb : BlkH X n_law_same (defScope s_law_same) := by rw [hX]; exact ⟨rfl, rfl⟩
  subst hX
  conv => arg 3; whnf
  unfold d_law_same
  walk_at "dn"
abbrev s_law_gcd : Stmt := top 29
abbrev n_law_gcd : List Str := ["_law_one", "_law_other", "_law_left"]
theorem sc_law_gcd : FnScope n_law_gcd ["_law_one", "_law_other"] (defScope s_law_gcd) := ⟨rfl, rfl, rfl, by decide +kernel, rfl, by decide +kernel, by decide +kernel⟩
theorem ok_law_gcd (hB : Bx mg) (F : Fun K "_law_gcd" "_law_gcd" s_law_gcd f fd) :
    FnOk PP w K mg base (L2.CX PP w) 1 f fd ["_law_one", "_law_other"] (Pr K (preF f_law_gcd)) := ok_run F sc_law_gcd fun cdv A outer s H E X hX hr => by
  have nd : X.N.Nodup := by rw [hX]; exact sc_law_gcd.nd
  have hb : BlkH X n_law_gcd (defScope s_law_gcd) := by rw [hX]; exact ⟨rfl, rfl⟩
  subst hX
  conv => arg 3; whnf
  unfold d_law_gcd
  walk_at "dn"
abbrev s_law_low : Stmt := top 30
abbrev n_law_low : List Str := ["_law_top", "_law_bottom", "_law_common"]
theorem sc_law_low : FnScope n_law_low ["_law_top", "_law_bottom"] (defScope s_law_low) := ⟨rfl, rfl, rfl, by decide +kernel, rfl, by decide +kernel, by decide +kernel⟩
theorem ok_law_low (hB : Bx mg) (c_law_gcd : Cal PP w K mg base "_law_gcd" 1 f_law_gcd) (F : Fun K "_law_low" "_law_low" s_law_low f fd) :
    FnOk PP w K mg base (L2.CX PP w) 2 f fd ["_law_top", "_law_bottom"] (Pr K (preF f_law_low)) := ok_run F sc_law_low fun cdv A outer s H E X hX hr => by
  have nd : X.N.Nodup := by rw [hX]; exact sc_law_low.nd
  have hb : BlkH X n_law_low (defScope s_law_low) := by rw [hX]; exact ⟨rfl, rfl⟩
  subst hX
  conv => arg 3; whnf
  unfold d_law_low
  walk_at "dn"
abbrev s_law_is_fraction : Stmt := top 31
abbrev n_law_is_fraction : List Str := ["_law_told"]
theorem sc_law_is_fraction : FnScope n_law_is_fraction ["_law_told"] (defScope s_law_is_fraction) := ⟨rfl, rfl, rfl, by decide +kernel, rfl, by decide +kernel, by decide +kernel⟩
theorem ok_law_is_fraction (hB : Bx mg) (c_law_gcd : Cal PP w K mg base "_law_gcd" 1 f_law_gcd) (c_law_is_int : Cal PP w K mg base "_law_is_int" 1 f_law_is_int) (F : Fun K "_law_is_fraction" "_law_is_fraction" s_law_is_fraction f fd) :
    FnOk PP w K mg base (L2.CX PP w) 2 f fd ["_law_told"] (Pr K (preF f_law_is_fraction)) := ok_run F sc_law_is_fraction fun cdv A outer s H E X hX hr => by
  have nd : X.N.Nodup := by rw [hX]; exact sc_law_is_fraction.nd
  have hb : BlkH X n_law_is_fraction (defScope s_law_is_fraction) := by rw [hX]; exact ⟨rfl, rfl⟩
  subst hX
  conv => arg 3; whnf
  unfold d_law_is_fraction
  walk_at "dn"
abbrev s_law_times : Stmt := top 32
abbrev n_law_times : List Str := ["_law_one", "_law_other"]
theorem sc_law_times : FnScope n_law_times ["_law_one", "_law_other"] (defScope s_law_times) := ⟨rfl, rfl, rfl, by decide +kernel, rfl, by decide +kernel, by decide +kernel⟩
theorem ok_law_times (hB : Bx mg) (c_law_low : Cal PP w K mg base "_law_low" 2 f_law_low) (F : Fun K "_law_times" "_law_times" s_law_times f fd) :
    FnOk PP w K mg base (L2.CX PP w) 3 f fd ["_law_one", "_law_other"] (Pr K (preF f_law_times)) := ok_run F sc_law_times fun cdv A outer s H E X hX hr => by
  have nd : X.N.Nodup := by rw [hX]; exact sc_law_times.nd
  have hb : BlkH X n_law_times (defScope s_law_times) := by rw [hX]; exact ⟨rfl, rfl⟩
  subst hX
  conv => arg 3; whnf
  unfold d_law_times
  walk_at "dn"
abbrev s_law_start : Stmt := top 33
abbrev n_law_start : List Str := ["_law_script"]
theorem sc_law_start : FnScope n_law_start ["_law_script"] (defScope s_law_start) := ⟨rfl, rfl, rfl, by decide +kernel, rfl, by decide +kernel, by decide +kernel⟩
theorem ok_law_start (hB : Bx mg) (F : Fun K "_law_start" "_law_start" s_law_start f fd) :
    FnOk PP w K mg base (L2.CX PP w) 1 f fd ["_law_script"] (Pr K (preF f_law_start)) := ok_run F sc_law_start fun cdv A outer s H E X hX hr => by
  have nd : X.N.Nodup := by rw [hX]; exact sc_law_start.nd
  have hb : BlkH X n_law_start (defScope s_law_start) := by rw [hX]; exact ⟨rfl, rfl⟩
  subst hX
  conv => arg 3; whnf
  unfold d_law_start
  walk_at "dn"
abbrev s_law_pull : Stmt := top 34
abbrev n_law_pull : List Str := ["_law_state", "_law_many", "_law_cell", "_law_number"]
theorem sc_law_pull : FnScope n_law_pull ["_law_state", "_law_many"] (defScope s_law_pull) := ⟨rfl, rfl, rfl, by decide +kernel, rfl, by decide +kernel, by decide +kernel⟩
theorem ok_law_pull (hB : Bx mg) (F : Fun K "_law_pull" "_law_pull" s_law_pull f fd) :
    FnOk PP w K mg base (L2.CX PP w) 1 f fd ["_law_state", "_law_many"] (Pr K (preF f_law_pull)) := ok_run F sc_law_pull fun cdv A outer s H E X hX hr => by
  have nd : X.N.Nodup := by rw [hX]; exact sc_law_pull.nd
  have hb : BlkH X n_law_pull (defScope s_law_pull) := by rw [hX]; exact ⟨rfl, rfl⟩
  subst hX
  conv => arg 3; whnf
  unfold d_law_pull
  walk_at "dn"
abbrev s_law_big : Stmt := top 35
abbrev n_law_big : List Str := ["_law_state", "_law_many", "_law_number", "_law_k"]
theorem sc_law_big : FnScope n_law_big ["_law_state", "_law_many"] (defScope s_law_big) := ⟨rfl, rfl, rfl, by decide +kernel, rfl, by decide +kernel, by decide +kernel⟩
theorem ok_law_big (hB : Bx mg) (c_law_pull : Cal PP w K mg base "_law_pull" 1 f_law_pull) (F : Fun K "_law_big" "_law_big" s_law_big f fd) :
    FnOk PP w K mg base (L2.CX PP w) 2 f fd ["_law_state", "_law_many"] (Pr K (preF f_law_big)) := ok_run F sc_law_big fun cdv A outer s H E X hX hr => by
  have nd : X.N.Nodup := by rw [hX]; exact sc_law_big.nd
  have hb : BlkH X n_law_big (defScope s_law_big) := by rw [hX]; exact ⟨rfl, rfl⟩
  subst hX
  conv => arg 3; whnf
  unfold d_law_big
  walk_at "dn"
abbrev s_law_index : Stmt := top 36
abbrev n_law_index : List Str := ["_law_state", "_law_most", "_law_odd"]
theorem sc_law_index : FnScope n_law_index ["_law_state", "_law_most"] (defScope s_law_index) := ⟨rfl, rfl, rfl, by decide +kernel, rfl, by decide +kernel, by decide +kernel⟩
theorem ok_law_index (hB : Bx mg) (c_law_pull : Cal PP w K mg base "_law_pull" 1 f_law_pull) (F : Fun K "_law_index" "_law_index" s_law_index f fd) :
    FnOk PP w K mg base (L2.CX PP w) 2 f fd ["_law_state", "_law_most"] (Pr K (preF f_law_index)) := ok_run F sc_law_index fun cdv A outer s H E X hX hr => by
  have nd : X.N.Nodup := by rw [hX]; exact sc_law_index.nd
  have hb : BlkH X n_law_index (defScope s_law_index) := by rw [hX]; exact ⟨rfl, rfl⟩
  subst hX
  conv => arg 3; whnf
  unfold d_law_index
  walk_at "dn"
abbrev s_law_asked : Stmt := top 37
abbrev n_law_asked : List Str := ["_law_root", "_law_start_here", "_law_n", "e"]
theorem sc_law_asked : FnScope n_law_asked ["_law_root", "_law_start_here", "_law_n"] (defScope s_law_asked) := ⟨rfl, rfl, rfl, by decide +kernel, rfl, by decide +kernel, by decide +kernel⟩
theorem ok_law_asked (hB : Bx mg) (c_factor : Cal PP w K mg base "factor" 10 f_factor) (n_InvalidBound : mg "InvalidBound" = some (.ref (clsA K "InvalidBound"))) (x_InvalidBound : PySem.W.exmOne K (.ref (clsA K "InvalidBound")) (.ref (clsA K "InvalidBound")) = some true) (o_InvalidBound : ∀ c ∈ ([] : List Str), PySem.W.exmOne K (.ref (clsA K c)) (.ref (clsA K "InvalidBound")) = some false) (T_InvalidBound : XfC K (clsA K "InvalidBound")) (t_InvalidBound_name : PySem.W.findIn K (.ref (clsA K "InvalidBound")) "name" = some none) (F : Fun K "_law_asked" "_law_asked" s_law_asked f fd) :
    FnOk PP w K mg base (L2.CX PP w) 11 f fd ["_law_root", "_law_start_here", "_law_n"] (Pr K (preF f_law_asked)) := ok_run F sc_law_asked fun cdv A outer s H E X hX hr => by
  have nd : X.N.Nodup := by rw [hX]; exact sc_law_asked.nd
  have hb : BlkH X n_law_asked (defScope s_law_asked) := by rw [hX]; exact ⟨rfl, rfl⟩
  subst hX
  conv => arg 3; whnf
  unfold d_law_asked
  walk_at "dn"
abbrev s_law : Stmt := top 38
abbrev n_law : List Str := ["_law_script", "_law_state", "_law_index_here", "_law_root", "_law_start_here", "_law_good", "_law_number", "_law_n", "_law_due", "_law_top", "_law_bottom", "_law_k", "_law_far", "_law_told", "_law_step"]
theorem sc_law : FnScope n_law ["_law_script"] (defScope s_law) := ⟨rfl, rfl, rfl, by decide +kernel, rfl, by decide +kernel, by decide +kernel⟩
theorem ok_law (hB : Bx mg) (c_law_start : Cal PP w K mg base "_law_start" 1 f_law_start) (c_law_index : Cal PP w K mg base "_law_index" 2 f_law_index) (c_law_pull : Cal PP w K mg base "_law_pull" 1 f_law_pull) (c_law_big : Cal PP w K mg base "_law_big" 2 f_law_big) (c_factor : Cal PP w K mg base "factor" 10 f_factor) (c_law_low : Cal PP w K mg base "_law_low" 2 f_law_low) (c_law_same : Cal PP w K mg base "_law_same" 13 (f_law_same 12)) (c_law_is_int : Cal PP w K mg base "_law_is_int" 1 f_law_is_int) (c_law_is_fraction : Cal PP w K mg base "_law_is_fraction" 2 f_law_is_fraction) (c_law_times : Cal PP w K mg base "_law_times" 3 f_law_times) (c_law_asked : Cal PP w K mg base "_law_asked" 11 f_law_asked) (F : Fun K "law" "law" s_law f fd) :
    FnOk PP w K mg base (L2.CX PP w) 14 f fd ["_law_script"] (Pr K (preF f_law)) := ok_run F sc_law fun cdv A outer s H E X hX hr => by
  have nd : X.N.Nodup := by rw [hX]; exact sc_law.nd
  have hb : BlkH X n_law (defScope s_law) := by rw [hX]; exact ⟨rfl, rfl⟩
  subst hX
  conv => arg 3; whnf
  unfold d_law
  walk_at "dn"
end
end k43
namespace k43
open PySem PySem.Spec L2 Dv Dn
theorem rows_of : ∀ {K : PySem.W.Frag} {H : Hp} (ns : List Int), RpA K H (ns.map V.int) (ns.map Dt.int)
  | _, _, [] => .nil
  | _, _, _ :: ns => .cons (.int _) (rows_of ns)
theorem law_ask {K : PySem.W.Frag} {H : Hp} {a : Addr} {ns : List Int} (h : SqL K H a (ns.map V.int)) : Pr K (preF f_law) [V.ref a] H (fun v _ => v = .bl true) (fun _ _ _ => False) := by
  have e := hid_nil H
  refine ⟨[], [.d (.lst (ns.map Dt.int))], [], fun o => o = .ret (.bl true) [], ⟨rfl, fun i j b hi => by simp at hi, fun i b hi => by simp at hi, fun i hi => by simp at hi⟩, .cons (show Rp K (hid [] H) (.ref a) _ by rw [e]; exact .lst h (rows_of ns)) .nil, ⟨[], _, rfl, List.nodup_nil, rfl, law_holds ns, rfl⟩, fun d m v H' q _ _ r => ?_, fun x m cls dd H' h _ _ _ => (by cases h), fun ds m p H' h _ => (by cases h)⟩
  cases q
  cases r
  rfl
theorem exm_one {K : PySem.W.Frag} {S : Addr} (h1 : PySem.W.subIn K (.ref S) (.type "BaseException") = some true) (h2 : PySem.W.isClsIn K S = true) (h3 : PySem.W.typeIn K (.ref S) = some (.type "type")) (h4 : PySem.W.subIn K (.ref S) (.ref S) = some true) :
    PySem.W.exmOne K (.ref S) (.ref S) = some true := by
  have h2' : (PySem.W.clsIn K S).isSome = true := h2
  simp [PySem.W.exmOne, PySem.W.kitCls, h1, h2', h3, h4]
theorem exm_no {K : PySem.W.Frag} {S T : Addr} (h1 : PySem.W.subIn K (.ref T) (.type "BaseException") = some true) (h2 : PySem.W.isClsIn K T = true) (h3 : PySem.W.typeIn K (.ref T) = some (.type "type")) (h4 : PySem.W.subIn K (.ref S) (.ref T) = some false) :
    PySem.W.exmOne K (.ref S) (.ref T) = some false := by
  have h2' : (PySem.W.clsIn K T).isSome = true := h2
  simp [PySem.W.exmOne, PySem.W.kitCls, h1, h2', h3, h4]
theorem all_mk {l : PySem.W.OpenLaw} {w : World} {K : PySem.W.Frag} {h : Heap} {mg : Str → Option Value} {fa f0 f1 f2 f3 f4 f5 f6 f7 f8 f9 f10 f11 f12 f13 f14 f15 f16 f17 f18 f19 f20 f21 f22 f23 f24 CInvalidBound NInvalidBound iInvalidBound CInvalidFraction NInvalidFraction iInvalidFraction BShareError : Addr} (X : K.In h) (G : h.Ns mainGlobals mg) (hfa : mg "law" = some (.ref fa))
    {od0 an0 : Option Addr} {sl0 : Array (Option Value)} {oc0 kV0 dc0 pm0 cd0 ct0 : Value}
    {od1 an1 : Option Addr} {sl1 : Array (Option Value)} {oc1 kV1 dc1 pm1 cd1 ct1 : Value}
    {od2 an2 : Option Addr} {sl2 : Array (Option Value)} {oc2 kV2 dc2 pm2 cd2 ct2 : Value}
    {od3 an3 : Option Addr} {sl3 : Array (Option Value)} {oc3 kV3 dc3 pm3 cd3 ct3 : Value}
    {od4 an4 : Option Addr} {sl4 : Array (Option Value)} {oc4 kV4 dc4 pm4 cd4 ct4 : Value}
    {od5 an5 : Option Addr} {sl5 : Array (Option Value)} {oc5 kV5 dc5 pm5 cd5 ct5 : Value}
    {od6 an6 : Option Addr} {sl6 : Array (Option Value)} {oc6 kV6 dc6 pm6 cd6 ct6 : Value}
    {od7 an7 : Option Addr} {sl7 : Array (Option Value)} {oc7 kV7 dc7 pm7 cd7 ct7 : Value}
    {od8 an8 : Option Addr} {sl8 : Array (Option Value)} {oc8 kV8 dc8 pm8 cd8 ct8 : Value}
    {od9 an9 : Option Addr} {sl9 : Array (Option Value)} {oc9 kV9 dc9 pm9 cd9 ct9 : Value}
    {od10 an10 : Option Addr} {sl10 : Array (Option Value)} {oc10 kV10 dc10 pm10 cd10 ct10 : Value}
    {od11 an11 : Option Addr} {sl11 : Array (Option Value)} {oc11 kV11 dc11 pm11 cd11 ct11 : Value}
    {od12 an12 : Option Addr} {sl12 : Array (Option Value)} {oc12 kV12 dc12 pm12 cd12 ct12 : Value}
    {od13 an13 : Option Addr} {sl13 : Array (Option Value)} {oc13 kV13 dc13 pm13 cd13 ct13 : Value}
    {od14 an14 : Option Addr} {sl14 : Array (Option Value)} {oc14 kV14 dc14 pm14 cd14 ct14 : Value}
    {od15 an15 : Option Addr} {sl15 : Array (Option Value)} {oc15 kV15 dc15 pm15 cd15 ct15 : Value}
    {od16 an16 : Option Addr} {sl16 : Array (Option Value)} {oc16 kV16 dc16 pm16 cd16 ct16 : Value}
    {od17 an17 : Option Addr} {sl17 : Array (Option Value)} {oc17 kV17 dc17 pm17 cd17 ct17 : Value}
    {od18 an18 : Option Addr} {sl18 : Array (Option Value)} {oc18 kV18 dc18 pm18 cd18 ct18 : Value}
    {od19 an19 : Option Addr} {sl19 : Array (Option Value)} {oc19 kV19 dc19 pm19 cd19 ct19 : Value}
    {od20 an20 : Option Addr} {sl20 : Array (Option Value)} {oc20 kV20 dc20 pm20 cd20 ct20 : Value}
    {od21 an21 : Option Addr} {sl21 : Array (Option Value)} {oc21 kV21 dc21 pm21 cd21 ct21 : Value}
    {od22 an22 : Option Addr} {sl22 : Array (Option Value)} {oc22 kV22 dc22 pm22 cd22 ct22 : Value}
    {od23 an23 : Option Addr} {sl23 : Array (Option Value)} {oc23 kV23 dc23 pm23 cd23 ct23 : Value}
    {od24 an24 : Option Addr} {sl24 : Array (Option Value)} {oc24 kV24 dc24 pm24 cd24 ct24 : Value}
    {nmInvalidBound qInvalidBound : Str} {bsInvalidBound bmInvalidBound : List Value} {snInvalidBound : List Str} {subInvalidBound : List Value} {abInvalidBound : Bool} {colInvalidBound : Option Bool} {ddInvalidBound : Option Addr} {maInvalidBound mbInvalidBound mcInvalidBound mdInvalidBound meInvalidBound : Option Value}
    {odIInvalidBound anIInvalidBound : Option Addr} {slIInvalidBound : Array (Option Value)} {ocIInvalidBound kVIInvalidBound dcIInvalidBound pmIInvalidBound cdIInvalidBound ctIInvalidBound : Value}
    {nmInvalidFraction qInvalidFraction : Str} {bsInvalidFraction bmInvalidFraction : List Value} {snInvalidFraction : List Str} {subInvalidFraction : List Value} {abInvalidFraction : Bool} {colInvalidFraction : Option Bool} {ddInvalidFraction : Option Addr} {maInvalidFraction mbInvalidFraction mcInvalidFraction mdInvalidFraction meInvalidFraction : Option Value}
    {odIInvalidFraction anIInvalidFraction : Option Addr} {slIInvalidFraction : Array (Option Value)} {ocIInvalidFraction kVIInvalidFraction dcIInvalidFraction pmIInvalidFraction cdIInvalidFraction ctIInvalidFraction : Value}
    {tk_GREATEST_ROOT : Tok}
    {tk_LEAST_ROOT : Tok}
    {tk_MOST_BITS : Tok}
    {tk_MOST_COMINGS : Tok}
    (aBShareError : PySem.W.nsIn K mainGlobals "ShareError" = some (some (.ref BShareError)))
    (bgShareError : PySem.W.specialIn K (.ref BShareError) "__getattribute__" = some (some (.builtin "type.__getattribute__")))
    (brShareError : PySem.W.readsIn K BShareError (.type "type") = true)
    (biShareError : PySem.W.findCls K (.ref BShareError) (.type "type") "__init__" = some (.val (.builtin "ArithmeticError.__init__")))
    (aCInvalidBound : PySem.W.nsIn K mainGlobals "InvalidBound" = some (some (.ref CInvalidBound)))
    (xLCInvalidBound : K.lookup CInvalidBound = some (excClassObj nmInvalidBound qInvalidBound CInvalidBound NInvalidBound bsInvalidBound bmInvalidBound true snInvalidBound subInvalidBound abInvalidBound colInvalidBound ddInvalidBound maInvalidBound mbInvalidBound mcInvalidBound mdInvalidBound meInvalidBound "ArithmeticError.__new__"))
    (xTCInvalidBound : PySem.W.excTail PySem.Exn.amro bmInvalidBound = true)
    (saCInvalidBound : PySem.W.findIn K (.ref CInvalidBound) "__setattr__" = some (some (.builtin "object.__setattr__")))
    (gaCInvalidBound : PySem.W.findIn K (.ref CInvalidBound) "__getattribute__" = some (some (.builtin "BaseException.__getattribute__")))
    (ggCInvalidBound : PySem.W.findIn K (.ref CInvalidBound) "__getattr__" = some none)
    (nnCInvalidBound_name : PySem.W.findIn K (.ref CInvalidBound) "name" = some none)
    (eCCInvalidBound : PySem.W.subIn K (.ref CInvalidBound) (.type "BaseException") = some true)
    (tCCInvalidBound : PySem.W.typeIn K (.ref CInvalidBound) = some (.type "type"))
    (kCCInvalidBound : PySem.W.keepIn K (.ref CInvalidBound) = true)
    (hCCInvalidBound : PySem.W.hasDictIn K CInvalidBound = true)
    (iCCInvalidBound : PySem.W.isClsIn K CInvalidBound = true)
    (sCCInvalidBound : PySem.W.subIn K (.ref CInvalidBound) (.ref CInvalidBound) = some true)
    (aICInvalidBound : PySem.W.findIn K (.ref CInvalidBound) "__init__" = some (some (.ref iInvalidBound)))
    (tICInvalidBound : PySem.W.typeIn K (.ref iInvalidBound) = some (.type "function"))
    (lICInvalidBound : K.lookup iInvalidBound = some ⟨ocIInvalidBound, odIInvalidBound, .func (PySem.W.fnOf "__init__" "InvalidBound.__init__" (defArgs s_InvalidBound___init) (defBody s_InvalidBound___init) (defScope s_InvalidBound___init) .none kVIInvalidBound dcIInvalidBound pmIInvalidBound anIInvalidBound cdIInvalidBound ctIInvalidBound), slIInvalidBound⟩)
    (cICInvalidBound : PySem.W.codeIn K cdIInvalidBound "InvalidBound.__init__" = true)
    (kICInvalidBound : PySem.W.keepIn K (.ref iInvalidBound) = true)
    (aCInvalidFraction : PySem.W.nsIn K mainGlobals "InvalidFraction" = some (some (.ref CInvalidFraction)))
    (xLCInvalidFraction : K.lookup CInvalidFraction = some (excClassObj nmInvalidFraction qInvalidFraction CInvalidFraction NInvalidFraction bsInvalidFraction bmInvalidFraction true snInvalidFraction subInvalidFraction abInvalidFraction colInvalidFraction ddInvalidFraction maInvalidFraction mbInvalidFraction mcInvalidFraction mdInvalidFraction meInvalidFraction "ArithmeticError.__new__"))
    (xTCInvalidFraction : PySem.W.excTail PySem.Exn.amro bmInvalidFraction = true)
    (saCInvalidFraction : PySem.W.findIn K (.ref CInvalidFraction) "__setattr__" = some (some (.builtin "object.__setattr__")))
    (gaCInvalidFraction : PySem.W.findIn K (.ref CInvalidFraction) "__getattribute__" = some (some (.builtin "BaseException.__getattribute__")))
    (ggCInvalidFraction : PySem.W.findIn K (.ref CInvalidFraction) "__getattr__" = some none)
    (nnCInvalidFraction_name : PySem.W.findIn K (.ref CInvalidFraction) "name" = some none)
    (eCCInvalidFraction : PySem.W.subIn K (.ref CInvalidFraction) (.type "BaseException") = some true)
    (tCCInvalidFraction : PySem.W.typeIn K (.ref CInvalidFraction) = some (.type "type"))
    (kCCInvalidFraction : PySem.W.keepIn K (.ref CInvalidFraction) = true)
    (hCCInvalidFraction : PySem.W.hasDictIn K CInvalidFraction = true)
    (iCCInvalidFraction : PySem.W.isClsIn K CInvalidFraction = true)
    (sCCInvalidFraction : PySem.W.subIn K (.ref CInvalidFraction) (.ref CInvalidFraction) = some true)
    (aICInvalidFraction : PySem.W.findIn K (.ref CInvalidFraction) "__init__" = some (some (.ref iInvalidFraction)))
    (tICInvalidFraction : PySem.W.typeIn K (.ref iInvalidFraction) = some (.type "function"))
    (lICInvalidFraction : K.lookup iInvalidFraction = some ⟨ocIInvalidFraction, odIInvalidFraction, .func (PySem.W.fnOf "__init__" "InvalidFraction.__init__" (defArgs s_InvalidFraction___init) (defBody s_InvalidFraction___init) (defScope s_InvalidFraction___init) .none kVIInvalidFraction dcIInvalidFraction pmIInvalidFraction anIInvalidFraction cdIInvalidFraction ctIInvalidFraction), slIInvalidFraction⟩)
    (cICInvalidFraction : PySem.W.codeIn K cdIInvalidFraction "InvalidFraction.__init__" = true)
    (kICInvalidFraction : PySem.W.keepIn K (.ref iInvalidFraction) = true)
    (gc_GREATEST_ROOT : PySem.W.nsIn K mainGlobals "GREATEST_ROOT" = some (some (.int 1 tk_GREATEST_ROOT)))
    (gc_LEAST_ROOT : PySem.W.nsIn K mainGlobals "LEAST_ROOT" = some (some (.int (-25) tk_LEAST_ROOT)))
    (gc_MOST_BITS : PySem.W.nsIn K mainGlobals "MOST_BITS" = some (some (.int 200 tk_MOST_BITS)))
    (gc_MOST_COMINGS : PySem.W.nsIn K mainGlobals "MOST_COMINGS" = some (some (.int 10000000000000000000000000000000000000000 tk_MOST_COMINGS)))
    (gl_gcd : PySem.W.nsIn K mainGlobals "gcd" = some (some (.builtin "math.gcd")))
    (a0 : PySem.W.nsIn K mainGlobals "_told" = some (some (.ref f0)))
    (l0 : K.lookup f0 = some ⟨oc0, od0, .func (PySem.W.fnOf "_told" "_told" (defArgs s_u_told) (defBody s_u_told) (defScope s_u_told) .none kV0 dc0 pm0 an0 cd0 ct0), sl0⟩)
    (c0 : PySem.W.codeIn K cd0 "_told" = true)
    (k0 : PySem.W.keepIn K (.ref f0) = true)
    (a1 : PySem.W.nsIn K mainGlobals "is_integer" = some (some (.ref f1)))
    (l1 : K.lookup f1 = some ⟨oc1, od1, .func (PySem.W.fnOf "is_integer" "is_integer" (defArgs s_is_integer) (defBody s_is_integer) (defScope s_is_integer) .none kV1 dc1 pm1 an1 cd1 ct1), sl1⟩)
    (c1 : PySem.W.codeIn K cd1 "is_integer" = true)
    (k1 : PySem.W.keepIn K (.ref f1) = true)
    (a2 : PySem.W.nsIn K mainGlobals "is_integer_within" = some (some (.ref f2)))
    (l2 : K.lookup f2 = some ⟨oc2, od2, .func (PySem.W.fnOf "is_integer_within" "is_integer_within" (defArgs s_is_integer_within) (defBody s_is_integer_within) (defScope s_is_integer_within) .none kV2 dc2 pm2 an2 cd2 ct2), sl2⟩)
    (c2 : PySem.W.codeIn K cd2 "is_integer_within" = true)
    (k2 : PySem.W.keepIn K (.ref f2) = true)
    (a3 : PySem.W.nsIn K mainGlobals "is_pair" = some (some (.ref f3)))
    (l3 : K.lookup f3 = some ⟨oc3, od3, .func (PySem.W.fnOf "is_pair" "is_pair" (defArgs s_is_pair) (defBody s_is_pair) (defScope s_is_pair) .none kV3 dc3 pm3 an3 cd3 ct3), sl3⟩)
    (c3 : PySem.W.codeIn K cd3 "is_pair" = true)
    (k3 : PySem.W.keepIn K (.ref f3) = true)
    (a4 : PySem.W.nsIn K mainGlobals "check_comings" = some (some (.ref f4)))
    (l4 : K.lookup f4 = some ⟨oc4, od4, .func (PySem.W.fnOf "check_comings" "check_comings" (defArgs s_check_comings) (defBody s_check_comings) (defScope s_check_comings) .none kV4 dc4 pm4 an4 cd4 ct4), sl4⟩)
    (c4 : PySem.W.codeIn K cd4 "check_comings" = true)
    (k4 : PySem.W.keepIn K (.ref f4) = true)
    (a5 : PySem.W.nsIn K mainGlobals "is_fraction" = some (some (.ref f5)))
    (l5 : K.lookup f5 = some ⟨oc5, od5, .func (PySem.W.fnOf "is_fraction" "is_fraction" (defArgs s_is_fraction) (defBody s_is_fraction) (defScope s_is_fraction) .none kV5 dc5 pm5 an5 cd5 ct5), sl5⟩)
    (c5 : PySem.W.codeIn K cd5 "is_fraction" = true)
    (k5 : PySem.W.keepIn K (.ref f5) = true)
    (a6 : PySem.W.nsIn K mainGlobals "_terms" = some (some (.ref f6)))
    (l6 : K.lookup f6 = some ⟨oc6, od6, .func (PySem.W.fnOf "_terms" "_terms" (defArgs s_u_terms) (defBody s_u_terms) (defScope s_u_terms) .none kV6 dc6 pm6 an6 cd6 ct6), sl6⟩)
    (c6 : PySem.W.codeIn K cd6 "_terms" = true)
    (k6 : PySem.W.keepIn K (.ref f6) = true)
    (a7 : PySem.W.nsIn K mainGlobals "_lowest" = some (some (.ref f7)))
    (l7 : K.lookup f7 = some ⟨oc7, od7, .func (PySem.W.fnOf "_lowest" "_lowest" (defArgs s_u_lowest) (defBody s_u_lowest) (defScope s_u_lowest) .none kV7 dc7 pm7 an7 cd7 ct7), sl7⟩)
    (c7 : PySem.W.codeIn K cd7 "_lowest" = true)
    (k7 : PySem.W.keepIn K (.ref f7) = true)
    (a8 : PySem.W.nsIn K mainGlobals "fraction" = some (some (.ref f8)))
    (l8 : K.lookup f8 = some ⟨oc8, od8, .func (PySem.W.fnOf "fraction" "fraction" (defArgs s_fraction) (defBody s_fraction) (defScope s_fraction) .none kV8 dc8 pm8 an8 cd8 ct8), sl8⟩)
    (c8 : PySem.W.codeIn K cd8 "fraction" = true)
    (k8 : PySem.W.keepIn K (.ref f8) = true)
    (a9 : PySem.W.nsIn K mainGlobals "quotient" = some (some (.ref f9)))
    (l9 : K.lookup f9 = some ⟨oc9, od9, .func (PySem.W.fnOf "quotient" "quotient" (defArgs s_quotient) (defBody s_quotient) (defScope s_quotient) .none kV9 dc9 pm9 an9 cd9 ct9), sl9⟩)
    (c9 : PySem.W.codeIn K cd9 "quotient" = true)
    (k9 : PySem.W.keepIn K (.ref f9) = true)
    (a10 : PySem.W.nsIn K mainGlobals "_product" = some (some (.ref f10)))
    (l10 : K.lookup f10 = some ⟨oc10, od10, .func (PySem.W.fnOf "_product" "_product" (defArgs s_u_product) (defBody s_u_product) (defScope s_u_product) .none kV10 dc10 pm10 an10 cd10 ct10), sl10⟩)
    (c10 : PySem.W.codeIn K cd10 "_product" = true)
    (k10 : PySem.W.keepIn K (.ref f10) = true)
    (a11 : PySem.W.nsIn K mainGlobals "_factor" = some (some (.ref f11)))
    (l11 : K.lookup f11 = some ⟨oc11, od11, .func (PySem.W.fnOf "_factor" "_factor" (defArgs s_u_factor) (defBody s_u_factor) (defScope s_u_factor) .none kV11 dc11 pm11 an11 cd11 ct11), sl11⟩)
    (c11 : PySem.W.codeIn K cd11 "_factor" = true)
    (k11 : PySem.W.keepIn K (.ref f11) = true)
    (a12 : PySem.W.nsIn K mainGlobals "factor" = some (some (.ref f12)))
    (l12 : K.lookup f12 = some ⟨oc12, od12, .func (PySem.W.fnOf "factor" "factor" (defArgs s_factor) (defBody s_factor) (defScope s_factor) .none kV12 dc12 pm12 an12 cd12 ct12), sl12⟩)
    (c12 : PySem.W.codeIn K cd12 "factor" = true)
    (k12 : PySem.W.keepIn K (.ref f12) = true)
    (a13 : PySem.W.nsIn K mainGlobals "_law_is_int" = some (some (.ref f13)))
    (l13 : K.lookup f13 = some ⟨oc13, od13, .func (PySem.W.fnOf "_law_is_int" "_law_is_int" (defArgs s_law_is_int) (defBody s_law_is_int) (defScope s_law_is_int) .none kV13 dc13 pm13 an13 cd13 ct13), sl13⟩)
    (c13 : PySem.W.codeIn K cd13 "_law_is_int" = true)
    (k13 : PySem.W.keepIn K (.ref f13) = true)
    (a14 : PySem.W.nsIn K mainGlobals "_law_same" = some (some (.ref f14)))
    (l14 : K.lookup f14 = some ⟨oc14, od14, .func (PySem.W.fnOf "_law_same" "_law_same" (defArgs s_law_same) (defBody s_law_same) (defScope s_law_same) .none kV14 dc14 pm14 an14 cd14 ct14), sl14⟩)
    (c14 : PySem.W.codeIn K cd14 "_law_same" = true)
    (k14 : PySem.W.keepIn K (.ref f14) = true)
    (a15 : PySem.W.nsIn K mainGlobals "_law_gcd" = some (some (.ref f15)))
    (l15 : K.lookup f15 = some ⟨oc15, od15, .func (PySem.W.fnOf "_law_gcd" "_law_gcd" (defArgs s_law_gcd) (defBody s_law_gcd) (defScope s_law_gcd) .none kV15 dc15 pm15 an15 cd15 ct15), sl15⟩)
    (c15 : PySem.W.codeIn K cd15 "_law_gcd" = true)
    (k15 : PySem.W.keepIn K (.ref f15) = true)
    (a16 : PySem.W.nsIn K mainGlobals "_law_low" = some (some (.ref f16)))
    (l16 : K.lookup f16 = some ⟨oc16, od16, .func (PySem.W.fnOf "_law_low" "_law_low" (defArgs s_law_low) (defBody s_law_low) (defScope s_law_low) .none kV16 dc16 pm16 an16 cd16 ct16), sl16⟩)
    (c16 : PySem.W.codeIn K cd16 "_law_low" = true)
    (k16 : PySem.W.keepIn K (.ref f16) = true)
    (a17 : PySem.W.nsIn K mainGlobals "_law_is_fraction" = some (some (.ref f17)))
    (l17 : K.lookup f17 = some ⟨oc17, od17, .func (PySem.W.fnOf "_law_is_fraction" "_law_is_fraction" (defArgs s_law_is_fraction) (defBody s_law_is_fraction) (defScope s_law_is_fraction) .none kV17 dc17 pm17 an17 cd17 ct17), sl17⟩)
    (c17 : PySem.W.codeIn K cd17 "_law_is_fraction" = true)
    (k17 : PySem.W.keepIn K (.ref f17) = true)
    (a18 : PySem.W.nsIn K mainGlobals "_law_times" = some (some (.ref f18)))
    (l18 : K.lookup f18 = some ⟨oc18, od18, .func (PySem.W.fnOf "_law_times" "_law_times" (defArgs s_law_times) (defBody s_law_times) (defScope s_law_times) .none kV18 dc18 pm18 an18 cd18 ct18), sl18⟩)
    (c18 : PySem.W.codeIn K cd18 "_law_times" = true)
    (k18 : PySem.W.keepIn K (.ref f18) = true)
    (a19 : PySem.W.nsIn K mainGlobals "_law_start" = some (some (.ref f19)))
    (l19 : K.lookup f19 = some ⟨oc19, od19, .func (PySem.W.fnOf "_law_start" "_law_start" (defArgs s_law_start) (defBody s_law_start) (defScope s_law_start) .none kV19 dc19 pm19 an19 cd19 ct19), sl19⟩)
    (c19 : PySem.W.codeIn K cd19 "_law_start" = true)
    (k19 : PySem.W.keepIn K (.ref f19) = true)
    (a20 : PySem.W.nsIn K mainGlobals "_law_pull" = some (some (.ref f20)))
    (l20 : K.lookup f20 = some ⟨oc20, od20, .func (PySem.W.fnOf "_law_pull" "_law_pull" (defArgs s_law_pull) (defBody s_law_pull) (defScope s_law_pull) .none kV20 dc20 pm20 an20 cd20 ct20), sl20⟩)
    (c20 : PySem.W.codeIn K cd20 "_law_pull" = true)
    (k20 : PySem.W.keepIn K (.ref f20) = true)
    (a21 : PySem.W.nsIn K mainGlobals "_law_big" = some (some (.ref f21)))
    (l21 : K.lookup f21 = some ⟨oc21, od21, .func (PySem.W.fnOf "_law_big" "_law_big" (defArgs s_law_big) (defBody s_law_big) (defScope s_law_big) .none kV21 dc21 pm21 an21 cd21 ct21), sl21⟩)
    (c21 : PySem.W.codeIn K cd21 "_law_big" = true)
    (k21 : PySem.W.keepIn K (.ref f21) = true)
    (a22 : PySem.W.nsIn K mainGlobals "_law_index" = some (some (.ref f22)))
    (l22 : K.lookup f22 = some ⟨oc22, od22, .func (PySem.W.fnOf "_law_index" "_law_index" (defArgs s_law_index) (defBody s_law_index) (defScope s_law_index) .none kV22 dc22 pm22 an22 cd22 ct22), sl22⟩)
    (c22 : PySem.W.codeIn K cd22 "_law_index" = true)
    (k22 : PySem.W.keepIn K (.ref f22) = true)
    (a23 : PySem.W.nsIn K mainGlobals "_law_asked" = some (some (.ref f23)))
    (l23 : K.lookup f23 = some ⟨oc23, od23, .func (PySem.W.fnOf "_law_asked" "_law_asked" (defArgs s_law_asked) (defBody s_law_asked) (defScope s_law_asked) .none kV23 dc23 pm23 an23 cd23 ct23), sl23⟩)
    (c23 : PySem.W.codeIn K cd23 "_law_asked" = true)
    (k23 : PySem.W.keepIn K (.ref f23) = true)
    (a24 : PySem.W.nsIn K mainGlobals "law" = some (some (.ref f24)))
    (l24 : K.lookup f24 = some ⟨oc24, od24, .func (PySem.W.fnOf "law" "law" (defArgs s_law) (defBody s_law) (defScope s_law) .none kV24 dc24 pm24 an24 cd24 ct24), sl24⟩)
    (c24 : PySem.W.codeIn K cd24 "law" = true)
    (k24 : PySem.W.keepIn K (.ref f24) = true)
    (z_len : PySem.W.nsIn K mainGlobals "len" = some none)
    (z_int : PySem.W.nsIn K mainGlobals "int" = some none)
    (z_abs : PySem.W.nsIn K mainGlobals "abs" = some none)
    (z_isinstance : PySem.W.nsIn K mainGlobals "isinstance" = some none)
    (z_range : PySem.W.nsIn K mainGlobals "range" = some none)
    (z_list : PySem.W.nsIn K mainGlobals "list" = some none)
    (z_tuple : PySem.W.nsIn K mainGlobals "tuple" = some none)
    (z_bool : PySem.W.nsIn K mainGlobals "bool" = some none)
    (z_str : PySem.W.nsIn K mainGlobals "str" = some none)
    (z_sum : PySem.W.nsIn K mainGlobals "sum" = some none)
    (z_max : PySem.W.nsIn K mainGlobals "max" = some none)
    (z_min : PySem.W.nsIn K mainGlobals "min" = some none)
    (z_all : PySem.W.nsIn K mainGlobals "all" = some none)
    (z_any : PySem.W.nsIn K mainGlobals "any" = some none)
    (z_sorted : PySem.W.nsIn K mainGlobals "sorted" = some none)
    (z_enumerate : PySem.W.nsIn K mainGlobals "enumerate" = some none)
    (z_zip : PySem.W.nsIn K mainGlobals "zip" = some none)
    (z_dict : PySem.W.nsIn K mainGlobals "dict" = some none)
    : ∃ fd : FuncData, (∀ (s : Shared) (v : Value), BindsTo s fd ⟨[v], []⟩ [("_law_script", v)]) ∧ ∀ base : Heap, K.In base → base.Ns mainGlobals mg → FnOk l.prog w K mg base (L2.CX l.prog w) 14 fa fd ["_law_script"] (Pr K (preF f_law)) := by
  have e := hfa.symm.trans (PySem.W.mg_of X G a24)
  cases e
  have F0 := fun_mk (st := s_u_told) l0 c0 k0
  have b0 := F0.binds (ps := ["value"]) fun _ _ _ _ _ _ us hl => match us, hl with | [_], _ => rfl
  have g0 := PySem.W.mg_of X G a0
  have F1 := fun_mk (st := s_is_integer) l1 c1 k1
  have b1 := F1.binds (ps := ["value"]) fun _ _ _ _ _ _ us hl => match us, hl with | [_], _ => rfl
  have g1 := PySem.W.mg_of X G a1
  have F2 := fun_mk (st := s_is_integer_within) l2 c2 k2
  have b2 := F2.binds (ps := ["value", "low", "high"]) fun _ _ _ _ _ _ us hl => match us, hl with | [_, _, _], _ => rfl
  have g2 := PySem.W.mg_of X G a2
  have F3 := fun_mk (st := s_is_pair) l3 c3 k3
  have b3 := F3.binds (ps := ["value"]) fun _ _ _ _ _ _ us hl => match us, hl with | [_], _ => rfl
  have g3 := PySem.W.mg_of X G a3
  have F4 := fun_mk (st := s_check_comings) l4 c4 k4
  have b4 := F4.binds (ps := ["n", "most"]) fun _ _ _ _ _ _ us hl => match us, hl with | [_, _], _ => rfl
  have g4 := PySem.W.mg_of X G a4
  have F5 := fun_mk (st := s_is_fraction) l5 c5 k5
  have b5 := F5.binds (ps := ["value"]) fun _ _ _ _ _ _ us hl => match us, hl with | [_], _ => rfl
  have g5 := PySem.W.mg_of X G a5
  have F6 := fun_mk (st := s_u_terms) l6 c6 k6
  have b6 := F6.binds (ps := ["value", "name"]) fun _ _ _ _ _ _ us hl => match us, hl with | [_, _], _ => rfl
  have g6 := PySem.W.mg_of X G a6
  have F7 := fun_mk (st := s_u_lowest) l7 c7 k7
  have b7 := F7.binds (ps := ["above", "below"]) fun _ _ _ _ _ _ us hl => match us, hl with | [_, _], _ => rfl
  have g7 := PySem.W.mg_of X G a7
  have F8 := fun_mk (st := s_fraction) l8 c8 k8
  have b8 := F8.binds (ps := ["value"]) fun _ _ _ _ _ _ us hl => match us, hl with | [_], _ => rfl
  have g8 := PySem.W.mg_of X G a8
  have F9 := fun_mk (st := s_quotient) l9 c9 k9
  have b9 := F9.binds (ps := ["above", "below"]) fun _ _ _ _ _ _ us hl => match us, hl with | [_, _], _ => rfl
  have g9 := PySem.W.mg_of X G a9
  have F10 := fun_mk (st := s_u_product) l10 c10 k10
  have b10 := F10.binds (ps := ["numbers"]) fun _ _ _ _ _ _ us hl => match us, hl with | [_], _ => rfl
  have g10 := PySem.W.mg_of X G a10
  have F11 := fun_mk (st := s_u_factor) l11 c11 k11
  have b11 := F11.binds (ps := ["root", "start", "n"]) fun _ _ _ _ _ _ us hl => match us, hl with | [_, _, _], _ => rfl
  have g11 := PySem.W.mg_of X G a11
  have F12 := fun_mk (st := s_factor) l12 c12 k12
  have b12 := F12.binds (ps := ["root", "start", "n"]) fun _ _ _ _ _ _ us hl => match us, hl with | [_, _, _], _ => rfl
  have g12 := PySem.W.mg_of X G a12
  have F13 := fun_mk (st := s_law_is_int) l13 c13 k13
  have b13 := F13.binds (ps := ["_law_told"]) fun _ _ _ _ _ _ us hl => match us, hl with | [_], _ => rfl
  have g13 := PySem.W.mg_of X G a13
  have F14 := fun_mk (st := s_law_same) l14 c14 k14
  have b14 := F14.binds (ps := ["_law_told", "_law_due"]) fun _ _ _ _ _ _ us hl => match us, hl with | [_, _], _ => rfl
  have g14 := PySem.W.mg_of X G a14
  have F15 := fun_mk (st := s_law_gcd) l15 c15 k15
  have b15 := F15.binds (ps := ["_law_one", "_law_other"]) fun _ _ _ _ _ _ us hl => match us, hl with | [_, _], _ => rfl
  have g15 := PySem.W.mg_of X G a15
  have F16 := fun_mk (st := s_law_low) l16 c16 k16
  have b16 := F16.binds (ps := ["_law_top", "_law_bottom"]) fun _ _ _ _ _ _ us hl => match us, hl with | [_, _], _ => rfl
  have g16 := PySem.W.mg_of X G a16
  have F17 := fun_mk (st := s_law_is_fraction) l17 c17 k17
  have b17 := F17.binds (ps := ["_law_told"]) fun _ _ _ _ _ _ us hl => match us, hl with | [_], _ => rfl
  have g17 := PySem.W.mg_of X G a17
  have F18 := fun_mk (st := s_law_times) l18 c18 k18
  have b18 := F18.binds (ps := ["_law_one", "_law_other"]) fun _ _ _ _ _ _ us hl => match us, hl with | [_, _], _ => rfl
  have g18 := PySem.W.mg_of X G a18
  have F19 := fun_mk (st := s_law_start) l19 c19 k19
  have b19 := F19.binds (ps := ["_law_script"]) fun _ _ _ _ _ _ us hl => match us, hl with | [_], _ => rfl
  have g19 := PySem.W.mg_of X G a19
  have F20 := fun_mk (st := s_law_pull) l20 c20 k20
  have b20 := F20.binds (ps := ["_law_state", "_law_many"]) fun _ _ _ _ _ _ us hl => match us, hl with | [_, _], _ => rfl
  have g20 := PySem.W.mg_of X G a20
  have F21 := fun_mk (st := s_law_big) l21 c21 k21
  have b21 := F21.binds (ps := ["_law_state", "_law_many"]) fun _ _ _ _ _ _ us hl => match us, hl with | [_, _], _ => rfl
  have g21 := PySem.W.mg_of X G a21
  have F22 := fun_mk (st := s_law_index) l22 c22 k22
  have b22 := F22.binds (ps := ["_law_state", "_law_most"]) fun _ _ _ _ _ _ us hl => match us, hl with | [_, _], _ => rfl
  have g22 := PySem.W.mg_of X G a22
  have F23 := fun_mk (st := s_law_asked) l23 c23 k23
  have b23 := F23.binds (ps := ["_law_root", "_law_start_here", "_law_n"]) fun _ _ _ _ _ _ us hl => match us, hl with | [_, _, _], _ => rfl
  have g23 := PySem.W.mg_of X G a23
  have F24 := fun_mk (st := s_law) l24 c24 k24
  have b24 := F24.binds (ps := ["_law_script"]) fun _ _ _ _ _ _ us hl => match us, hl with | [_], _ => rfl
  have g24 := PySem.W.mg_of X G a24
  have hB : Bx mg := ⟨fun nm h => by
    simp only [biNames, List.mem_cons, List.not_mem_nil, or_false] at h
    rcases h with rfl | rfl | rfl | rfl | rfl | rfl | rfl | rfl | rfl | rfl | rfl | rfl | rfl | rfl | rfl | rfl | rfl | rfl
    · exact PySem.W.mg_none_of X G z_len
    · exact PySem.W.mg_none_of X G z_int
    · exact PySem.W.mg_none_of X G z_abs
    · exact PySem.W.mg_none_of X G z_isinstance
    · exact PySem.W.mg_none_of X G z_range
    · exact PySem.W.mg_none_of X G z_list
    · exact PySem.W.mg_none_of X G z_tuple
    · exact PySem.W.mg_none_of X G z_bool
    · exact PySem.W.mg_none_of X G z_str
    · exact PySem.W.mg_none_of X G z_sum
    · exact PySem.W.mg_none_of X G z_max
    · exact PySem.W.mg_none_of X G z_min
    · exact PySem.W.mg_none_of X G z_all
    · exact PySem.W.mg_none_of X G z_any
    · exact PySem.W.mg_none_of X G z_sorted
    · exact PySem.W.mg_none_of X G z_enumerate
    · exact PySem.W.mg_none_of X G z_zip
    · exact PySem.W.mg_none_of X G z_dict⟩
  have g_GREATEST_ROOT : ∃ u, mg "GREATEST_ROOT" = some u ∧ RelV (V.int 1) u := ⟨_, PySem.W.mg_of X G gc_GREATEST_ROOT, ⟨_, rfl⟩⟩
  have g_LEAST_ROOT : ∃ u, mg "LEAST_ROOT" = some u ∧ RelV (V.int (-25)) u := ⟨_, PySem.W.mg_of X G gc_LEAST_ROOT, ⟨_, rfl⟩⟩
  have g_MOST_BITS : ∃ u, mg "MOST_BITS" = some u ∧ RelV (V.int 200) u := ⟨_, PySem.W.mg_of X G gc_MOST_BITS, ⟨_, rfl⟩⟩
  have g_MOST_COMINGS : ∃ u, mg "MOST_COMINGS" = some u ∧ RelV (V.int 10000000000000000000000000000000000000000) u := ⟨_, PySem.W.mg_of X G gc_MOST_COMINGS, ⟨_, rfl⟩⟩
  have l_gcd := PySem.W.mg_of X G gl_gcd
  have zCInvalidBound : clsA K "InvalidBound" = CInvalidBound := by unfold clsA; rw [aCInvalidBound]
  have TCInvalidBound : ExnC K (clsA K "InvalidBound") := by rw [zCInvalidBound]; exact ⟨⟨nmInvalidBound, qInvalidBound, NInvalidBound, bsInvalidBound, bmInvalidBound, snInvalidBound, subInvalidBound, abInvalidBound, colInvalidBound, ddInvalidBound, maInvalidBound, mbInvalidBound, mcInvalidBound, mdInvalidBound, meInvalidBound, xLCInvalidBound, xTCInvalidBound⟩, saCInvalidBound, eCCInvalidBound, tCCInvalidBound, kCCInvalidBound⟩
  have n_InvalidBound : mg "InvalidBound" = some (.ref (clsA K "InvalidBound")) := by rw [zCInvalidBound]; exact PySem.W.mg_of X G aCInvalidBound
  have T_InvalidBound : XfC K (clsA K "InvalidBound") := by rw [zCInvalidBound]; exact ⟨gaCInvalidBound, ggCInvalidBound, eCCInvalidBound, hCCInvalidBound⟩
  have t_InvalidBound_name : PySem.W.findIn K (.ref (clsA K "InvalidBound")) "name" = some none := by rw [zCInvalidBound]; exact nnCInvalidBound_name
  have x_InvalidBound : PySem.W.exmOne K (.ref (clsA K "InvalidBound")) (.ref (clsA K "InvalidBound")) = some true := by rw [zCInvalidBound]; exact exm_one eCCInvalidBound iCCInvalidBound tCCInvalidBound sCCInvalidBound
  have o_InvalidBound : ∀ c ∈ ([] : List Str), PySem.W.exmOne K (.ref (clsA K c)) (.ref (clsA K "InvalidBound")) = some false := fun c h => by cases h
  have zCInvalidFraction : clsA K "InvalidFraction" = CInvalidFraction := by unfold clsA; rw [aCInvalidFraction]
  have TCInvalidFraction : ExnC K (clsA K "InvalidFraction") := by rw [zCInvalidFraction]; exact ⟨⟨nmInvalidFraction, qInvalidFraction, NInvalidFraction, bsInvalidFraction, bmInvalidFraction, snInvalidFraction, subInvalidFraction, abInvalidFraction, colInvalidFraction, ddInvalidFraction, maInvalidFraction, mbInvalidFraction, mcInvalidFraction, mdInvalidFraction, meInvalidFraction, xLCInvalidFraction, xTCInvalidFraction⟩, saCInvalidFraction, eCCInvalidFraction, tCCInvalidFraction, kCCInvalidFraction⟩
  have n_InvalidFraction : mg "InvalidFraction" = some (.ref (clsA K "InvalidFraction")) := by rw [zCInvalidFraction]; exact PySem.W.mg_of X G aCInvalidFraction
  have T_InvalidFraction : XfC K (clsA K "InvalidFraction") := by rw [zCInvalidFraction]; exact ⟨gaCInvalidFraction, ggCInvalidFraction, eCCInvalidFraction, hCCInvalidFraction⟩
  have t_InvalidFraction_name : PySem.W.findIn K (.ref (clsA K "InvalidFraction")) "name" = some none := by rw [zCInvalidFraction]; exact nnCInvalidFraction_name
  have x_InvalidFraction : PySem.W.exmOne K (.ref (clsA K "InvalidFraction")) (.ref (clsA K "InvalidFraction")) = some true := by rw [zCInvalidFraction]; exact exm_one eCCInvalidFraction iCCInvalidFraction tCCInvalidFraction sCCInvalidFraction
  have o_InvalidFraction : ∀ c ∈ ([] : List Str), PySem.W.exmOne K (.ref (clsA K c)) (.ref (clsA K "InvalidFraction")) = some false := fun c h => by cases h
  have FICInvalidBound := fun_mk (st := s_InvalidBound___init) lICInvalidBound cICInvalidBound kICInvalidBound
  have bICInvalidBound := FICInvalidBound.binds (ps := ["self", "name"]) fun _ _ _ _ _ _ us hl => match us, hl with | [_, _], _ => rfl
  have FICInvalidFraction := fun_mk (st := s_InvalidFraction___init) lICInvalidFraction cICInvalidFraction kICInvalidFraction
  have bICInvalidFraction := FICInvalidFraction.binds (ps := ["self", "name"]) fun _ _ _ _ _ _ us hl => match us, hl with | [_, _], _ => rfl
  refine ⟨PySem.W.fnOf "law" "law" (defArgs s_law) (defBody s_law) (defScope s_law) .none kV24 dc24 pm24 an24 cd24 ct24, fun s v => .of_eq rfl, fun base _ _ => ?_⟩
  have c_u_told : Cal l.prog w K mg base "_told" 3 (f_u_told 3) := cal_rec (L := 0) (fun n self hself => ok_u_told hself hB g_MOST_BITS F0) g0 k0 b0 3
  have e_InvalidBound : Err l.prog w K mg base 4 "InvalidBound" ["name"] (okM K m_InvalidBound) := ⟨TCInvalidBound, ⟨iInvalidBound, _, _, by rw [zCInvalidBound]; exact aICInvalidBound, tICInvalidBound, ok_InvalidBound___init hB c_u_told TCInvalidBound t_InvalidBound_name (PySem.W.mg_of X G aBShareError) bgShareError brShareError biShareError FICInvalidBound, bICInvalidBound⟩, n_InvalidBound⟩
  have e_InvalidFraction : Err l.prog w K mg base 4 "InvalidFraction" ["name"] (okM K m_InvalidFraction) := ⟨TCInvalidFraction, ⟨iInvalidFraction, _, _, by rw [zCInvalidFraction]; exact aICInvalidFraction, tICInvalidFraction, ok_InvalidFraction___init hB c_u_told TCInvalidFraction t_InvalidFraction_name (PySem.W.mg_of X G aBShareError) bgShareError brShareError biShareError FICInvalidFraction, bICInvalidFraction⟩, n_InvalidFraction⟩
  have c_is_integer : Cal l.prog w K mg base "is_integer" 1 f_is_integer := cal_of (ok_is_integer hB F1) g1 k1 b1
  have c_is_integer_within : Cal l.prog w K mg base "is_integer_within" 2 f_is_integer_within := cal_of (ok_is_integer_within hB c_is_integer F2) g2 k2 b2
  have c_is_pair : Cal l.prog w K mg base "is_pair" 1 f_is_pair := cal_of (ok_is_pair hB F3) g3 k3 b3
  have c_check_comings : Cal l.prog w K mg base "check_comings" 6 f_check_comings := cal_of (ok_check_comings hB c_is_integer_within e_InvalidBound F4) g4 k4 b4
  have c_is_fraction : Cal l.prog w K mg base "is_fraction" 2 f_is_fraction := cal_of (ok_is_fraction hB c_is_pair c_is_integer F5) g5 k5 b5
  have c_u_terms : Cal l.prog w K mg base "_terms" 6 f_u_terms := cal_of (ok_u_terms hB c_is_integer c_is_fraction e_InvalidFraction F6) g6 k6 b6
  have c_u_lowest : Cal l.prog w K mg base "_lowest" 1 f_u_lowest := cal_of (ok_u_lowest hB l_gcd F7) g7 k7 b7
  have c_fraction : Cal l.prog w K mg base "fraction" 7 f_fraction := cal_of (ok_fraction hB c_u_terms c_u_lowest F8) g8 k8 b8
  have c_quotient : Cal l.prog w K mg base "quotient" 8 f_quotient := cal_of (ok_quotient hB c_fraction F9) g9 k9 b9
  have c_u_product : Cal l.prog w K mg base "_product" 1 f_u_product := cal_of (ok_u_product hB F10) g10 k10 b10
  have c_u_factor : Cal l.prog w K mg base "_factor" 9 f_u_factor := cal_of (ok_u_factor hB c_quotient c_u_product F11) g11 k11 b11
  have c_factor : Cal l.prog w K mg base "factor" 10 f_factor := cal_of (ok_factor hB c_check_comings c_u_factor c_is_integer_within c_is_integer g_LEAST_ROOT g_GREATEST_ROOT g_MOST_COMINGS e_InvalidBound F12) g12 k12 b12
  have c_law_is_int : Cal l.prog w K mg base "_law_is_int" 1 f_law_is_int := cal_of (ok_law_is_int hB F13) g13 k13 b13
  have c_law_same : Cal l.prog w K mg base "_law_same" 13 (f_law_same 12) := cal_rec (L := 1) (fun n self hself => ok_law_same hself hB c_law_is_int F14) g14 k14 b14 12
  have c_law_gcd : Cal l.prog w K mg base "_law_gcd" 1 f_law_gcd := cal_of (ok_law_gcd hB F15) g15 k15 b15
  have c_law_low : Cal l.prog w K mg base "_law_low" 2 f_law_low := cal_of (ok_law_low hB c_law_gcd F16) g16 k16 b16
  have c_law_is_fraction : Cal l.prog w K mg base "_law_is_fraction" 2 f_law_is_fraction := cal_of (ok_law_is_fraction hB c_law_gcd c_law_is_int F17) g17 k17 b17
  have c_law_times : Cal l.prog w K mg base "_law_times" 3 f_law_times := cal_of (ok_law_times hB c_law_low F18) g18 k18 b18
  have c_law_start : Cal l.prog w K mg base "_law_start" 1 f_law_start := cal_of (ok_law_start hB F19) g19 k19 b19
  have c_law_pull : Cal l.prog w K mg base "_law_pull" 1 f_law_pull := cal_of (ok_law_pull hB F20) g20 k20 b20
  have c_law_big : Cal l.prog w K mg base "_law_big" 2 f_law_big := cal_of (ok_law_big hB c_law_pull F21) g21 k21 b21
  have c_law_index : Cal l.prog w K mg base "_law_index" 2 f_law_index := cal_of (ok_law_index hB c_law_pull F22) g22 k22 b22
  have c_law_asked : Cal l.prog w K mg base "_law_asked" 11 f_law_asked := cal_of (ok_law_asked hB c_factor n_InvalidBound x_InvalidBound o_InvalidBound T_InvalidBound t_InvalidBound_name F23) g23 k23 b23
  exact ok_law hB c_law_start c_law_index c_law_pull c_law_big c_factor c_law_low c_law_same c_law_is_int c_law_is_fraction c_law_times c_law_asked F24
theorem walk {l : PySem.W.OpenLaw} {q : Program} {loose : List Str} {XP : (Str → Option Value) → Heap → Prop} {YP : World → Heap → Prop} {d : DefRec} {K : Params → PySem.W.Frag} (hn : l.most = some 63) (hdf : d.params.defaults = [])
    (hY : ∀ (w : World) (h : Heap), YP w h → (K w.params).In h)
    (F : ∀ (w : World) (mg : Str → Option Value) (fa : Addr) (h : Heap), (K w.params).In h → h.Ns mainGlobals mg → mg d.name = some (.ref fa) →
      ∃ fd : FuncData, (∀ (s : Shared) (u : Value), BindsTo s fd ⟨[u], []⟩ [("_law_script", u)]) ∧ ∀ base : Heap, (K w.params).In base → base.Ns mainGlobals mg → FnOk l.prog w (K w.params) mg base (L2.CX l.prog w) 14 fa fd ["_law_script"] (Pr (K w.params) (preF f_law))) :
    PySem.W.WalkO q loose XP YP l.row.toRowW d [] (fun f vs => PySem.call f vs) :=
  L2.walk_of (n := 63) (k := 14) (x := "_law_script") (CX := fun w => L2.CX l.prog w) (sp := fun w => Pr (K w.params) (preF f_law)) hn (by decide) hdf ⟨rfl, by decide, by decide⟩ hY F (fun _ _ a ns hl _ hS => law_ask hS) fun _ _ _ _ _ z => by
    obtain ⟨_, _, _, _, _, _, _, _, _, _, _, _, h⟩ := z
    exact h
end k43
open PySem PySem.W PyProof.Rows
set_option maxRecDepth 100000 in
set_option maxHeartbeats 0 in
theorem PySem.Challenge.cw_pageshares_k43_factors_holds : PySem.Challenge.rw_pageshares_k43_factors.Holds := by
  w_on; o_law; k_head; (case hw => w_witness2)
  k_fill
  refine k43.walk (l := PySem.Challenge.rw_pageshares_k43_factors) rfl rfl (fun w h Y => PySem.W.kIn_of Y) ?F
  case F =>
    intro w mg fa h KX G hmg
    refine' k43.all_mk KX G hmg ?aBShareError ?bgShareError ?brShareError ?biShareError ?aCInvalidBound ?xLCInvalidBound ?xTCInvalidBound ?saCInvalidBound ?gaCInvalidBound ?ggCInvalidBound ?nnCInvalidBound_name ?eCCInvalidBound ?tCCInvalidBound ?kCCInvalidBound ?hCCInvalidBound ?iCCInvalidBound ?sCCInvalidBound ?aICInvalidBound ?tICInvalidBound ?lICInvalidBound ?cICInvalidBound ?kICInvalidBound ?aCInvalidFraction ?xLCInvalidFraction ?xTCInvalidFraction ?saCInvalidFraction ?gaCInvalidFraction ?ggCInvalidFraction ?nnCInvalidFraction_name ?eCCInvalidFraction ?tCCInvalidFraction ?kCCInvalidFraction ?hCCInvalidFraction ?iCCInvalidFraction ?sCCInvalidFraction ?aICInvalidFraction ?tICInvalidFraction ?lICInvalidFraction ?cICInvalidFraction ?kICInvalidFraction ?gc_GREATEST_ROOT ?gc_LEAST_ROOT ?gc_MOST_BITS ?gc_MOST_COMINGS ?gl_gcd ?a0 ?l0 ?c0 ?k0 ?a1 ?l1 ?c1 ?k1 ?a2 ?l2 ?c2 ?k2 ?a3 ?l3 ?c3 ?k3 ?a4 ?l4 ?c4 ?k4 ?a5 ?l5 ?c5 ?k5 ?a6 ?l6 ?c6 ?k6 ?a7 ?l7 ?c7 ?k7 ?a8 ?l8 ?c8 ?k8 ?a9 ?l9 ?c9 ?k9 ?a10 ?l10 ?c10 ?k10 ?a11 ?l11 ?c11 ?k11 ?a12 ?l12 ?c12 ?k12 ?a13 ?l13 ?c13 ?k13 ?a14 ?l14 ?c14 ?k14 ?a15 ?l15 ?c15 ?k15 ?a16 ?l16 ?c16 ?k16 ?a17 ?l17 ?c17 ?k17 ?a18 ?l18 ?c18 ?k18 ?a19 ?l19 ?c19 ?k19 ?a20 ?l20 ?c20 ?k20 ?a21 ?l21 ?c21 ?k21 ?a22 ?l22 ?c22 ?k22 ?a23 ?l23 ?c23 ?k23 ?a24 ?l24 ?c24 ?k24 ?z_len ?z_int ?z_abs ?z_isinstance ?z_range ?z_list ?z_tuple ?z_bool ?z_str ?z_sum ?z_max ?z_min ?z_all ?z_any ?z_sorted ?z_enumerate ?z_zip ?z_dict
    (case aBShareError => first | k_is | rfl)
    (case bgShareError => first | k_is | rfl)
    (case brShareError => first | k_is | rfl)
    (case biShareError => first | k_is | rfl)
    (case aCInvalidBound => first | k_is | rfl)
    (case xLCInvalidBound => first | k_is | rfl)
    (case xTCInvalidBound => first | rfl | decide +kernel)
    (case saCInvalidBound => first | k_is | rfl)
    (case gaCInvalidBound => first | k_is | rfl)
    (case ggCInvalidBound => first | k_is | rfl)
    (case nnCInvalidBound_name => first | k_is | rfl)
    (case eCCInvalidBound => first | k_is | rfl)
    (case tCCInvalidBound => first | k_is | rfl)
    (case kCCInvalidBound => first | k_is | rfl)
    (case hCCInvalidBound => first | k_is | rfl)
    (case iCCInvalidBound => first | k_is | rfl)
    (case sCCInvalidBound => first | k_is | rfl)
    (case aICInvalidBound => first | k_is | rfl)
    (case tICInvalidBound => first | k_is | rfl)
    (case lICInvalidBound => first | k_is | rfl)
    (case cICInvalidBound => first | k_is | rfl)
    (case kICInvalidBound => first | k_is | rfl)
    (case aCInvalidFraction => first | k_is | rfl)
    (case xLCInvalidFraction => first | k_is | rfl)
    (case xTCInvalidFraction => first | rfl | decide +kernel)
    (case saCInvalidFraction => first | k_is | rfl)
    (case gaCInvalidFraction => first | k_is | rfl)
    (case ggCInvalidFraction => first | k_is | rfl)
    (case nnCInvalidFraction_name => first | k_is | rfl)
    (case eCCInvalidFraction => first | k_is | rfl)
    (case tCCInvalidFraction => first | k_is | rfl)
    (case kCCInvalidFraction => first | k_is | rfl)
    (case hCCInvalidFraction => first | k_is | rfl)
    (case iCCInvalidFraction => first | k_is | rfl)
    (case sCCInvalidFraction => first | k_is | rfl)
    (case aICInvalidFraction => first | k_is | rfl)
    (case tICInvalidFraction => first | k_is | rfl)
    (case lICInvalidFraction => first | k_is | rfl)
    (case cICInvalidFraction => first | k_is | rfl)
    (case kICInvalidFraction => first | k_is | rfl)
    (case gc_GREATEST_ROOT => first | k_is | rfl)
    (case gc_LEAST_ROOT => first | k_is | rfl)
    (case gc_MOST_BITS => first | k_is | rfl)
    (case gc_MOST_COMINGS => first | k_is | rfl)
    (case gl_gcd => first | k_is | rfl)
    (case a0 => first | k_is | rfl)
    (case l0 => first | k_is | rfl)
    (case c0 => first | k_is | rfl)
    (case k0 => first | k_is | rfl)
    (case a1 => first | k_is | rfl)
    (case l1 => first | k_is | rfl)
    (case c1 => first | k_is | rfl)
    (case k1 => first | k_is | rfl)
    (case a2 => first | k_is | rfl)
    (case l2 => first | k_is | rfl)
    (case c2 => first | k_is | rfl)
    (case k2 => first | k_is | rfl)
    (case a3 => first | k_is | rfl)
    (case l3 => first | k_is | rfl)
    (case c3 => first | k_is | rfl)
    (case k3 => first | k_is | rfl)
    (case a4 => first | k_is | rfl)
    (case l4 => first | k_is | rfl)
    (case c4 => first | k_is | rfl)
    (case k4 => first | k_is | rfl)
    (case a5 => first | k_is | rfl)
    (case l5 => first | k_is | rfl)
    (case c5 => first | k_is | rfl)
    (case k5 => first | k_is | rfl)
    (case a6 => first | k_is | rfl)
    (case l6 => first | k_is | rfl)
    (case c6 => first | k_is | rfl)
    (case k6 => first | k_is | rfl)
    (case a7 => first | k_is | rfl)
    (case l7 => first | k_is | rfl)
    (case c7 => first | k_is | rfl)
    (case k7 => first | k_is | rfl)
    (case a8 => first | k_is | rfl)
    (case l8 => first | k_is | rfl)
    (case c8 => first | k_is | rfl)
    (case k8 => first | k_is | rfl)
    (case a9 => first | k_is | rfl)
    (case l9 => first | k_is | rfl)
    (case c9 => first | k_is | rfl)
    (case k9 => first | k_is | rfl)
    (case a10 => first | k_is | rfl)
    (case l10 => first | k_is | rfl)
    (case c10 => first | k_is | rfl)
    (case k10 => first | k_is | rfl)
    (case a11 => first | k_is | rfl)
    (case l11 => first | k_is | rfl)
    (case c11 => first | k_is | rfl)
    (case k11 => first | k_is | rfl)
    (case a12 => first | k_is | rfl)
    (case l12 => first | k_is | rfl)
    (case c12 => first | k_is | rfl)
    (case k12 => first | k_is | rfl)
    (case a13 => first | k_is | rfl)
    (case l13 => first | k_is | rfl)
    (case c13 => first | k_is | rfl)
    (case k13 => first | k_is | rfl)
    (case a14 => first | k_is | rfl)
    (case l14 => first | k_is | rfl)
    (case c14 => first | k_is | rfl)
    (case k14 => first | k_is | rfl)
    (case a15 => first | k_is | rfl)
    (case l15 => first | k_is | rfl)
    (case c15 => first | k_is | rfl)
    (case k15 => first | k_is | rfl)
    (case a16 => first | k_is | rfl)
    (case l16 => first | k_is | rfl)
    (case c16 => first | k_is | rfl)
    (case k16 => first | k_is | rfl)
    (case a17 => first | k_is | rfl)
    (case l17 => first | k_is | rfl)
    (case c17 => first | k_is | rfl)
    (case k17 => first | k_is | rfl)
    (case a18 => first | k_is | rfl)
    (case l18 => first | k_is | rfl)
    (case c18 => first | k_is | rfl)
    (case k18 => first | k_is | rfl)
    (case a19 => first | k_is | rfl)
    (case l19 => first | k_is | rfl)
    (case c19 => first | k_is | rfl)
    (case k19 => first | k_is | rfl)
    (case a20 => first | k_is | rfl)
    (case l20 => first | k_is | rfl)
    (case c20 => first | k_is | rfl)
    (case k20 => first | k_is | rfl)
    (case a21 => first | k_is | rfl)
    (case l21 => first | k_is | rfl)
    (case c21 => first | k_is | rfl)
    (case k21 => first | k_is | rfl)
    (case a22 => first | k_is | rfl)
    (case l22 => first | k_is | rfl)
    (case c22 => first | k_is | rfl)
    (case k22 => first | k_is | rfl)
    (case a23 => first | k_is | rfl)
    (case l23 => first | k_is | rfl)
    (case c23 => first | k_is | rfl)
    (case k23 => first | k_is | rfl)
    (case a24 => first | k_is | rfl)
    (case l24 => first | k_is | rfl)
    (case c24 => first | k_is | rfl)
    (case k24 => first | k_is | rfl)
    (case z_len => first | k_is | rfl)
    (case z_int => first | k_is | rfl)
    (case z_abs => first | k_is | rfl)
    (case z_isinstance => first | k_is | rfl)
    (case z_range => first | k_is | rfl)
    (case z_list => first | k_is | rfl)
    (case z_tuple => first | k_is | rfl)
    (case z_bool => first | k_is | rfl)
    (case z_str => first | k_is | rfl)
    (case z_sum => first | k_is | rfl)
    (case z_max => first | k_is | rfl)
    (case z_min => first | k_is | rfl)
    (case z_all => first | k_is | rfl)
    (case z_any => first | k_is | rfl)
    (case z_sorted => first | k_is | rfl)
    (case z_enumerate => first | k_is | rfl)
    (case z_zip => first | k_is | rfl)
    (case z_dict => first | k_is | rfl)

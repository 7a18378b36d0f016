import PyProof.Rows.All
import Wide.All
import OpenK.AllK
import Wide.FinOn
import HandS.ForMost
import HandS.ForExc
import HandS.Gcd
import HandS.Wide
import HandS.IsInst
import HandS.Flt
import HandS.CallSlots
import KE.KExcInit
import HandS.ExcInit
import HandS.ExcField
import HandS.FStr
import PySem.Challenge.RW_pageshares_k02_sums_products_and_order
set_option Elab.async false
set_option linter.all false
set_option maxRecDepth 100000
set_option autoImplicit false
set_option maxHeartbeats 4000000
/-! # Dv: what a def does, told over plain data. Expressions give data, statements turn an environment of data; the heap is hidden.
    as: the addresses of the lists that may still be changed (a dead one is none), ms: their items. -/
namespace Dv
open PySem PySem.Spec L2
/-! ### data -/
inductive Dt where
  | non | bl (b : Bool) | int (i : Int) | str (s : Str) | lst (xs : List Dt) | tup (xs : List Dt) | obj (C : Addr) (fs : List (Str × Dt))
  deriving Inhabited
mutual
inductive Rp (K : PySem.W.Frag) (H : Hp) : V → Dt → Prop
  | non : Rp K H .non .non
  | bl (b : Bool) : Rp K H (.bl b) (.bl b)
  | int (i : Int) : Rp K H (.int i) (.int i)
  | str (s : Str) : Rp K H (.str s) (.str s)
  | lst {a : Addr} {xs : List V} {ds : List Dt} : SqL K H a xs → RpA K H xs ds → Rp K H (.ref a) (.lst ds)
  | tup {a : Addr} {xs : List V} {ds : List Dt} : SqT K H a xs → RpA K H xs ds → Rp K H (.ref a) (.tup ds)
  | obj {a C dx : Addr} {fs : List (Str × V)} {gs : List (Str × Dt)} : H a = some (.ins C dx fs) → RpF K H fs gs → Rp K H (.ref a) (.obj C gs)
inductive RpA (K : PySem.W.Frag) (H : Hp) : List V → List Dt → Prop
  | nil : RpA K H [] []
  | cons {v : V} {d : Dt} {vs : List V} {ds : List Dt} : Rp K H v d → RpA K H vs ds → RpA K H (v :: vs) (d :: ds)
inductive RpF (K : PySem.W.Frag) (H : Hp) : List (Str × V) → List (Str × Dt) → Prop
  | nil : RpF K H [] []
  | cons {f : Str} {v : V} {d : Dt} {vs : List (Str × V)} {ds : List (Str × Dt)} : Rp K H v d → RpF K H vs ds → RpF K H ((f, v) :: vs) ((f, d) :: ds)
end
section
variable {K : PySem.W.Frag} {H H' : Hp}
theorem sqT_same {a : Addr} {xs : List V} (e : Same H H') (h : SqT K H a xs) : SqT K H' a xs := by
  rcases h with h | h
  · rcases h with h | ⟨o, h⟩
    · exact .inl (.inl (e _ _ h))
    · exact .inl (.inr ⟨o, e _ _ h⟩)
  · exact .inr h
mutual
theorem Rp.mono (e : Same H H') : ∀ {v : V} {d : Dt}, Rp K H v d → Rp K H' v d
  | _, _, .non => .non
  | _, _, .bl b => .bl b
  | _, _, .int i => .int i
  | _, _, .str s => .str s
  | _, _, .lst h r => .lst (e.seq h) (RpA.mono e r)
  | _, _, .tup h r => .tup (sqT_same e h) (RpA.mono e r)
  | _, _, .obj h r => .obj (e _ _ h) (RpF.mono e r)
theorem RpA.mono (e : Same H H') : ∀ {vs : List V} {ds : List Dt}, RpA K H vs ds → RpA K H' vs ds
  | _, _, .nil => .nil
  | _, _, .cons h r => .cons (Rp.mono e h) (RpA.mono e r)
theorem RpF.mono (e : Same H H') : ∀ {vs : List (Str × V)} {ds : List (Str × Dt)}, RpF K H vs ds → RpF K H' vs ds
  | _, _, .nil => .nil
  | _, _, .cons h r => .cons (Rp.mono e h) (RpF.mono e r)
end
theorem RpA.len : ∀ {vs : List V} {ds : List Dt}, RpA K H vs ds → vs.length = ds.length
  | _, _, .nil => rfl
  | _, _, .cons _ r => congrArg Nat.succ (RpA.len r)
theorem RpA.get : ∀ {vs : List V} {ds : List Dt} {i : Nat} {d : Dt}, RpA K H vs ds → ds[i]? = some d → ∃ v, vs[i]? = some v ∧ Rp K H v d
  | _, _, _, _, .nil, h => by simp at h
  | _, _, 0, d, .cons r _, h => by
    simp at h
    subst h
    exact ⟨_, rfl, r⟩
  | _, _, i + 1, d, .cons _ t, h => by
    obtain ⟨v, h1, h2⟩ := RpA.get (i := i) (d := d) t (by simpa using h)
    exact ⟨v, by simpa using h1, h2⟩
theorem RpA.get' : ∀ {vs : List V} {ds : List Dt} {i : Nat} {v : V}, RpA K H vs ds → vs[i]? = some v → ∃ d, ds[i]? = some d ∧ Rp K H v d
  | _, _, _, _, .nil, h => by simp at h
  | _, _, 0, d, .cons r _, h => by
    simp at h
    subst h
    exact ⟨_, rfl, r⟩
  | _, _, i + 1, d, .cons _ t, h => by
    obtain ⟨v, h1, h2⟩ := RpA.get' (i := i) t (by simpa using h)
    exact ⟨v, by simpa using h1, h2⟩
theorem RpA.set {v : V} {d : Dt} (h : Rp K H v d) : ∀ {vs : List V} {ds : List Dt} (i : Nat), RpA K H vs ds → RpA K H (vs.set i v) (ds.set i d)
  | _, _, _, .nil => .nil
  | _, _, 0, .cons _ t => .cons h t
  | _, _, i + 1, .cons r t => .cons r (RpA.set h i t)
theorem RpA.app : ∀ {vs us : List V} {ds cs : List Dt}, RpA K H vs ds → RpA K H us cs → RpA K H (vs ++ us) (ds ++ cs)
  | _, _, _, _, .nil, s => s
  | _, _, _, _, .cons r t, s => .cons r (RpA.app t s)
theorem RpA.one {v : V} {d : Dt} (h : Rp K H v d) : RpA K H [v] [d] := .cons h .nil
theorem RpA.take : ∀ {vs : List V} {ds : List Dt} (n : Nat), RpA K H vs ds → RpA K H (vs.take n) (ds.take n)
  | _, _, 0, _ => .nil
  | _, _, _ + 1, .nil => .nil
  | _, _, n + 1, .cons r t => .cons r (RpA.take n t)
theorem RpA.drop : ∀ {vs : List V} {ds : List Dt} (n : Nat), RpA K H vs ds → RpA K H (vs.drop n) (ds.drop n)
  | _, _, 0, r => r
  | _, _, _ + 1, .nil => .nil
  | _, _, n + 1, .cons _ t => RpA.drop n t
theorem RpA.ints : ∀ {vs : List V} {ns : List Int}, RpA K H vs (ns.map Dt.int) → vs = ns.map V.int
  | _, [], .nil => rfl
  | _, n :: ns, .cons (.int _) r => congrArg (V.int n :: ·) (RpA.ints r)
theorem RpA.ofInts : ∀ (ns : List Int), RpA K H (ns.map V.int) (ns.map Dt.int)
  | [] => .nil
  | n :: ns => .cons (.int n) (RpA.ofInts ns)
theorem RpA.bls : ∀ {vs : List V} {ns : List Bool}, RpA K H vs (ns.map Dt.bl) → vs = ns.map V.bl
  | _, [], .nil => rfl
  | _, n :: ns, .cons (.bl _) r => congrArg (V.bl n :: ·) (RpA.bls r)
end
/-! ### the hidden lists -/
structure Xc where
  C : Addr
  fs : List (Str × Dt)
def XcR (K : PySem.W.Frag) (H : Hp) (cls : Value) (d : Option Addr) (x : Xc) : Prop := cls = .ref x.C ∧ ∃ a fs, d = some a ∧ H a = some (.xd fs) ∧ RpF K H fs x.fs
theorem XcR.mono {K : PySem.W.Frag} {H H' : Hp} {cls : Value} {d : Option Addr} {x : Xc} (e : Same H H') (h : XcR K H cls d x) : XcR K H' cls d x := by
  obtain ⟨h1, a, fs, h2, h3, h4⟩ := h
  exact ⟨h1, a, fs, h2, e _ _ h3, h4.mono e⟩
/-- what a slot holds: a datum, a list of ours, an exception that is handled -/
inductive Sv where
  | d (x : Dt) | m (k : Nat) | x (a : Addr) (cls : Value) (dd : Option Addr) (x : Xc)
abbrev As := List (Option Addr)
abbrev Ms := List (Option (List Dt))
abbrev Es := List (Option Sv)
def hid (as : As) (H : Hp) : Hp := fun a => if some a ∈ as then none else H a
theorem hid_of {as : As} {H : Hp} {a : Addr} {o : HO} (h : hid as H a = some o) : H a = some o ∧ some a ∉ as := by
  unfold hid at h
  split at h
  · cases h
  · exact ⟨h, ‹_›⟩
theorem hid_to {as : As} {H : Hp} {a : Addr} {o : HO} (h : H a = some o) (n : some a ∉ as) : hid as H a = some o := by
  unfold hid
  rw [if_neg n]
  exact h
theorem hid_sub {as : As} {H : Hp} : Same (hid as H) H := fun _ _ h => (hid_of h).1
theorem hid_less {as bs : As} {H : Hp} (h : ∀ a, some a ∈ as → some a ∈ bs) : Same (hid bs H) (hid as H) := fun _ _ e =>
  hid_to (hid_of e).1 fun z => (hid_of e).2 (h _ z)
def ValR (K : PySem.W.Frag) (as : As) (H : Hp) : V → Sv → Prop
  | v, .d x => Rp K (hid as H) v x
  | v, .m k => ∃ a, as[k]? = some (some a) ∧ v = .ref a
  | v, .x a cls dd x => v = .ref a ∧ XcR K (hid as H) cls dd x
structure MsR (K : PySem.W.Frag) (as : As) (ms : Ms) (H : Hp) : Prop where
  len : ms.length = as.length
  uniq : ∀ (i j : Nat) (a : Addr), as[i]? = some (some a) → as[j]? = some (some a) → i = j
  is : ∀ (i : Nat) (a : Addr), as[i]? = some (some a) → ∃ ds vs, ms[i]? = some (some ds) ∧ H a = some (.lst vs) ∧ RpA K (hid as H) vs ds
structure Sr (K : PySem.W.Frag) (as : As) (es : Es) (ms : Ms) (σ : St) (H : Hp) : Prop where
  len : es.length = σ.length
  env : ∀ (i : Nat) (sv : Sv), es[i]? = some (some sv) → ∃ v, σ[i]? = some (some v) ∧ ValR K as H v sv
  mem : MsR K as ms H
section
variable {K : PySem.W.Frag} {as as' : As} {es es' : Es} {ms ms' : Ms} {σ : St} {H H' : Hp} {v : V} {sv : Sv} {d : Dt}
theorem ValR.mono (e : Same (hid as H) (hid as H')) : ∀ {v : V} {sv : Sv}, ValR K as H v sv → ValR K as H' v sv
  | _, .d _, h => Rp.mono e h
  | _, .m _, h => h
  | _, .x _ _ _ _, h => ⟨h.1, h.2.mono e⟩
theorem Sr.step (s : Sr K as es ms σ H) (m : MsR K as ms' H') (e : Same (hid as H) (hid as H')) : Sr K as es ms' σ H' :=
  ⟨s.len, fun i sv h => let ⟨v, h1, h2⟩ := s.env i sv h; ⟨v, h1, h2.mono e⟩, m⟩
/-- a slot stored -/
theorem Sr.set (s : Sr K as es ms σ H) (i : Nat) (r : ValR K as H v sv) : Sr K as (es.set i (some sv)) ms (σ.set i (some v)) H := by
  refine ⟨by rw [List.length_set, List.length_set]; exact s.len, fun j sw h => ?_, s.mem⟩
  by_cases c : i = j
  · subst c
    have hl : i < es.length := by
      have := (List.getElem?_eq_some_iff.mp h).1
      rwa [List.length_set] at this
    rw [List.getElem?_set_self hl] at h
    cases h
    exact ⟨v, List.getElem?_set_self (by rw [← s.len]; exact hl), r⟩
  · rw [List.getElem?_set_ne c] at h
    rw [List.getElem?_set_ne c]
    exact s.env j sw h
theorem MsR.there (m : MsR K as ms H) {a : Addr} (h : some a ∈ as) : ∃ vs, H a = some (.lst vs) := by
  obtain ⟨i, hi⟩ := List.getElem?_of_mem h
  obtain ⟨ds, vs, _, hv, _⟩ := m.is i a hi
  exact ⟨vs, hv⟩
theorem MsR.fresh (m : MsR K as ms H) {a : Addr} (h : H a = none) : some a ∉ as := fun z => by
  obtain ⟨vs, hv⟩ := m.there z
  rw [h] at hv
  cases hv
/-- a new thing that is no list of ours -/
theorem MsR.new (m : MsR K as ms H) {p : Addr} {o : HO} (h : H p = none) : MsR K as ms (upd H p o) ∧ Same (hid as H) (hid as (upd H p o)) := by
  have e : Same (hid as H) (hid as (upd H p o)) := fun a u q => hid_to (by rw [upd_ne (ne_of_none (hid_of q).1 h)]; exact (hid_of q).1) (hid_of q).2
  refine ⟨⟨m.len, m.uniq, fun i a hi => ?_⟩, e⟩
  obtain ⟨ds, vs, h1, h2, h3⟩ := m.is i a hi
  exact ⟨ds, vs, h1, by rw [upd_ne (ne_of_none h2 h)]; exact h2, h3.mono e⟩
theorem MsR.at_new (m : MsR K as ms H) {p : Addr} {o : HO} (h : H p = none) : hid as (upd H p o) p = some o := hid_to upd_same (m.fresh h)
/-- a new list of ours -/
theorem MsR.more (m : MsR K as ms H) {p : Addr} {vs : List V} {ds : List Dt} (h : H p = none) (r : RpA K (hid as H) vs ds) :
    MsR K (as ++ [some p]) (ms ++ [some ds]) (upd H p (.lst vs)) ∧ Same (hid as H) (hid (as ++ [some p]) (upd H p (.lst vs))) := by
  have nf := m.fresh h
  have e : Same (hid as H) (hid (as ++ [some p]) (upd H p (.lst vs))) := fun a u q => by
    have ne := ne_of_none (hid_of q).1 h
    refine hid_to (by rw [upd_ne ne]; exact (hid_of q).1) fun z => ?_
    rcases List.mem_append.mp z with z | z
    · exact (hid_of q).2 z
    · exact ne (Option.some.inj (List.mem_singleton.mp z))
  have small : ∀ {i : Nat} {a : Addr}, (as ++ [some p])[i]? = some (some a) → (i < as.length ∧ as[i]? = some (some a)) ∨ (i = as.length ∧ a = p) := fun {i a} q => by
    by_cases c : i < as.length
    · rw [List.getElem?_append_left c] at q
      exact .inl ⟨c, q⟩
    · rw [List.getElem?_append_right (Nat.le_of_not_lt c)] at q
      have c2 : i - as.length = 0 := by
        have := (List.getElem?_eq_some_iff.mp q).1
        simp at this
        omega
      rw [c2] at q
      simp at q
      exact .inr ⟨by omega, q.symm⟩
  refine ⟨⟨by simp [m.len], fun i j a hi hj => ?_, fun i a hi => ?_⟩, e⟩
  · rcases small hi with ⟨_, h1⟩ | ⟨h1, h2⟩
    · rcases small hj with ⟨_, h3⟩ | ⟨_, h4⟩
      · exact m.uniq i j a h1 h3
      · subst h4
        exact absurd (List.mem_of_getElem? h1) nf
    · rcases small hj with ⟨_, h3⟩ | ⟨h3, _⟩
      · subst h2
        exact absurd (List.mem_of_getElem? h3) nf
      · omega
  · rcases small hi with ⟨c, h1⟩ | ⟨h1, h2⟩
    · obtain ⟨ds', vs', k1, k2, k3⟩ := m.is i a h1
      exact ⟨ds', vs', by rw [List.getElem?_append_left (by rw [m.len]; exact c)]; exact k1, by rw [upd_ne (ne_of_none k2 h)]; exact k2, k3.mono e⟩
    · subst h2
      refine ⟨ds, vs, ?_, upd_same, r.mono e⟩
      rw [h1, ← m.len, List.getElem?_append_right (Nat.le_refl _)]
      simp
/-- a list of ours is changed -/
theorem MsR.put (m : MsR K as ms H) {k : Nat} {p : Addr} {vs : List V} {ds : List Dt} (h : as[k]? = some (some p)) (r : RpA K (hid as H) vs ds) :
    MsR K as (ms.set k (some ds)) (upd H p (.lst vs)) ∧ Same (hid as H) (hid as (upd H p (.lst vs))) := by
  have mp : some p ∈ as := List.mem_of_getElem? h
  have e : Same (hid as H) (hid as (upd H p (.lst vs))) := fun a u q => by
    have ne : a ≠ p := fun z => (hid_of q).2 (z ▸ mp)
    exact hid_to (by rw [upd_ne ne]; exact (hid_of q).1) (hid_of q).2
  refine ⟨⟨by rw [List.length_set]; exact m.len, m.uniq, fun i a hi => ?_⟩, e⟩
  by_cases c : a = p
  · subst c
    have := m.uniq i k a hi h
    subst this
    refine ⟨ds, vs, List.getElem?_set_self ?_, upd_same, r.mono e⟩
    rw [m.len]
    exact (List.getElem?_eq_some_iff.mp h).1
  · obtain ⟨ds', vs', k1, k2, k3⟩ := m.is i a hi
    have c2 : k ≠ i := fun z => c (by subst z; rw [h] at hi; exact (Option.some.inj (Option.some.inj hi)).symm)
    exact ⟨ds', vs', by rw [List.getElem?_set_ne c2]; exact k1, by rw [upd_ne c]; exact k2, k3.mono e⟩
/-- what is behind the last of ours forgotten -/
theorem MsR.back {p : Addr} {ds : List Dt} (m : MsR K (as ++ [some p]) (ms ++ [some ds]) H) : MsR K as ms H ∧ Rp K (hid as H) (.ref p) (.lst ds) ∧ Same (hid (as ++ [some p]) H) (hid as H) := by
  have e : Same (hid (as ++ [some p]) H) (hid as H) := hid_less fun a z => List.mem_append_left _ z
  have hl : ms.length = as.length := by
    have := m.len
    simp at this
    exact this
  refine ⟨⟨hl, fun i j a hi hj => ?_, fun i a hi => ?_⟩, ?_, e⟩
  · refine m.uniq i j a ?_ ?_
    · rw [List.getElem?_append_left (List.getElem?_eq_some_iff.mp hi).1]; exact hi
    · rw [List.getElem?_append_left (List.getElem?_eq_some_iff.mp hj).1]; exact hj
  · have c := (List.getElem?_eq_some_iff.mp hi).1
    obtain ⟨ds', vs', k1, k2, k3⟩ := m.is i a (by rw [List.getElem?_append_left c]; exact hi)
    rw [List.getElem?_append_left (by rw [hl]; exact c)] at k1
    exact ⟨ds', vs', k1, k2, k3.mono e⟩
  · have hp : (as ++ [some p])[as.length]? = some (some p) := by simp
    obtain ⟨ds', vs', k1, k2, k3⟩ := m.is as.length p hp
    rw [← hl] at k1
    simp at k1
    subst k1
    refine .lst (.inl (.inl (hid_to k2 fun z => ?_))) (k3.mono e)
    obtain ⟨j, hj⟩ := List.getElem?_of_mem z
    have hj' := (List.getElem?_eq_some_iff.mp hj).1
    have := m.uniq j as.length p (by rw [List.getElem?_append_left hj']; exact hj) hp
    omega
end
/-! ### readings -/
def tD (K : PySem.W.Frag) (es : Es) (ms : Ms) (sv : Sv) (ms' : Ms) : TE := fun σ H Q => ∃ as, Sr K as es ms σ H ∧
  ∀ v H', MsR K as ms' H' → Same (hid as H) (hid as H') → ValR K as H' v sv → Q v H'
def tBo (K : PySem.W.Frag) (es : Es) (ms : Ms) (b : Bool) (ms' : Ms) : TT := fun σ H Q => ∃ as, Sr K as es ms σ H ∧
  ∀ H', MsR K as ms' H' → Same (hid as H) (hid as H') → Q b H'
inductive ArR (K : PySem.W.Frag) (as : As) (H : Hp) : List V → List Sv → Prop
  | nil : ArR K as H [] []
  | cons {v : V} {sv : Sv} {vs : List V} {ss : List Sv} : ValR K as H v sv → ArR K as H vs ss → ArR K as H (v :: vs) (sv :: ss)
def tAr (K : PySem.W.Frag) (es : Es) (ms : Ms) (ss : List Sv) (ms' : Ms) : TA := fun σ H Q => ∃ as, Sr K as es ms σ H ∧
  ∀ vs H', MsR K as ms' H' → Same (hid as H) (hid as H') → ArR K as H' vs ss → Q vs H'
/-- a new list that nothing else holds -/
def tN (K : PySem.W.Frag) (es : Es) (ms : Ms) (ds : List Dt) (ms' : Ms) : TE := fun σ H Q => ∃ as, Sr K as es ms σ H ∧
  ∀ p H', H p = none → MsR K (as ++ [some p]) (ms' ++ [some ds]) H' → Same (hid as H) (hid (as ++ [some p]) H') → Q (.ref p) H'
theorem ArR.mono {K : PySem.W.Frag} {as : As} {H H' : Hp} (e : Same (hid as H) (hid as H')) : ∀ {vs : List V} {ss : List Sv}, ArR K as H vs ss → ArR K as H' vs ss
  | _, _, .nil => .nil
  | _, _, .cons h r => .cons (h.mono e) (ArR.mono e r)
theorem ArR.len {K : PySem.W.Frag} {as : As} {H : Hp} : ∀ {vs : List V} {ss : List Sv}, ArR K as H vs ss → vs.length = ss.length
  | _, _, .nil => rfl
  | _, _, .cons _ r => congrArg Nat.succ (ArR.len r)
theorem ArR.data {K : PySem.W.Frag} {as : As} {H : Hp} : ∀ {vs : List V} {ds : List Dt}, ArR K as H vs (ds.map Sv.d) → RpA K (hid as H) vs ds
  | _, [], .nil => .nil
  | _, _ :: _, .cons h r => .cons h (ArR.data r)
section
variable {X : Cx} {es : Es} {ms ms1 ms2 ms3 : Ms} {a b c e : Expr} {pos : Pos} {x y z sv : Sv}
theorem pe_w {t t' : TE} (h : PE X e t) (w : ∀ σ H Q, t' σ H Q → t σ H Q) : PE X e t' := ⟨fun p s σ H Q I q => h.run p s σ H Q I (w σ H Q q)⟩
theorem pt_w {t t' : TT} (h : PT X e t) (w : ∀ σ H Q, t' σ H Q → t σ H Q) : PT X e t' := ⟨fun p s σ H Q I q => h.run p s σ H Q I (w σ H Q q)⟩
theorem pw_w {t t' : TT} (h : PW X e t) (w : ∀ σ H Q, t' σ H Q → t σ H Q) : PW X e t' := ⟨fun wh p s σ H Q I q => h.run wh p s σ H Q I (w σ H Q q)⟩
theorem pa_w {l : List Expr} {t t' : TA} (h : PA X l t) (w : ∀ σ H Q, t' σ H Q → t σ H Q) : PA X l t' := ⟨fun po p s σ H Q I q => h.run po p s σ H Q I (w σ H Q q)⟩
theorem ps_w {st : Stmt} {t t' : TS} (h : PS X st t) (w : ∀ D σ H, t' D σ H → t D σ H) : PS X st t' := ⟨fun p s σ H D I q => h.run p s σ H D I (w D σ H q)⟩
theorem pss_w {st : List Stmt} {t t' : TS} (h : PSs X st t) (w : ∀ D σ H, t' D σ H → t D σ H) : PSs X st t' := ⟨fun p s σ H D I q => h.run p s σ H D I (w D σ H q)⟩
theorem d_is (h : PE X e (tD X.K es ms x ms1)) (q : x = y) : PE X e (tD X.K es ms y ms1) := q ▸ h
theorem d_ofN {ds : List Dt} (h : PE X e (tN X.K es ms ds ms1)) : PE X e (tD X.K es ms (.d (.lst ds)) ms1) := pe_w h fun σ H Q ⟨as, s, k⟩ =>
  ⟨as, s, fun p H' hp m q => k (.ref p) H' m.back.1 (q.trans m.back.2.2) m.back.2.1⟩
/-! ### names and constants -/
inductive Slot : List Str → Es → Str → Sv → Prop
  | here {n : Str} {N : List Str} {es : Es} {sv : Sv} : Slot (n :: N) (some sv :: es) n sv
  | there {n x : Str} {N : List Str} {o : Option Sv} {es : Es} {sv : Sv} : Slot N es x sv → Slot (n :: N) (o :: es) x sv
theorem Slot.ix : ∀ {N : List Str} {es : Es} {x : Str} {sv : Sv}, Slot N es x sv → ∃ i : Nat, N[i]? = some x ∧ es[i]? = some (some sv)
  | _, _, _, _, .here => ⟨0, rfl, rfl⟩
  | _, _, _, _, .there h => let ⟨i, h1, h2⟩ := h.ix; ⟨i + 1, by simpa using h1, by simpa using h2⟩
inductive Put : List Str → Es → Str → Sv → Es → Prop
  | here {n : Str} {N : List Str} {o : Option Sv} {es : Es} {sv : Sv} : Put (n :: N) (o :: es) n sv (some sv :: es)
  | there {n x : Str} {N : List Str} {o : Option Sv} {es es' : Es} {sv : Sv} : Put N es x sv es' → Put (n :: N) (o :: es) x sv (o :: es')
theorem Put.ix : ∀ {N : List Str} {es es' : Es} {x : Str} {sv : Sv}, Put N es x sv es' → ∃ i : Nat, N[i]? = some x ∧ es' = es.set i (some sv)
  | _, _, _, _, _, .here => ⟨0, rfl, rfl⟩
  | _, _, _, _, _, .there h => by
    obtain ⟨i, h1, h2⟩ := h.ix
    exact ⟨i + 1, by simpa using h1, by rw [h2, List.set_cons_succ]⟩
theorem d_var {N : List Str} {n : Str} (hN : X.N = N) (h : Slot N es n sv) (hv : Vis X.env.scope n := by first | exact Or.inl rfl | exact Or.inr (Or.inl rfl) | exact Or.inr (Or.inr rfl))
    (hd : (n == ("__debug__" : Str)) = false := by decide) (hcd : (n == ("__classdict__" : Str)) = false := by decide) : PE X (.Name n pos) (tD X.K es ms sv ms) := by
  obtain ⟨i, h1, h2⟩ := h.ix
  refine pe_w (pe_var (i := i) (by rw [hN]; exact h1) hv hd hcd) fun σ H Q ⟨as, s, k⟩ => ?_
  obtain ⟨v, e1, e2⟩ := s.env i sv h2
  exact ⟨v, e1, k v H s.mem (Same.refl _) e2⟩
theorem d_int {i : Int} {j} : PE X (.Constant (.int i) j pos) (tD X.K es ms (.d (.int i)) ms) := pe_w pe_int fun σ H Q ⟨as, s, k⟩ => k _ H s.mem (Same.refl _) (.int i)
theorem d_bl {i : Bool} {j} : PE X (.Constant (.bool i) j pos) (tD X.K es ms (.d (.bl i)) ms) := pe_w pe_bl fun σ H Q ⟨as, s, k⟩ => k _ H s.mem (Same.refl _) (.bl i)
theorem d_non {j} : PE X (.Constant .none j pos) (tD X.K es ms (.d .non) ms) := pe_w pe_non fun σ H Q ⟨as, s, k⟩ => k _ H s.mem (Same.refl _) .non
theorem d_str {i : Str} {j} : PE X (.Constant (.str i) j pos) (tD X.K es ms (.d (.str i)) ms) := pe_w pe_str fun σ H Q ⟨as, s, k⟩ => k _ H s.mem (Same.refl _) (.str i)
/-! ### arguments and displays -/
theorem a_nil : PA X [] (tAr X.K es ms [] ms) := pa_w pa_nil fun σ H Q ⟨as, s, k⟩ => k [] H s.mem (Same.refl _) .nil
theorem a_cons {l : List Expr} {ss : List Sv} (h : PE X e (tD X.K es ms x ms1)) (r : PA X l (tAr X.K es ms1 ss ms2)) (hs : starEach (e :: l) X.env = (false, eval e X.env) :: starEach l X.env := by rfl) : PA X (e :: l) (tAr X.K es ms (x :: ss) ms2) :=
  pa_w (pa_cons h r hs) fun σ H Q ⟨as, s, k⟩ => ⟨as, s, fun v H1 m1 e1 r1 => ⟨as, s.step m1 e1, fun vs H2 m2 e2 r2 => k (v :: vs) H2 m2 (e1.trans e2) (.cons (r1.mono e2) r2)⟩⟩
theorem d_tup {l : List Expr} {ds : List Dt} {x1} (h : PA X l (tAr X.K es ms (ds.map Sv.d) ms1)) (hl : ds.length ≤ 1000 := by decide) : PE X (.Tuple l x1 pos) (tD X.K es ms (.d (.tup ds)) ms1) :=
  pe_w (pe_tup h) fun σ H Q ⟨as, s, k⟩ => ⟨as, s, fun vs H1 m1 e1 r1 => ⟨by
    have := r1.data.len
    rw [this]
    exact Nat.le_of_lt (small1000 hl), fun p hp => k _ _ (m1.new hp).1 (e1.trans (m1.new hp).2) (.tup (.inl (.inl (m1.at_new hp))) (r1.data.mono (m1.new hp).2))⟩⟩
theorem n_lst {l : List Expr} {ds : List Dt} (h : PA X l (tAr X.K es ms (ds.map Sv.d) ms1)) (hl : ds.length ≤ 1000 := by decide) : PE X (.List l pos) (tN X.K es ms ds ms1) :=
  pe_w (pe_lst h) fun σ H Q ⟨as, s, k⟩ => ⟨as, s, fun vs H1 m1 e1 r1 => ⟨by
    have := r1.data.len
    rw [this]
    exact Nat.le_of_lt (small1000 hl), fun p hp => k p _ (by
      cases q : H p with
      | none => rfl
      | some o =>
        by_cases c : some p ∈ as
        · exact absurd c (m1.fresh hp)
        · have := e1 p o (hid_to q c)
          rw [(hid_of this).1] at hp
          cases hp) (m1.more hp r1.data).1 (e1.trans (m1.more hp r1.data).2)⟩⟩
/-! ### operators -/
theorem d_op {op : Operator} {r : R2} (ho : OpR X (binaryOp op) r) (ha : PE X a (tD X.K es ms x ms1)) (hb : PE X b (tD X.K es ms1 y ms2))
    (hr : ∀ as v u H (Q : VK), MsR X.K as ms2 H → ValR X.K as H v x → ValR X.K as H u y → (∀ w H', MsR X.K as ms2 H' → Same (hid as H) (hid as H') → ValR X.K as H' w z → Q w H') → r v u H Q) :
    PE X (.BinOp a op b pos) (tD X.K es ms z ms2) :=
  pe_w (pe_op ho ha hb) fun σ H Q ⟨as, s, k⟩ => ⟨as, s, fun v H1 m1 e1 r1 => ⟨as, s.step m1 e1, fun u H2 m2 e2 r2 => hr as v u H2 Q m2 (r1.mono e2) r2 fun w H3 m3 e3 r3 => k w H3 m3 ((e1.trans e2).trans e3) r3⟩⟩
theorem opI0 {op : Operator} {i j : Int} {g : Int → Int → Int} (ho : OpR X (binaryOp op) (rI0 fun i j => .int (g i j))) (ha : PE X a (tD X.K es ms (.d (.int i)) ms1)) (hb : PE X b (tD X.K es ms1 (.d (.int j)) ms2)) :
    PE X (.BinOp a op b pos) (tD X.K es ms (.d (.int (g i j))) ms2) := d_op ho ha hb fun as v u H Q m rv ru k => by
  cases rv
  cases ru
  exact ⟨i, j, rfl, rfl, k _ _ m (Same.refl _) (.int _)⟩
theorem opI {op : Operator} {i j : Int} {C : Int → Int → Prop} {g : Int → Int → Int} (ho : OpR X (binaryOp op) (rI C fun i j => .int (g i j))) (ha : PE X a (tD X.K es ms (.d (.int i)) ms1)) (hb : PE X b (tD X.K es ms1 (.d (.int j)) ms2)) (hc : C i j) :
    PE X (.BinOp a op b pos) (tD X.K es ms (.d (.int (g i j))) ms2) := d_op ho ha hb fun as v u H Q m rv ru k => by
  cases rv
  cases ru
  exact ⟨i, j, rfl, rfl, hc, k _ _ m (Same.refl _) (.int _)⟩
theorem d_add {i j : Int} (ha : PE X a (tD X.K es ms (.d (.int i)) ms1)) (hb : PE X b (tD X.K es ms1 (.d (.int j)) ms2)) : PE X (.BinOp a .Add b pos) (tD X.K es ms (.d (.int (i + j))) ms2) := opI0 op_add ha hb
theorem d_sub {i j : Int} (ha : PE X a (tD X.K es ms (.d (.int i)) ms1)) (hb : PE X b (tD X.K es ms1 (.d (.int j)) ms2)) : PE X (.BinOp a .Sub b pos) (tD X.K es ms (.d (.int (i - j))) ms2) := opI0 op_sub ha hb
theorem d_mul {i j : Int} (ha : PE X a (tD X.K es ms (.d (.int i)) ms1)) (hb : PE X b (tD X.K es ms1 (.d (.int j)) ms2)) (hc : CMulW i j) : PE X (.BinOp a .Mult b pos) (tD X.K es ms (.d (.int (i * j))) ms2) := opI op_mulW ha hb hc
theorem d_fdiv {i j : Int} (ha : PE X a (tD X.K es ms (.d (.int i)) ms1)) (hb : PE X b (tD X.K es ms1 (.d (.int j)) ms2)) (hc : CDivW i j) : PE X (.BinOp a .FloorDiv b pos) (tD X.K es ms (.d (.int (i / j))) ms2) := opI op_fdivW ha hb hc
theorem d_mod {i j : Int} (ha : PE X a (tD X.K es ms (.d (.int i)) ms1)) (hb : PE X b (tD X.K es ms1 (.d (.int j)) ms2)) (hc : 0 < j) : PE X (.BinOp a .Mod b pos) (tD X.K es ms (.d (.int (i % j))) ms2) := opI op_mod ha hb hc
theorem d_pow {i j : Int} (ha : PE X a (tD X.K es ms (.d (.int i)) ms1)) (hb : PE X b (tD X.K es ms1 (.d (.int j)) ms2)) (hc : CPow i j) : PE X (.BinOp a .Pow b pos) (tD X.K es ms (.d (.int (i ^ j.toNat))) ms2) := opI op_pow ha hb hc
theorem d_neg {i : Int} (ha : PE X a (tD X.K es ms (.d (.int i)) ms1)) : PE X (.UnaryOp .USub a pos) (tD X.K es ms (.d (.int (-i))) ms1) :=
  pe_w (pe_un un_neg ha) fun σ H Q ⟨as, s, k⟩ => ⟨as, s, fun v H1 m1 e1 r1 => by cases r1; exact ⟨i, rfl, k _ _ m1 e1 (.int _)⟩⟩
/-! ### comparisons -/
theorem pe_never : PE X e (fun _ _ _ => False) := ⟨fun _ _ _ _ _ _ h => h.elim⟩
def CmpOk (X : Cx) (op : CmpOp) (x y : Sv) (p : Bool) : Prop := ∃ r, OpR X (compareOp op) r ∧ ∀ as ms v u H (Q : VK), MsR X.K as ms H → ValR X.K as H v x → ValR X.K as H u y → Q (.bl p) H → r v u H Q
theorem d_cmp {op : CmpOp} {p : Bool} (ha : PE X a (tD X.K es ms x ms1)) (hb : PE X b (tD X.K es ms1 y ms2)) (hc : CmpOk X op x y p) (hm : behindInMarks op b = false := by first | exact nomark _ | rfl) : PE X (.Compare a [op] [b] pos) (tD X.K es ms (.d (.bl p)) ms2) := by
  obtain ⟨r, ho, hr⟩ := hc
  exact pe_w (pe_cmpR ho ha hb hm) fun σ H Q ⟨as, s, k⟩ => ⟨as, s, fun v H1 m1 e1 r1 => ⟨as, s.step m1 e1, fun u H2 m2 e2 r2 => hr as ms2 v u H2 Q m2 (r1.mono e2) r2 (k _ H2 m2 (e1.trans e2) (.bl p))⟩⟩
theorem b_cmp {op : CmpOp} {p : Bool} (ha : PE X a (tD X.K es ms x ms1)) (hb : PE X b (tD X.K es ms1 y ms2)) (hc : CmpOk X op x y p) (hm : behindInMarks op b = false := by first | exact nomark _ | rfl) : PT X (.Compare a [op] [b] pos) (tBo X.K es ms p ms2) := by
  obtain ⟨r, ho, hr⟩ := hc
  exact pt_w (pt_cmpR ho ha hb hm) fun σ H Q ⟨as, s, k⟩ => ⟨as, s, fun v H1 m1 e1 r1 => ⟨as, s.step m1 e1, fun u H2 m2 e2 r2 => hr as ms2 v u H2 _ m2 (r1.mono e2) r2 ⟨p, rfl, k H2 m2 (e1.trans e2)⟩⟩⟩
theorem d_chain {op op' : CmpOp} {p q : Bool} {m3 : Ms} (ha : PE X a (tD X.K es ms x ms1)) (hb : PE X b (tD X.K es ms1 y ms2)) (hc : CmpOk X op x y p) (hd : p = true → PE X c (tD X.K es ms2 z ms2) ∧ CmpOk X op' y z q) (hm : lastMarks [op, op'] [b, c] = false := by rfl) :
    PE X (.Compare a [op, op'] [b, c] pos) (tD X.K es ms (.d (.bl (p && q))) ms2) := by
  obtain ⟨r, ho, hr⟩ := hc
  cases p with
  | true =>
    obtain ⟨hcc, r', ho', hr'⟩ := hd rfl
    exact pe_w (pe_chain ho ho' ha hb hcc hm) fun σ H Q ⟨as, s, k⟩ => ⟨as, s, fun v H1 m1 e1 r1 => ⟨as, s.step m1 e1, fun u H2 m2 e2 r2 => hr as ms2 v u H2 _ m2 (r1.mono e2) r2 ⟨true, rfl, iteT ⟨as, s.step m2 (e1.trans e2), fun w H3 m3 e3 r3 => hr' as ms2 u w H3 _ m3 (r2.mono e3) r3 (k _ H3 m3 ((e1.trans e2).trans e3) (.bl q))⟩⟩⟩⟩
  | false => exact pe_w (pe_chain ho (r' := fun _ _ _ _ => False) (op' := op') (fun _ _ _ _ _ _ _ _ _ _ _ _ h => h.elim) ha hb pe_never hm) fun σ H Q ⟨as, s, k⟩ => ⟨as, s, fun v H1 m1 e1 r1 => ⟨as, s.step m1 e1, fun u H2 m2 e2 r2 => hr as ms2 v u H2 _ m2 (r1.mono e2) r2 ⟨false, rfl, iteF (k _ H2 m2 (e1.trans e2) (.bl false))⟩⟩⟩
theorem c_int {op : CmpOp} {i j : Int} {g : Int → Int → Bool} (ho : OpR X (compareOp op) (rI0 fun i j => .bl (g i j))) : CmpOk X op (.d (.int i)) (.d (.int j)) (g i j) := ⟨_, ho, fun as ms v u H Q m rv ru k => by
  cases rv
  cases ru
  exact ⟨i, j, rfl, rfl, k⟩⟩
theorem c_lt {i j : Int} : CmpOk X .Lt (.d (.int i)) (.d (.int j)) (decide (i < j)) := c_int op_lt
theorem c_le {i j : Int} : CmpOk X .LtE (.d (.int i)) (.d (.int j)) (decide (i ≤ j)) := c_int op_le
theorem c_gt {i j : Int} : CmpOk X .Gt (.d (.int i)) (.d (.int j)) (decide (j < i)) := c_int op_gt
theorem c_ge {i j : Int} : CmpOk X .GtE (.d (.int i)) (.d (.int j)) (decide (j ≤ i)) := c_int op_ge
theorem c_eqI {i j : Int} : CmpOk X .Eq (.d (.int i)) (.d (.int j)) (decide (i = j)) := ⟨_, op_eq, fun as ms v u H Q m rv ru k => by
  cases rv
  cases ru
  exact ⟨rfl, by rw [show decide (V.int i = V.int j) = decide (i = j) by simp]; exact k⟩⟩
theorem c_neI {i j : Int} : CmpOk X .NotEq (.d (.int i)) (.d (.int j)) (!decide (i = j)) := ⟨_, op_ne, fun as ms v u H Q m rv ru k => by
  cases rv
  cases ru
  exact ⟨rfl, by rw [show decide (V.int i = V.int j) = decide (i = j) by simp]; exact k⟩⟩
theorem c_eqB {i j : Bool} : CmpOk X .Eq (.d (.bl i)) (.d (.bl j)) (decide (i = j)) := ⟨_, op_eq, fun as ms v u H Q m rv ru k => by
  cases rv
  cases ru
  exact ⟨rfl, by rw [show decide (V.bl i = V.bl j) = decide (i = j) by simp]; exact k⟩⟩
theorem c_eqS {i j : Str} : CmpOk X .Eq (.d (.str i)) (.d (.str j)) (decide (i = j)) := ⟨_, op_eq, fun as ms v u H Q m rv ru k => by
  cases rv
  cases ru
  exact ⟨rfl, by rw [show decide (V.str i = V.str j) = decide (i = j) by simp]; exact k⟩⟩
def isNon : Dt → Bool
  | .non => true
  | _ => false
theorem Rp.isNon {K : PySem.W.Frag} {H : Hp} {v : V} {d : Dt} (h : Rp K H v d) : decide (v = .non) = isNon d := by
  cases h <;> simp [Dv.isNon]
theorem c_isN {d : Dt} : CmpOk X .Is (.d d) (.d .non) (isNon d) := ⟨_, op_isN, fun as ms v u H Q m rv ru k => by
  cases ru
  exact ⟨rfl, by rw [rv.isNon]; exact k⟩⟩
theorem c_notN {d : Dt} : CmpOk X .IsNot (.d d) (.d .non) (!isNon d) := ⟨_, op_notN, fun as ms v u H Q m rv ru k => by
  cases ru
  exact ⟨rfl, by rw [rv.isNon]; exact k⟩⟩
/-! ### and, or, not; conditional expressions (what they ask changes nothing) -/
theorem d_one {op} (h : PE X a (tD X.K es ms x ms1)) : PE X (.BoolOp op [a] pos) (tD X.K es ms x ms1) := pe_one h
theorem d_and {rest : List Expr} {p q : Bool} (ha : PE X a (tD X.K es ms (.d (.bl p)) ms)) (hb : p = true → PE X (.BoolOp .And (b :: rest) pos) (tD X.K es ms (.d (.bl q)) ms)) : PE X (.BoolOp .And (a :: b :: rest) pos) (tD X.K es ms (.d (.bl (p && q))) ms) := by
  cases p with
  | true => exact pe_w (pe_and ha (hb rfl)) fun σ H Q ⟨as, s, k⟩ => ⟨as, s, fun v H1 m1 e1 r1 => by
      cases r1
      exact ⟨true, rfl, iteT ⟨as, s.step m1 e1, fun u H2 m2 e2 r2 => k u H2 m2 (e1.trans e2) r2⟩⟩⟩
  | false => exact pe_w (pe_and ha pe_never) fun σ H Q ⟨as, s, k⟩ => ⟨as, s, fun v H1 m1 e1 r1 => by
      cases r1
      exact ⟨false, rfl, iteF (k _ H1 m1 e1 (.bl false))⟩⟩
theorem d_or {rest : List Expr} {p q : Bool} (ha : PE X a (tD X.K es ms (.d (.bl p)) ms)) (hb : p = false → PE X (.BoolOp .Or (b :: rest) pos) (tD X.K es ms (.d (.bl q)) ms)) : PE X (.BoolOp .Or (a :: b :: rest) pos) (tD X.K es ms (.d (.bl (p || q))) ms) := by
  cases p with
  | false => exact pe_w (pe_or ha (hb rfl)) fun σ H Q ⟨as, s, k⟩ => ⟨as, s, fun v H1 m1 e1 r1 => by
      cases r1
      exact ⟨false, rfl, iteF ⟨as, s.step m1 e1, fun u H2 m2 e2 r2 => k u H2 m2 (e1.trans e2) r2⟩⟩⟩
  | true => exact pe_w (pe_or ha pe_never) fun σ H Q ⟨as, s, k⟩ => ⟨as, s, fun v H1 m1 e1 r1 => by
      cases r1
      exact ⟨true, rfl, iteT (k _ H1 m1 e1 (.bl true))⟩⟩
theorem d_not {p : Bool} (ha : PE X a (tD X.K es ms (.d (.bl p)) ms1)) : PE X (.UnaryOp .Not a pos) (tD X.K es ms (.d (.bl (!p))) ms1) :=
  pe_w (pe_not ha) fun σ H Q ⟨as, s, k⟩ => ⟨as, s, fun v H1 m1 e1 r1 => by
    cases r1
    exact ⟨p, rfl, k _ H1 m1 e1 (.bl _)⟩⟩
theorem d_ifT (hc : PT X c (tBo X.K es ms true ms1)) (ha : PE X a (tD X.K es ms1 x ms2)) : PE X (.IfExp c a b pos) (tD X.K es ms x ms2) :=
  pe_w (pe_ifExp hc ha pe_never) fun σ H Q ⟨as, s, k⟩ => ⟨as, s, fun H1 m1 e1 => iteT ⟨as, s.step m1 e1, fun u H2 m2 e2 r2 => k u H2 m2 (e1.trans e2) r2⟩⟩
theorem d_ifF (hc : PT X c (tBo X.K es ms false ms1)) (hb : PE X b (tD X.K es ms1 x ms2)) : PE X (.IfExp c a b pos) (tD X.K es ms x ms2) :=
  pe_w (pe_ifExp hc pe_never hb) fun σ H Q ⟨as, s, k⟩ => ⟨as, s, fun H1 m1 e1 => iteF ⟨as, s.step m1 e1, fun u H2 m2 e2 r2 => k u H2 m2 (e1.trans e2) r2⟩⟩
theorem d_if {p : Bool} {x y : Sv} {m3 : Ms} (hc : PT X c (tBo X.K es ms p ms1)) (ha : p = true → PE X a (tD X.K es ms1 x ms2)) (hb : p = false → PE X b (tD X.K es ms1 y m3)) : PE X (.IfExp c a b pos) (tD X.K es ms (if p = true then x else y) (if p = true then ms2 else m3)) := by
  cases p with
  | true => exact d_ifT hc (ha rfl)
  | false => exact d_ifF hc (hb rfl)
/-- a value as a test -/
theorem b_val {p : Bool} (ha : PE X a (tD X.K es ms (.d (.bl p)) ms1)) (he : ∀ whole, PySem.isTrue a X.env whole = (do let v ← whole; standAt a.pos; holding [v] (truthy v)) := by intro _; rfl) : PT X a (tBo X.K es ms p ms1) :=
  pt_w (pt_val ha he) fun σ H Q ⟨as, s, k⟩ => ⟨as, s, fun v H1 m1 e1 r1 => by
    cases r1
    exact ⟨p, rfl, k H1 m1 e1⟩⟩
theorem b_not {p : Bool} (ha : PT X a (tBo X.K es ms p ms1)) : PT X (.UnaryOp .Not a pos) (tBo X.K es ms (!p) ms1) :=
  pt_w (pt_not ha) fun σ H Q ⟨as, s, k⟩ => ⟨as, s, fun H1 m1 e1 => k H1 m1 e1⟩
theorem pw_never : PW X e (fun _ _ _ => False) := ⟨fun _ _ _ _ _ _ _ h => h.elim⟩
theorem w_and1 {p : Bool} (ha : PT X a (tBo X.K es ms p ms1)) : PW X (.BoolOp .And [a] pos) (tBo X.K es ms p ms1) := pw_and1 ha
theorem w_or1 {p : Bool} (ha : PT X a (tBo X.K es ms p ms1)) : PW X (.BoolOp .Or [a] pos) (tBo X.K es ms p ms1) := pw_or1 ha
theorem w_and {rest : List Expr} {p q : Bool} (ha : PT X a (tBo X.K es ms p ms)) (hb : p = true → PW X (.BoolOp .And (b :: rest) pos) (tBo X.K es ms q ms)) : PW X (.BoolOp .And (a :: b :: rest) pos) (tBo X.K es ms (p && q) ms) := by
  cases p with
  | true => exact pw_w (pw_and ha (hb rfl)) fun σ H Q ⟨as, s, k⟩ => ⟨as, s, fun H1 m1 e1 => iteT ⟨as, s.step m1 e1, fun H2 m2 e2 => k H2 m2 (e1.trans e2)⟩⟩
  | false => exact pw_w (pw_and ha pw_never) fun σ H Q ⟨as, s, k⟩ => ⟨as, s, fun H1 m1 e1 => iteF (k H1 m1 e1)⟩
theorem w_or {rest : List Expr} {p q : Bool} (ha : PT X a (tBo X.K es ms p ms)) (hb : p = false → PW X (.BoolOp .Or (b :: rest) pos) (tBo X.K es ms q ms)) : PW X (.BoolOp .Or (a :: b :: rest) pos) (tBo X.K es ms (p || q) ms) := by
  cases p with
  | false => exact pw_w (pw_or ha (hb rfl)) fun σ H Q ⟨as, s, k⟩ => ⟨as, s, fun H1 m1 e1 => iteF ⟨as, s.step m1 e1, fun H2 m2 e2 => k H2 m2 (e1.trans e2)⟩⟩
  | true => exact pw_w (pw_or ha pw_never) fun σ H Q ⟨as, s, k⟩ => ⟨as, s, fun H1 m1 e1 => iteT (k H1 m1 e1)⟩
theorem b_pw {p : Bool} (h : PW X e (tBo X.K es ms p ms1)) : PT X e (tBo X.K es ms p ms1) := h.pt
theorem b_is {p q : Bool} (h : PT X e (tBo X.K es ms p ms1)) (w : p = q) : PT X e (tBo X.K es ms q ms1) := w ▸ h
end
end Dv
/-! # Dv1: built-ins, items, statements, loops, defs -/
namespace Dv
open PySem PySem.Spec L2
section
variable {X : Cx} {es es' : Es} {ms ms1 ms2 ms3 : Ms} {a b c e : Expr} {p pos : Pos} {x y z sv : Sv} {x0 : Str}
/-! ### built-ins by their names -/
theorem d_callB {id : String} {r : List V → Hp → VK → Prop} {l : List Expr} {ss : List Sv} (hc : CallR X (.builtin id) r) (hg : Gl X x0) (hm : X.mg x0 = none) (hv : bootBuiltins x0 = some (.builtin id)) (ha : PA X (e :: l) (tAr X.K es ms ss ms1))
    (hr : ∀ as vs H (Q : VK), MsR X.K as ms1 H → ArR X.K as H vs ss → (∀ w H', MsR X.K as ms1 H' → Same (hid as H) (hid as H') → ValR X.K as H' w z → Q w H') → r vs H Q)
    (hn : x0 ≠ "__name__" := by decide) (hd : (x0 == ("__debug__" : Str)) = false := by decide)
    (he : starEach (e :: l) X.env = (false, eval e X.env) :: starEach l X.env := by rfl) (hpl : (backTo pos (starEach l X.env)).any (·.1) = false := by rfl) :
    PE X (.Call (.Name x0 p) (e :: l) [] pos) (tD X.K es ms z ms1) :=
  pe_w (pe_callB hc hg hm hv ha hn hd he hpl) fun σ H Q ⟨as, s, k⟩ => ⟨as, s, fun vs H1 m1 e1 r1 => hr as vs H1 Q m1 r1 fun w H2 m2 e2 r2 => k w H2 m2 (e1.trans e2) r2⟩
theorem d_callTy {T : String} {r : List V → Hp → VK → Prop} {l : List Expr} {ss : List Sv} (hc : CallR X (.type T) r) (hg : Gl X x0) (hm : X.mg x0 = none) (hv : bootBuiltins x0 = some (.type T)) (ha : PA X (e :: l) (tAr X.K es ms ss ms1))
    (hr : ∀ as vs H (Q : VK), MsR X.K as ms1 H → ArR X.K as H vs ss → (∀ w H', MsR X.K as ms1 H' → Same (hid as H) (hid as H') → ValR X.K as H' w z → Q w H') → r vs H Q)
    (hn : x0 ≠ "__name__" := by decide) (hd : (x0 == ("__debug__" : Str)) = false := by decide)
    (he : starEach (e :: l) X.env = (false, eval e X.env) :: starEach l X.env := by rfl) (hpl : (backTo pos (starEach l X.env)).any (·.1) = false := by rfl) :
    PE X (.Call (.Name x0 p) (e :: l) [] pos) (tD X.K es ms z ms1) :=
  pe_w (pe_callTy hc hg hm hv ha hn hd he hpl) fun σ H Q ⟨as, s, k⟩ => ⟨as, s, fun vs H1 m1 e1 r1 => hr as vs H1 Q m1 r1 fun w H2 m2 e2 r2 => k w H2 m2 (e1.trans e2) r2⟩
theorem d_int1 {i : Int} (hg : Gl X "int") (hm : X.mg "int" = none) (ha : PE X e (tD X.K es ms (.d (.int i)) ms1)) (he : starEach [e] X.env = (false, eval e X.env) :: starEach [] X.env := by rfl) :
    PE X (.Call (.Name "int" p) [e] [] pos) (tD X.K es ms (.d (.int i)) ms1) :=
  d_callTy call_int1 hg hm (by decide +kernel) (a_cons ha a_nil he) (fun as vs H Q m r k => by
    cases r with | cons r1 r2 => cases r2; cases r1; exact .inl ⟨i, rfl, k _ _ m (Same.refl _) (.int i)⟩) (he := he)
theorem d_abs {i : Int} (hg : Gl X "abs") (hm : X.mg "abs" = none) (ha : PE X e (tD X.K es ms (.d (.int i)) ms1)) (he : starEach [e] X.env = (false, eval e X.env) :: starEach [] X.env := by rfl) :
    PE X (.Call (.Name "abs" p) [e] [] pos) (tD X.K es ms (.d (.int (i.natAbs : Int))) ms1) :=
  d_callB call_abs hg hm (by decide +kernel) (a_cons ha a_nil he) (fun as vs H Q m r k => by
    cases r with | cons r1 r2 =>
      cases r2
      cases r1
      refine ⟨i, rfl, ?_⟩
      have : (if i < 0 then -i else i) = (i.natAbs : Int) := by omega
      rw [this]
      exact k _ _ m (Same.refl _) (.int _)) (he := he)
theorem d_gcd {i j : Int} {nm : Str} (hg : Gl X nm) (hm : X.mg nm = some (.builtin "math.gcd")) (ha : PE X a (tD X.K es ms (.d (.int i)) ms1)) (hb : PE X b (tD X.K es ms1 (.d (.int j)) ms2)) (hdb : (nm == ("__debug__" : Str)) = false := by decide)
    (he : starEach [a, b] X.env = (false, eval a X.env) :: starEach [b] X.env := by rfl) (he2 : starEach [b] X.env = (false, eval b X.env) :: starEach [] X.env := by rfl) (hpl : (backTo pos (starEach [b] X.env)).any (·.1) = false := by rfl) :
    PE X (.Call (.Name nm p) [a, b] [] pos) (tD X.K es ms (.d (.int ((Nat.gcd i.natAbs j.natAbs : Nat) : Int))) ms2) :=
  pe_w (pe_callBfun cr_gcd hg hm (a_cons ha (a_cons hb a_nil he2) he) hdb he hpl) fun σ H Q ⟨as, s, k⟩ => ⟨as, s, fun vs H1 m1 e1 r1 => by
    cases r1 with | cons r1 r2 => cases r2 with | cons r2 r3 => cases r3; cases r1; cases r2; exact ⟨i, j, rfl, k _ H1 m1 e1 (.int _)⟩⟩
theorem d_len {n : Nat} {d : Dt} (hg : Gl X "len") (hm : X.mg "len" = none) (ha : PE X e (tD X.K es ms (.d d) ms1)) (hn : ∃ ds, (d = .lst ds ∨ d = .tup ds) ∧ ds.length = n) (he : starEach [e] X.env = (false, eval e X.env) :: starEach [] X.env := by rfl) :
    PE X (.Call (.Name "len" p) [e] [] pos) (tD X.K es ms (.d (.int (n : Int))) ms1) :=
  d_callB call_len_seq hg hm PySem.boot_len (a_cons ha a_nil he) (fun as vs H Q m r k => by
    obtain ⟨ds, hd, hl⟩ := hn
    cases r with | cons r1 r2 =>
      cases r2
      rcases hd with rfl | rfl
      · cases r1 with | lst hs hx =>
          refine ⟨_, _, rfl, .inl (hid_sub.seq hs), ?_⟩
          rw [hx.len, hl]
          exact k _ _ m (Same.refl _) (.int _)
      · cases r1 with | tup hs hx =>
          refine ⟨_, _, rfl, .inr (sqT_same hid_sub hs), ?_⟩
          rw [hx.len, hl]
          exact k _ _ m (Same.refl _) (.int _)) (he := he)
theorem d_lenM {n : Nat} {i : Nat} {ds : List Dt} (hg : Gl X "len") (hm : X.mg "len" = none) (ha : PE X e (tD X.K es ms (.m i) ms1)) (hi : ms1[i]? = some (some ds)) (hn : ds.length = n) (he : starEach [e] X.env = (false, eval e X.env) :: starEach [] X.env := by rfl) :
    PE X (.Call (.Name "len" p) [e] [] pos) (tD X.K es ms (.d (.int (n : Int))) ms1) :=
  d_callB call_len_seq hg hm PySem.boot_len (a_cons ha a_nil he) (fun as vs H Q m r k => by
    cases r with | cons r1 r2 =>
      cases r2
      obtain ⟨q, h1, rfl⟩ := r1
      obtain ⟨ds', vs', k1, k2, k3⟩ := m.is i q h1
      rw [hi] at k1
      cases k1
      refine ⟨_, _, rfl, .inl (.inl (.inl k2)), ?_⟩
      rw [k3.len, hn]
      exact k _ _ m (Same.refl _) (.int _)) (he := he)
/-- the type's name of a datum (an own object: by its class, told apart) -/
def tyName : Dt → Option String
  | .non => some "NoneType" | .bl _ => some "bool" | .int _ => some "int" | .str _ => some "str" | .lst _ => some "list" | .tup _ => some "tuple" | .obj _ _ => none
theorem Rp.tyX {K : PySem.W.Frag} {H : Hp} {v : V} {d : Dt} {n : String} (h : Rp K H v d) (q : tyName d = some n) : TyX K H v (.type n) := by
  cases h with
  | non => cases q; exact .base .non
  | bl b => cases q; exact .base (.bl b)
  | int b => cases q; exact .base (.int b)
  | str b => cases q; exact .base (.str b)
  | lst hs hx =>
    cases q
    rcases hs with (hs | ⟨o, hs⟩) | ⟨o, its, k, h1, h2, _⟩
    · exact .base (.lst hs)
    · exact .base (.frz hs)
    · exact .kList h1 h2
  | tup hs hx =>
    cases q
    rcases hs with (hs | ⟨o, hs⟩) | ⟨o, its, k, h1, h2, _⟩
    · exact .base (.tup hs)
    · exact .fTuple hs
    · exact .kTuple h1 h2
  | obj ho hf => cases q
theorem tyX_sub {K : PySem.W.Frag} {H H' : Hp} {v : V} {t : Value} (e : Same H H') (h : TyX K H v t) : TyX K H' v t := by
  cases h with
  | base h =>
    cases h with
    | non => exact .base .non
    | bl b => exact .base (.bl b)
    | int b => exact .base (.int b)
    | str b => exact .base (.str b)
    | flt b => exact .base (.flt b)
    | lst h => exact .base (.lst (e _ _ h))
    | frz h => exact .base (.frz (e _ _ h))
    | tup h => exact .base (.tup (e _ _ h))
    | dK h => exact .base (.dK (e _ _ h))
    | dT h => exact .base (.dT (e _ _ h))
    | ins h a b c d f => exact .base (.ins (e _ _ h) a b c d f)
  | byt b => exact .byt b
  | set h => exact .set (e _ _ h)
  | kList h g => exact .kList h g
  | kTuple h g => exact .kTuple h g
  | kDict h g => exact .kDict h g
  | fTuple h => exact .fTuple (e _ _ h)
  | fDict h => exact .fDict (e _ _ h)
/-- isinstance(e, T), T a built-in class's name -/
theorem d_isi {d : Dt} {n T : String} {nm : Str} {q : Bool} {pT : Pos} (hg : Gl X "isinstance") (hm : X.mg "isinstance" = none) (hgT : Gl X nm) (hmT : X.mg nm = none) (hv : bootBuiltins nm = some (.type T)) (ha : PE X e (tD X.K es ms (.d d) ms1)) (hn : tyName d = some n) (hk : kitB n T = some q)
    (hnn : nm ≠ "__name__" := by decide) (hdn : (nm == ("__debug__" : Str)) = false := by decide)
    (he : starEach [e, .Name nm pT] X.env = (false, eval e X.env) :: starEach [.Name nm pT] X.env := by rfl) (hpl : (backTo pos (starEach [.Name nm pT] X.env)).any (·.1) = false := by rfl) (he2 : starEach [.Name nm pT] X.env = (false, eval (.Name nm pT) X.env) :: starEach [] X.env := by rfl) :
    PE X (.Call (.Name "isinstance" p) [e, .Name nm pT] [] pos) (tD X.K es ms (.d (.bl q)) ms1) :=
  pe_w (pe_callB call_isi hg hm (by decide +kernel) (pa_cons ha (pa_cons (pe_bltn (v := .ty T) hgT hmT hv rfl hnn hdn) pa_nil he2) he) (he := he) (hpl := hpl)) fun σ H Q ⟨as, s, k⟩ => ⟨as, s, fun v H1 m1 e1 r1 =>
    ⟨v, .ty T, .type n, .type T, q, rfl, .ty T, tyX_sub hid_sub (r1.tyX hn), kit_ty hk, k _ H1 m1 e1 (.bl q)⟩⟩
/-! ### items -/
theorem RpA.atI {K : PySem.W.Frag} {H : Hp} {vs : List V} {ds : List Dt} {i : Int} {d : Dt} (h : RpA K H vs ds) (q : L2.atI ds i = some d) : ∃ v, L2.atI vs i = some v ∧ Rp K H v d := by
  unfold L2.atI at q ⊢
  rw [h.len]
  cases e : ixN ds.length i with
  | none => rw [e] at q; cases q
  | some j =>
    rw [e] at q
    exact h.get q
theorem d_ixL {ds : List Dt} {i : Int} {d : Dt} (ha : PE X a (tD X.K es ms (.d (.lst ds)) ms1)) (hb : PE X b (tD X.K es ms1 (.d (.int i)) ms2)) (hi : L2.atI ds i = some d) (hp : PlainIx b := by exact fun _ _ => rfl) : PE X (.Subscript a b pos) (tD X.K es ms (.d d) ms2) :=
  pe_w (pe_ix ix_list ha hb hp) fun σ H Q ⟨as, s, k⟩ => ⟨as, s, fun v H1 m1 e1 r1 => ⟨as, s.step m1 e1, fun u H2 m2 e2 r2 => by
    cases r2
    cases r1.mono e2 with | lst hs hx =>
      obtain ⟨w, hw, hr⟩ := hx.atI hi
      exact ⟨_, _, _, w, rfl, rfl, hid_sub.seq hs, hw, k w H2 m2 (e1.trans e2) hr⟩⟩⟩
theorem d_ixT {ds : List Dt} {i : Int} {d : Dt} (ha : PE X a (tD X.K es ms (.d (.tup ds)) ms1)) (hb : PE X b (tD X.K es ms1 (.d (.int i)) ms2)) (hi : L2.atI ds i = some d) (hp : PlainIx b := by exact fun _ _ => rfl) : PE X (.Subscript a b pos) (tD X.K es ms (.d d) ms2) :=
  pe_w (pe_ix ix_tup ha hb hp) fun σ H Q ⟨as, s, k⟩ => ⟨as, s, fun v H1 m1 e1 r1 => ⟨as, s.step m1 e1, fun u H2 m2 e2 r2 => by
    cases r2
    cases r1.mono e2 with | tup hs hx =>
      obtain ⟨w, hw, hr⟩ := hx.atI hi
      exact ⟨_, _, _, w, rfl, rfl, sqT_same hid_sub hs, hw, k w H2 m2 (e1.trans e2) hr⟩⟩⟩
theorem d_ixM {ds : List Dt} {j : Nat} {i : Int} {d : Dt} (ha : PE X a (tD X.K es ms (.m j) ms1)) (hb : PE X b (tD X.K es ms1 (.d (.int i)) ms2)) (hj : ms2[j]? = some (some ds)) (hi : L2.atI ds i = some d) (hp : PlainIx b := by exact fun _ _ => rfl) : PE X (.Subscript a b pos) (tD X.K es ms (.d d) ms2) :=
  pe_w (pe_ix ix_list ha hb hp) fun σ H Q ⟨as, s, k⟩ => ⟨as, s, fun v H1 m1 e1 r1 => ⟨as, s.step m1 e1, fun u H2 m2 e2 r2 => by
    cases r2
    obtain ⟨q, h1, rfl⟩ := r1
    obtain ⟨ds', vs', k1, k2, k3⟩ := m2.is j q h1
    rw [hj] at k1
    cases k1
    obtain ⟨w, hw, hr⟩ := k3.atI hi
    exact ⟨_, _, _, w, rfl, rfl, .inl (.inl k2), hw, k w H2 m2 (e1.trans e2) hr⟩⟩⟩
inductive IxOk (ms : Ms) : Sv → Int → Dt → Prop
  | m {j : Nat} {ds : List Dt} {i : Int} {d : Dt} : ms[j]? = some (some ds) → L2.atI ds i = some d → IxOk ms (.m j) i d
  | lst {ds : List Dt} {i : Int} {d : Dt} : L2.atI ds i = some d → IxOk ms (.d (.lst ds)) i d
  | tup {ds : List Dt} {i : Int} {d : Dt} : L2.atI ds i = some d → IxOk ms (.d (.tup ds)) i d
theorem d_ix {i : Int} {d : Dt} (ha : PE X a (tD X.K es ms x ms1)) (hb : PE X b (tD X.K es ms1 (.d (.int i)) ms2)) (hx : IxOk ms2 x i d) (hp : PlainIx b := by exact fun _ _ => rfl) : PE X (.Subscript a b pos) (tD X.K es ms (.d d) ms2) := by
  cases hx with
  | m hj hi => exact d_ixM ha hb hj hi hp
  | lst hi => exact d_ixL ha hb hi hp
  | tup hi => exact d_ixT ha hb hi hp
inductive LenOk (ms : Ms) : Sv → Nat → Prop
  | m {j : Nat} {ds : List Dt} {n : Nat} : ms[j]? = some (some ds) → ds.length = n → LenOk ms (.m j) n
  | lst {ds : List Dt} {n : Nat} : ds.length = n → LenOk ms (.d (.lst ds)) n
  | tup {ds : List Dt} {n : Nat} : ds.length = n → LenOk ms (.d (.tup ds)) n
theorem d_lenA {n : Nat} (hg : Gl X "len") (hm : X.mg "len" = none) (ha : PE X e (tD X.K es ms x ms1)) (hx : LenOk ms1 x n) (he : starEach [e] X.env = (false, eval e X.env) :: starEach [] X.env := by rfl) :
    PE X (.Call (.Name "len" p) [e] [] pos) (tD X.K es ms (.d (.int (n : Int))) ms1) := by
  cases hx with
  | m hj hi => exact d_lenM hg hm ha hj hi he
  | lst hi => exact d_len hg hm ha ⟨_, .inl rfl, hi⟩ he
  | tup hi => exact d_len hg hm ha ⟨_, .inr rfl, hi⟩ he
/-! ### list(..), tuple(..) -/
theorem n_list {d : Dt} {ds : List Dt} (hg : Gl X "list") (hm : X.mg "list" = none) (ha : PE X e (tD X.K es ms (.d d) ms1)) (hd : d = .lst ds ∨ d = .tup ds) (he : starEach [e] X.env = (false, eval e X.env) :: starEach [] X.env := by rfl) :
    PE X (.Call (.Name "list" p) [e] [] pos) (tN X.K es ms ds ms1) :=
  pe_w (pe_callTy call_list_of hg hm (by decide +kernel) (pa_cons ha pa_nil he) (he := he)) fun σ H Q ⟨as, s, k⟩ => ⟨as, s, fun v H1 m1 e1 r1 => by
    have old : ∀ l, H1 l = none → H l = none := fun l hl => by
      cases q : H l with
      | none => rfl
      | some o =>
        by_cases c : some l ∈ as
        · exact absurd c (m1.fresh hl)
        · have := e1 l o (hid_to q c)
          rw [(hid_of this).1] at hl
          cases hl
    rcases hd with rfl | rfl
    · cases r1 with | lst hs hx => exact ⟨_, _, rfl, .inl (hid_sub.seq hs), fun l hl => k l _ (old l hl) (m1.more hl hx).1 (e1.trans (m1.more hl hx).2)⟩
    · cases r1 with | tup hs hx => exact ⟨_, _, rfl, .inr (sqT_same hid_sub hs), fun l hl => k l _ (old l hl) (m1.more hl hx).1 (e1.trans (m1.more hl hx).2)⟩⟩
theorem d_tupleOf {d : Dt} {ds : List Dt} (hg : Gl X "tuple") (hm : X.mg "tuple" = none) (ha : PE X e (tD X.K es ms (.d d) ms1)) (hd : d = .lst ds ∨ d = .tup ds) (he : starEach [e] X.env = (false, eval e X.env) :: starEach [] X.env := by rfl) :
    PE X (.Call (.Name "tuple" p) [e] [] pos) (tD X.K es ms (.d (.tup ds)) ms1) :=
  d_callTy call_tuple_of hg hm (by decide +kernel) (a_cons ha a_nil he) (fun as vs H Q m r k => by
    cases r with | cons r1 r2 =>
      cases r2
      rcases hd with rfl | rfl
      · cases r1 with | lst hs hx => exact ⟨_, _, rfl, .inl ⟨hid_sub.seq hs, fun l hl => k _ _ (m.new hl).1 (m.new hl).2 (.tup (.inl (.inl (m.at_new hl))) (hx.mono (m.new hl).2))⟩⟩
      · cases r1 with | tup hs hx => exact ⟨_, _, rfl, .inr ⟨sqT_same hid_sub hs, k _ _ m (Same.refl _) (.tup hs hx)⟩⟩) (he := he)
end
/-! ### statements -/
inductive Out where
  | nx (es : Es) (ms : Ms) | rt (d : Dt) (ms : Ms) | rn (ds : List Dt) (ms : Ms) | bk (es : Es) (ms : Ms) | ct (es : Es) (ms : Ms) | rs (x : Xc) (es : Es) (ms : Ms)
structure Stp (n : Nat) (as : As) (H : Hp) (as' : As) (H' : Hp) : Prop where
  same : Same (hid as H) (hid as' H')
  pre : ∀ k : Nat, k < n → as'[k]? = as[k]?
  len : n ≤ as'.length
  news : ∀ a : Addr, some a ∈ as' → some a ∈ as ∨ H a = none
theorem Stp.refl {n : Nat} {as : As} {H : Hp} (h : n ≤ as.length) : Stp n as H as H := ⟨Same.refl _, fun _ _ => rfl, h, fun _ h => .inl h⟩
theorem Stp.trans {n : Nat} {as as1 as2 : As} {H H1 H2 : Hp} (h : Stp n as H as1 H1) (g : Stp n as1 H1 as2 H2) : Stp n as H as2 H2 := by
  refine ⟨h.same.trans g.same, fun k hk => (g.pre k hk).trans (h.pre k hk), g.len, fun a ha => ?_⟩
  rcases g.news a ha with z | z
  · exact h.news a z
  · by_cases c : some a ∈ as
    · exact .inl c
    · refine .inr ?_
      cases q : H a with
      | none => rfl
      | some o =>
        have := h.same a o (hid_to q c)
        rw [(hid_of this).1] at z
        cases z
theorem Stp.of {n : Nat} {as : As} {H H' : Hp} (h : n ≤ as.length) (e : Same (hid as H) (hid as H')) : Stp n as H as H' := ⟨e, fun _ _ => rfl, h, fun _ h => .inl h⟩
/-- what a way out asks of what follows -/
def Goes (K : PySem.W.Frag) (W : WX) (D : Ends) (as' : As) (H' : Hp) : Out → Prop
  | .nx es ms => ∀ σ, Sr K as' es ms σ H' → D.nx σ H'
  | .rt d ms => ∀ v, MsR K as' ms H' → Rp K (hid as' H') v d → D.rt v H'
  | .rn ds ms => ∀ as1 p, as' = as1 ++ [some p] → MsR K as' (ms ++ [some ds]) H' → D.rt (.ref p) H'
  | .bk es ms => ∀ σ, Sr K as' es ms σ H' → D.bk σ H'
  | .ct es ms => ∀ σ, Sr K as' es ms σ H' → D.ct σ H'
  | .rs x es ms => ∀ σ cls d, Sr K as' es ms σ H' → XcR K (hid as' H') cls d x → W cls d σ H'
def tS (K : PySem.W.Frag) (n : Nat) (W : WX) (es : Es) (ms : Ms) (P : Out → Prop) : TS := fun D σ H => ∃ as, Sr K as es ms σ H ∧ n ≤ as.length ∧ ∀ o, P o → ∀ as' H', Stp n as H as' H' → Goes K W D as' H' o
section
variable {X : Cx} {n : Nat} {W : WX} {es es1 es2 : Es} {ms ms1 ms2 : Ms} {P P' : Out → Prop} {st : Stmt} {rest body : List Stmt} {e : Expr} {pos : Pos} {sv : Sv} {N : List Str}
/-- behind a block: the rest -/
def Then (X : Cx) (n : Nat) (W : WX) (rest : List Stmt) (P : Out → Prop) : Out → Prop
  | .nx es ms => PSs X rest (tS X.K n W es ms P)
  | o => P o
theorem s_imp (h : ∀ o, P' o → P o) (q : PSs X body (tS X.K n W es ms P')) : PSs X body (tS X.K n W es ms P) := pss_w q fun D σ H ⟨as, s, l, k⟩ => ⟨as, s, l, fun o po => k o (h o po)⟩
theorem s_nil (h : P (.nx es ms)) : PSs X [] (tS X.K n W es ms P) := pss_w pss_nil fun D σ H ⟨as, s, l, k⟩ => k _ h as H (Stp.refl l) σ s
/-- a fact in front -/
theorem Goes.nx {K : PySem.W.Frag} {D D' : Ends} {as : As} {H : Hp} {o : Out} (h : Goes K W D as H o) (hn : ∀ σ H', D.nx σ H' → D'.nx σ H') (hr : D'.rt = D.rt) (hb : D'.bk = D.bk) (hc : D'.ct = D.ct) : Goes K W D' as H o := by
  cases o with
  | nx es ms => exact fun σ s => hn _ _ (h σ s)
  | rt d ms => exact fun v m r => by rw [hr]; exact h v m r
  | rn ds ms => exact fun as1 p e m => by rw [hr]; exact h as1 p e m
  | bk es ms => exact fun σ s => by rw [hb]; exact h σ s
  | ct es ms => exact fun σ s => by rw [hc]; exact h σ s
  | rs x es ms => exact h
/-- a statement, told by where it goes -/
theorem s_cons {t : TS} (h : PS X st t) (w : ∀ D σ H as, Sr X.K as es ms σ H → n ≤ as.length → (∀ o, P' o → ∀ as' H', Stp n as H as' H' → Goes X.K W D as' H' o) → t D σ H) (hp : ∀ o, P' o → Then X n W rest P o) : PSs X (st :: rest) (tS X.K n W es ms P) := by
  refine ⟨fun pins s σ H D I ⟨as, s0, l, k⟩ => ?_⟩
  let Mid : St → Hp → Prop := fun σ' H' => ∃ es' ms', PSs X rest (tS X.K n W es' ms' P) ∧ tS X.K n W es' ms' P D σ' H'
  refine wpAny_execs_cons (thn (h.run pins s σ H { D with nx := Mid } I (w _ σ H as s0 l fun o po as' H' st => ?_)) fun f s1 q => ?_)
  · have hk := hp o po
    cases o with
    | nx es' ms' => exact fun σ' s' => ⟨es', ms', hk, as', s', st.len, fun o2 p2 as2 H2 st2 => k o2 p2 as2 H2 (st.trans st2)⟩
    | rt d ms' => exact k _ hk as' H' st
    | rn d ms' => exact k _ hk as' H' st
    | bk es' ms' => exact k _ hk as' H' st
    | ct es' ms' => exact k _ hk as' H' st
    | rs x es' ms' => exact k _ hk as' H' st
  · cases f with
    | next =>
      obtain ⟨σ', H', I', es', ms', hr, q⟩ := q
      exact hr.run pins s1 σ' H' D I' q
    | ret v => exact q
    | brk => exact q
    | cont => exact q
theorem Sr.put {K : PySem.W.Frag} {as : As} {σ : St} {H : Hp} {v : V} {i : Nat} (s : Sr K as es ms σ H) (r : ValR K as H v sv) (h : es1 = es.set i (some sv)) : Sr K as es1 ms (σ.set i (some v)) H := h ▸ s.set i r
/-- x = e -/
theorem s_asg {nm : Str} {p' : Pos} (hN : X.N = N) (nd : N.Nodup) (he : PE X e (tD X.K es ms sv ms1)) (hput : Put N es nm sv es1) (k : PSs X rest (tS X.K n W es1 ms1 P)) (hl : Loc X.env.scope nm := by first | exact Or.inl rfl | exact Or.inr rfl)
    (hs : swapsWith e (some (.Name nm p')) pos.line X.env = pure false := by rfl) (hf : X.fn nm = true ∨ X.env.scope.names.lookup nm = some .local := by first | exact .inl rfl | exact .inr rfl) : PSs X (.Assign [.Name nm p'] e pos :: rest) (tS X.K n W es ms P) := by
  obtain ⟨i, h1, h2⟩ := hput.ix
  refine s_cons (P' := fun o => o = .nx es1 ms1) (ps_set (i := i) (hN ▸ nd) (by rw [hN]; exact h1) hl he hs hf) (fun D σ H as s l kk => ?_) (fun o ho => by subst ho; exact k)
  exact ⟨as, s, fun v H1 m1 e1 r1 => kk _ rfl as H1 (Stp.of l e1) _ ((s.step m1 e1).put r1 h2)⟩
/-- x = a new list, which is to be changed -/
theorem s_asgN {nm : Str} {p' : Pos} {ds : List Dt} (hN : X.N = N) (nd : N.Nodup) (he : PE X e (tN X.K es ms ds ms1)) (hput : Put N es nm (.m ms1.length) es1) (k : PSs X rest (tS X.K n W es1 (ms1 ++ [some ds]) P)) (hl : Loc X.env.scope nm := by first | exact Or.inl rfl | exact Or.inr rfl)
    (hs : swapsWith e (some (.Name nm p')) pos.line X.env = pure false := by rfl) (hf : X.fn nm = true ∨ X.env.scope.names.lookup nm = some .local := by first | exact .inl rfl | exact .inr rfl) : PSs X (.Assign [.Name nm p'] e pos :: rest) (tS X.K n W es ms P) := by
  obtain ⟨i, h1, h2⟩ := hput.ix
  refine s_cons (P' := fun o => o = .nx es1 (ms1 ++ [some ds])) (ps_set (i := i) (hN ▸ nd) (by rw [hN]; exact h1) hl he hs hf) (fun D σ H as s l kk => ?_) (fun o ho => by subst ho; exact k)
  refine ⟨as, s, fun p H1 hp m1 e1 => kk _ rfl (as ++ [some p]) H1 ⟨e1, fun k hk => List.getElem?_append_left (by omega), by simp; omega, fun a ha => ?_⟩ _ ?_⟩
  · rcases List.mem_append.mp ha with z | z
    · exact .inl z
    · rw [Option.some.inj (List.mem_singleton.mp z)]
      exact .inr hp
  · have hlen : ms1.length = as.length := by have := m1.len; simp at this; exact this
    have s1 : Sr X.K (as ++ [some p]) es (ms1 ++ [some ds]) σ H1 := ⟨s.len, fun i sv h => by
      obtain ⟨v, q1, q2⟩ := s.env i sv h
      refine ⟨v, q1, ?_⟩
      cases sv with
      | d x => exact Rp.mono e1 q2
      | m j =>
        obtain ⟨a, g1, g2⟩ := q2
        exact ⟨a, by rw [List.getElem?_append_left (List.getElem?_eq_some_iff.mp g1).1]; exact g1, g2⟩
      | x a c dd y => exact ⟨q2.1, q2.2.mono e1⟩, m1⟩
    exact s1.put (sv := .m ms1.length) (show ∃ a, (as ++ [some p])[ms1.length]? = some (some a) ∧ V.ref p = V.ref a from ⟨p, by rw [hlen]; simp, rfl⟩) h2
/-- return e -/
theorem s_ret {d : Dt} (he : PE X e (tD X.K es ms (.d d) ms1)) (k : P (.rt d ms1)) : PSs X (.Return (some e) pos :: rest) (tS X.K n W es ms P) :=
  s_cons (P' := fun o => o = .rt d ms1) (ps_ret he) (fun D σ H as s l kk => ⟨as, s, fun v H1 m1 e1 r1 => kk _ rfl as H1 (Stp.of l e1) v m1 r1⟩) (fun o ho => by subst ho; exact k)
theorem Stp.more {as : As} {H H1 : Hp} {p : Addr} (l : n ≤ as.length) (hp : H p = none) (e1 : Same (hid as H) (hid (as ++ [some p]) H1)) : Stp n as H (as ++ [some p]) H1 :=
  ⟨e1, fun k hk => List.getElem?_append_left (by omega), by simp; omega, fun a ha => by
    rcases List.mem_append.mp ha with z | z
    · exact .inl z
    · rw [Option.some.inj (List.mem_singleton.mp z)]
      exact .inr hp⟩
/-- return of a new list -/
theorem s_retL {ds : List Dt} (he : PE X e (tN X.K es ms ds ms1)) (k : P (.rn ds ms1)) : PSs X (.Return (some e) pos :: rest) (tS X.K n W es ms P) :=
  s_cons (P' := fun o => o = .rn ds ms1) (ps_ret he) (fun D σ H as s l kk => ⟨as, s, fun p H1 hp m1 e1 => kk _ rfl (as ++ [some p]) H1 (Stp.more l hp e1) as p rfl m1⟩) (fun o ho => by subst ho; exact k)
theorem s_retN (k : P (.rt .non ms)) : PSs X (.Return none pos :: rest) (tS X.K n W es ms P) :=
  s_cons (P' := fun o => o = .rt .non ms) ps_retN (fun D σ H as s l kk => kk _ rfl as H (Stp.refl l) .non s.mem .non) (fun o ho => by subst ho; exact k)
/-- an expression alone -/
theorem s_expr (he : PE X e (tD X.K es ms sv ms1)) (k : PSs X rest (tS X.K n W es ms1 P)) (hs : swapsWith e none pos.line X.env = pure false := by rfl) : PSs X (.Expr e pos :: rest) (tS X.K n W es ms P) :=
  s_cons (P' := fun o => o = .nx es ms1) (ps_expr he hs) (fun D σ H as s l kk => ⟨as, s, fun v H1 m1 e1 r1 => kk _ rfl as H1 (Stp.of l e1) _ (s.step m1 e1)⟩) (fun o ho => by subst ho; exact k)
theorem pss_never {l : List Stmt} : PSs X l (fun _ _ _ => False) := ⟨fun _ _ _ _ _ _ h => h.elim⟩
/-- if -/
theorem s_if {c : Expr} {u v : List Stmt} {b : Bool} (hc : PT X c (tBo X.K es ms b ms1)) (h1 : b = true → PSs X u (tS X.K n W es ms1 (Then X n W rest P))) (h2 : b = false → PSs X v (tS X.K n W es ms1 (Then X n W rest P))) : PSs X (.If c u v pos :: rest) (tS X.K n W es ms P) := by
  cases b with
  | true => exact s_cons (P' := Then X n W rest P) (ps_if hc (h1 rfl) pss_never) (fun D σ H as s l kk => ⟨as, s, fun H1 m1 e1 => iteT ⟨as, s.step m1 e1, l, fun o po as' H' st => kk o po as' H' ((Stp.of l e1).trans st)⟩⟩) (fun o h => h)
  | false => exact s_cons (P' := Then X n W rest P) (ps_if hc pss_never (h2 rfl)) (fun D σ H as s l kk => ⟨as, s, fun H1 m1 e1 => iteF ⟨as, s.step m1 e1, l, fun o po as' H' st => kk o po as' H' ((Stp.of l e1).trans st)⟩⟩) (fun o h => h)
theorem s_brk (k : P (.bk es ms)) : PSs X (.Break pos :: rest) (tS X.K n W es ms P) :=
  s_cons (P' := fun o => o = .bk es ms) ps_break (fun D σ H as s l kk => kk _ rfl as H (Stp.refl l) σ s) (fun o ho => by subst ho; exact k)
theorem s_cont (k : P (.ct es ms)) : PSs X (.Continue pos :: rest) (tS X.K n W es ms P) :=
  s_cons (P' := fun o => o = .ct es ms) ps_continue (fun D σ H as s l kk => kk _ rfl as H (Stp.refl l) σ s) (fun o ho => by subst ho; exact k)
theorem s_pass (k : PSs X rest (tS X.K n W es ms P)) : PSs X (.Pass pos :: rest) (tS X.K n W es ms P) :=
  s_cons (P' := fun o => o = .nx es ms) ps_pass (fun D σ H as s l kk => kk _ rfl as H (Stp.refl l) σ s) (fun o ho => by subst ho; exact k)
end
end Dv
/-! # Dv2: what a def promises; its body; calls; loops; comprehensions; stores into lists -/
namespace Dv
open PySem PySem.Spec L2
/-! ### promises -/
inductive Ro where
  | ret (d : Dt) (ms : Ms) | exc (x : Xc) (ms : Ms) | nw (ds : List Dt) (ms : Ms)
abbrev Pre := List Sv → Ms → (Ro → Prop) → Prop
def Pr (K : PySem.W.Frag) (S : Pre) : Sp := fun vs H Q E => ∃ as ss ms R, MsR K as ms H ∧ ArR K as H vs ss ∧ S ss ms R ∧
  (∀ d ms' v H', R (.ret d ms') → MsR K as ms' H' → Same (hid as H) (hid as H') → Rp K (hid as H') v d → Q v H') ∧
  (∀ x ms' cls dd H', R (.exc x ms') → MsR K as ms' H' → Same (hid as H) (hid as H') → XcR K (hid as H') cls dd x → E cls dd H') ∧
  (∀ ds ms' p H', R (.nw ds ms') → H p = none → MsR K (as ++ [some p]) (ms' ++ [some ds]) H' → Same (hid as H) (hid (as ++ [some p]) H') → Q (.ref p) H')
def start0 (N : List Str) (ss : List Sv) : Es := ss.map some ++ List.replicate (N.length - ss.length) none
def PR (n : Nat) (R : Ro → Prop) : Out → Prop
  | .rt d ms => R (.ret d (ms.take n))
  | .rn ds ms => n ≤ ms.length ∧ R (.nw ds (ms.take n))
  | .nx _ ms => R (.ret .non (ms.take n))
  | .rs x _ ms => R (.exc x (ms.take n))
  | _ => False
theorem MsR.cut {K : PySem.W.Frag} {as as' : As} {ms : Ms} {H : Hp} (m : MsR K as' ms H) (hp : ∀ k : Nat, k < as.length → as'[k]? = as[k]?) (hl : as.length ≤ as'.length) : MsR K as (ms.take as.length) H := by
  have sub : ∀ a : Addr, some a ∈ as → some a ∈ as' := fun a h => by
    obtain ⟨i, hi⟩ := List.getElem?_of_mem h
    exact List.mem_of_getElem? ((hp i (List.getElem?_eq_some_iff.mp hi).1).trans hi)
  have up : ∀ {i : Nat} {a : Addr}, as[i]? = some (some a) → i < as.length ∧ as'[i]? = some (some a) := fun {i a} h => by
    have c := (List.getElem?_eq_some_iff.mp h).1
    exact ⟨c, (hp i c).trans h⟩
  refine ⟨by rw [List.length_take, m.len]; omega, fun i j a hi hj => m.uniq i j a (up hi).2 (up hj).2, fun i a hi => ?_⟩
  obtain ⟨ds, vs, h1, h2, h3⟩ := m.is i a (up hi).2
  exact ⟨ds, vs, by rw [List.getElem?_take_of_lt (up hi).1]; exact h1, h2, h3.mono (hid_less sub)⟩
section
variable {P : Program} {w : World} {K : PySem.W.Frag} {mg : Str → Option Value} {base : Heap}
theorem start_sr {as : As} {H : Hp} {vs : List V} {ss : List Sv} {ms : Ms} {N : List Str} (r : ArR K as H vs ss) (m : MsR K as ms H) : Sr K as (start0 N ss) ms (L2.start N vs) H := by
  have get : ∀ {vs : List V} {ss : List Sv} {i : Nat} {sv : Sv}, ArR K as H vs ss → ss[i]? = some sv → ∃ v, vs[i]? = some v ∧ ValR K as H v sv := by
    intro vs
    induction vs with
    | nil => intro ss i sv r h; cases r; simp at h
    | cons v vs ih =>
      intro ss i sv r h
      cases r with | cons r1 r2 =>
        cases i with
        | zero => simp at h; subst h; exact ⟨v, rfl, r1⟩
        | succ i =>
          obtain ⟨u, h1, h2⟩ := ih r2 (by simpa using h)
          exact ⟨u, by simpa using h1, h2⟩
  refine ⟨by unfold start0 L2.start; simp [r.len], fun i sv h => ?_, m⟩
  unfold start0 at h
  by_cases c : i < ss.length
  · rw [List.getElem?_append_left (by simpa using c), List.getElem?_map] at h
    cases q : ss[i]? with
    | none => rw [q] at h; cases h
    | some sw =>
      rw [q] at h
      cases h
      obtain ⟨v, h1, h2⟩ := get r q
      refine ⟨v, ?_, h2⟩
      unfold L2.start
      rw [List.getElem?_append_left (by rw [List.length_map, r.len]; exact c), List.getElem?_map, h1]
      rfl
  · rw [List.getElem?_append_right (by simpa using Nat.le_of_not_lt c)] at h
    have := List.mem_of_getElem? h
    rw [List.mem_replicate] at this
    cases this.2
theorem body_ok {x qual : Str} {st : Stmt} {f : Addr} {fd : FuncData} {N ps : List Str} {k : Nat} {S : Pre} (F : Fun K x qual st f fd) (Sc : FnScope N ps (defScope st)) (hl : ∀ ss ms R, S ss ms R → ss.length = ps.length)
    (hb : ∀ (cdv : Value) (A : Around) (outer : List Env) (s : Shared) (H : Hp) (E : XK) (X : Cx), X = cxOf (L2.CX P w) P w K mg base N qual (defScope st) f cdv A outer s H E → Room k X.A → Takes X (fun cls d _ H => E cls d H) → PassesOwn (model X.prog X.w) X.A X.env X.xe → ∀ ss ms R, S ss ms R →
      PSs X (defBody st) (tS K ms.length (fun cls d _ H => E cls d H) (start0 N ss) ms (PR ms.length R))) : FnOk P w K mg base (L2.CX P w) (k + 1) f fd ps (Pr K S) := by
  refine F.okX Sc (fun vs H Q E ⟨as, ss, ms, R, m, r, h, _⟩ => ?_) (fun cdv A outer s H vs Q E hr ⟨as, ss, ms, R, m, r, h, q1, q2, q3⟩ => ?_)
  · rw [r.len]
    exact hl ss ms R h
  · refine ⟨_, hb cdv A outer s H E _ rfl hr (takes_of rfl rfl rfl rfl) (passes_of rfl) ss ms R h, as, start_sr r m, Nat.le_of_eq m.len, fun o po as' H' st => ?_⟩
    have hlen : ms.length = as.length := m.len
    have sub : ∀ a : Addr, some a ∈ as → some a ∈ as' := fun a ha => by
      obtain ⟨i, hi⟩ := List.getElem?_of_mem ha
      exact List.mem_of_getElem? ((st.pre i (by rw [hlen]; exact (List.getElem?_eq_some_iff.mp hi).1)).trans hi)
    have e2 : Same (hid as' H') (hid as H') := hid_less sub
    have cut : ∀ {ms'}, MsR K as' ms' H' → MsR K as (ms'.take ms.length) H' := fun {ms'} m' => by
      rw [hlen]
      exact m'.cut (fun k hk => st.pre k (by rw [hlen]; exact hk)) (by rw [← hlen]; exact st.len)
    cases o with
    | nx es' ms' => exact fun σ s' => q1 _ _ _ _ po (cut s'.mem) (st.same.trans e2) .non
    | rt d ms' => exact fun v m' r' => q1 _ _ _ _ po (cut m') (st.same.trans e2) (r'.mono e2)
    | rn d ms' =>
      intro as1 p he m'
      obtain ⟨pl, po⟩ := po
      have hl1 : ms'.length = as1.length := by
        have := m'.len
        rw [he] at this
        simp at this
        exact this
      have hle : as.length ≤ as1.length := by omega
      have hpin : as'[as1.length]? = some (some p) := by rw [he]; simp
      have hnot : some p ∉ as := fun z => by
        obtain ⟨i, hi⟩ := List.getElem?_of_mem z
        have c := (List.getElem?_eq_some_iff.mp hi).1
        have := m'.uniq i as1.length p ((st.pre i (by omega)).trans hi) hpin
        omega
      have hp : H p = none := by
        rcases st.news p (List.mem_of_getElem? hpin) with z | z
        · exact absurd z hnot
        · exact z
      have sub2 : ∀ a : Addr, some a ∈ as ++ [some p] → some a ∈ as' := fun a ha => by
        rcases List.mem_append.mp ha with z | z
        · exact sub a z
        · rw [List.mem_singleton.mp z]
          exact List.mem_of_getElem? hpin
      have e3 : Same (hid as' H') (hid (as ++ [some p]) H') := hid_less sub2
      have up : ∀ {i : Nat} {a : Addr}, (as ++ [some p])[i]? = some (some a) → (i < as.length ∧ as'[i]? = some (some a)) ∨ (i = as.length ∧ a = p) := fun {i a} h => by
        by_cases c : i < as.length
        · rw [List.getElem?_append_left c] at h
          exact .inl ⟨c, (st.pre i (by omega)).trans h⟩
        · have c3 := (List.getElem?_eq_some_iff.mp h).1
          simp at c3
          have c4 : i = as.length := by omega
          subst c4
          simp at h
          exact .inr ⟨rfl, h.symm⟩
      refine q3 _ _ _ _ po hp ⟨?_, fun i j a hi hj => ?_, fun i a hi => ?_⟩ (st.same.trans e3)
      · simp
        omega
      · rcases up hi with ⟨c1, h1⟩ | ⟨c1, h1⟩
        · rcases up hj with ⟨c2, h2⟩ | ⟨c2, h2⟩
          · exact m'.uniq i j a h1 h2
          · subst h2
            have := m'.uniq i as1.length _ h1 hpin
            omega
        · rcases up hj with ⟨c2, h2⟩ | ⟨c2, h2⟩
          · subst h1
            have := m'.uniq j as1.length _ h2 hpin
            omega
          · omega
      · rcases up hi with ⟨c1, h1⟩ | ⟨c1, h1⟩
        · obtain ⟨ds', vs', k1, k2, k3⟩ := m'.is i a h1
          rw [List.getElem?_append_left (by omega)] at k1
          exact ⟨ds', vs', by rw [List.getElem?_append_left (by simp; omega), List.getElem?_take_of_lt (by omega)]; exact k1, k2, k3.mono e3⟩
        · subst h1
          obtain ⟨ds', vs', k1, k2, k3⟩ := m'.is as1.length a hpin
          rw [← hl1] at k1
          simp at k1
          subst k1
          refine ⟨_, vs', ?_, k2, k3.mono e3⟩
          have e9 : (ms'.take ms.length).length = as.length := by simp; omega
          rw [c1, ← e9, List.getElem?_append_right (Nat.le_refl _)]
          simp
    | bk es' ms' => exact po.elim
    | ct es' ms' => exact po.elim
    | rs x es' ms' => exact fun σ cls d s' r' => q2 _ _ _ _ _ po (cut s'.mem) (st.same.trans e2) (r'.mono e2)
end
/-! ### calls -/
def tX (K : PySem.W.Frag) (W : WX) (es : Es) (ms : Ms) (x : Xc) (ms' : Ms) : TE := fun σ H _ => ∃ as, Sr K as es ms σ H ∧
  ∀ cls d H', MsR K as ms' H' → Same (hid as H) (hid as H') → XcR K (hid as H') cls d x → W cls d σ H'
section
variable {X : Cx} {n k : Nat} {W : WX} {es es1 es2 : Es} {ms ms1 ms2 ms3 : Ms} {P P' : Out → Prop} {st : Stmt} {rest body l : List Stmt} {e a b c : Expr} {p pos : Pos} {sv : Sv} {N : List Str} {x0 : Str} {x : Xc}
theorem Sr.args {K : PySem.W.Frag} {as : As} {σ : St} {H : Hp} (s : Sr K as es ms σ H) : MsR K as ms H := s.mem
theorem d_call {f : Addr} {fd : FuncData} {ps : List Str} {S : Pre} {ss : List Sv} {d : Dt} {es0 : List Expr} (G : FnOk X.prog X.w X.K X.mg X.base (L2.CX X.prog X.w) k f fd ps (Pr X.K S)) (hr : Room k X.A) (hg : Gl X x0) (hm : X.mg x0 = some (.ref f)) (hk : PySem.W.keepIn X.K (.ref f) = true) (hb : Binds X.K fd ps [])
    (ha : PA X (e :: es0) (tAr X.K es ms ss ms1)) (hS : S ss ms1 (fun o => o = .ret d ms2)) (hdb : (x0 == ("__debug__" : Str)) = false := by decide) (he : starEach (e :: es0) X.env = (false, eval e X.env) :: starEach es0 X.env := by rfl) (hpl : (backTo pos (starEach es0 X.env)).any (·.1) = false := by rfl) :
    PE X (.Call (.Name x0 p) (e :: es0) [] pos) (tD X.K es ms (.d d) ms2) :=
  pe_w (pe_callS G hr hg hm hk hb (fun σ => passAt takes0 σ) ha hdb he hpl) fun σ H Q ⟨as, s, kk⟩ => ⟨as, s, fun vs H1 m1 e1 r1 => ⟨as, ss, ms1, _, m1, r1, hS, fun d' ms' v H' q m' e' r' => by
    cases q
    exact kk v H' m' (e1.trans e') r', fun x ms' cls dd H' q => (nomatch q), fun ds ms' p H' q => (nomatch q)⟩⟩
theorem n_call {f : Addr} {fd : FuncData} {ps : List Str} {S : Pre} {ss : List Sv} {ds : List Dt} {es0 : List Expr} (G : FnOk X.prog X.w X.K X.mg X.base (L2.CX X.prog X.w) k f fd ps (Pr X.K S)) (hr : Room k X.A) (hg : Gl X x0) (hm : X.mg x0 = some (.ref f)) (hk : PySem.W.keepIn X.K (.ref f) = true) (hb : Binds X.K fd ps [])
    (ha : PA X (e :: es0) (tAr X.K es ms ss ms1)) (hS : S ss ms1 (fun o => o = .nw ds ms2)) (hdb : (x0 == ("__debug__" : Str)) = false := by decide) (he : starEach (e :: es0) X.env = (false, eval e X.env) :: starEach es0 X.env := by rfl) (hpl : (backTo pos (starEach es0 X.env)).any (·.1) = false := by rfl) :
    PE X (.Call (.Name x0 p) (e :: es0) [] pos) (tN X.K es ms ds ms2) :=
  pe_w (pe_callS G hr hg hm hk hb (fun σ => passAt takes0 σ) ha hdb he hpl) fun σ H Q ⟨as, s, kk⟩ => ⟨as, s, fun vs H1 m1 e1 r1 => ⟨as, ss, ms1, _, m1, r1, hS, fun d' ms' v H' q => (nomatch q), fun x ms' cls dd H' q => (nomatch q), fun ds' ms' p H' q hp m' e' => by
    cases q
    refine kk p H' ?_ m' (e1.trans e')
    cases c : H p with
    | none => rfl
    | some o =>
      by_cases c2 : some p ∈ as
      · exact absurd c2 (m1.fresh hp)
      · have := e1 p o (hid_to c c2)
        rw [(hid_of this).1] at hp
        cases hp⟩⟩
theorem d_callX {f : Addr} {fd : FuncData} {ps : List Str} {S : Pre} {ss : List Sv} {es0 : List Expr} (tk : Takes X W) (G : FnOk X.prog X.w X.K X.mg X.base (L2.CX X.prog X.w) k f fd ps (Pr X.K S)) (hr : Room k X.A) (hg : Gl X x0) (hm : X.mg x0 = some (.ref f)) (hk : PySem.W.keepIn X.K (.ref f) = true) (hb : Binds X.K fd ps [])
    (ha : PA X (e :: es0) (tAr X.K es ms ss ms1)) (hS : S ss ms1 (fun o => o = .exc x ms2)) (hdb : (x0 == ("__debug__" : Str)) = false := by decide) (he : starEach (e :: es0) X.env = (false, eval e X.env) :: starEach es0 X.env := by rfl) (hpl : (backTo pos (starEach es0 X.env)).any (·.1) = false := by rfl) :
    PE X (.Call (.Name x0 p) (e :: es0) [] pos) (tX X.K W es ms x ms2) :=
  pe_w (pe_callS G hr hg hm hk hb (fun σ => passAt tk σ) ha hdb he hpl) fun σ H Q ⟨as, s, kk⟩ => ⟨as, s, fun vs H1 m1 e1 r1 => ⟨as, ss, ms1, _, m1, r1, hS, fun d' ms' v H' q => (nomatch q), fun x' ms' cls dd H' q m' e' r' => by
    cases q
    exact kk cls dd H' m' (e1.trans e') r', fun ds ms' p H' q => (nomatch q)⟩⟩
theorem s_asgX {nm : Str} {p' : Pos} (hN : X.N = N) (nd : N.Nodup) (he : PE X e (tX X.K W es ms x ms1)) (hin : nm ∈ N) (kk : P (.rs x es ms1)) (hl : Loc X.env.scope nm := by first | exact Or.inl rfl | exact Or.inr rfl)
    (hs : swapsWith e (some (.Name nm p')) pos.line X.env = pure false := by rfl) (hf : X.fn nm = true ∨ X.env.scope.names.lookup nm = some .local := by first | exact .inl rfl | exact .inr rfl) : PSs X (.Assign [.Name nm p'] e pos :: rest) (tS X.K n W es ms P) := by
  obtain ⟨i, hi⟩ := List.getElem?_of_mem hin
  exact s_cons (P' := fun o => o = .rs x es ms1) (ps_set (i := i) (hN ▸ nd) (by rw [hN]; exact hi) hl he hs hf) (fun D σ H as s l kk => ⟨as, s, fun cls d H1 m1 e1 r1 => kk _ rfl as H1 (Stp.of l e1) σ cls d (s.step m1 e1) r1⟩) (fun o ho => by subst ho; exact kk)
theorem s_retX (he : PE X e (tX X.K W es ms x ms1)) (kk : P (.rs x es ms1)) : PSs X (.Return (some e) pos :: rest) (tS X.K n W es ms P) :=
  s_cons (P' := fun o => o = .rs x es ms1) (ps_ret he) (fun D σ H as s l kk => ⟨as, s, fun cls d H1 m1 e1 r1 => kk _ rfl as H1 (Stp.of l e1) σ cls d (s.step m1 e1) r1⟩) (fun o ho => by subst ho; exact kk)
theorem s_exprX (he : PE X e (tX X.K W es ms x ms1)) (kk : P (.rs x es ms1)) (hs : swapsWith e none pos.line X.env = pure false := by rfl) : PSs X (.Expr e pos :: rest) (tS X.K n W es ms P) :=
  s_cons (P' := fun o => o = .rs x es ms1) (ps_expr he hs) (fun D σ H as s l kk => ⟨as, s, fun cls d H1 m1 e1 r1 => kk _ rfl as H1 (Stp.of l e1) σ cls d (s.step m1 e1) r1⟩) (fun o ho => by subst ho; exact kk)
/-! ### stores into a list of ours -/
theorem ixN_nat {n j : Nat} (hj : j < n) : ixN n (j : Int) = some j := by
  unfold ixN
  rw [if_pos (by omega), if_pos (by omega)]
  simp
theorem s_put {i j : Nat} {jz : Int} {d : Dt} {ds : List Dt} {sp : Pos} (he : PE X e (tD X.K es ms (.d d) ms1)) (ho : PE X a (tD X.K es ms1 (.m i) ms2)) (hi : PE X b (tD X.K es ms2 (.d (.int jz)) ms3)) (hm : ms3[i]? = some (some ds)) (hj : ixN ds.length jz = some j)
    (kk : PSs X rest (tS X.K n W es (ms3.set i (some (ds.set j d))) P))
    (hs : swapsWithSole [.Subscript a b sp] e pos.line X.env = pure false := by rfl) (hs2 : swappedStores [.Subscript a b sp] e X.env = pure none := by rfl) (hs3 : (assignEach [.Subscript a b sp] X.env).map (·.2) = [assign (.Subscript a b sp) X.env] := by rfl)
    (hsub : ∀ v : Value, assign (a.Subscript b sp) X.env v = (do
      let ov ← holding [v] (eval a X.env)
      let iv ← holding [v, ov] (eval b X.env)
      standAt sp
      holding [v, ov, iv] (setItem ov iv v)
      release [v, ov, iv] []) := by intro _; rfl) : PSs X (.Assign [.Subscript a b sp] e pos :: rest) (tS X.K n W es ms P) :=
  s_cons (P' := fun o => o = .nx es (ms3.set i (some (ds.set j d)))) (ps_asg he (pg_sub ho hi set_list hsub) hs hs2 hs3) (fun D σ H as s l kk => ⟨as, s, fun v H1 m1 e1 r1 => ⟨as, s.step m1 e1, fun u H2 m2 e2 r2 => ⟨as, s.step m2 (e1.trans e2), fun w H3 m3 e3 r3 => by
    cases r3
    obtain ⟨q, h1, rfl⟩ := r2
    obtain ⟨ds', vs', k1, k2, k3⟩ := m3.is i q h1
    rw [hm] at k1
    cases k1
    have hv := (Rp.mono (e2.trans e3) r1)
    refine ⟨q, vs', jz, j, rfl, rfl, k2, by rw [k3.len]; exact hj, ?_⟩
    have z := m3.put h1 (k3.set hv j)
    have e4 := ((e1.trans e2).trans e3).trans z.2
    exact kk _ rfl as _ (Stp.of l e4) σ (s.step z.1 e4)⟩⟩⟩) (fun o ho => by subst ho; exact kk)
theorem s_append {i : Nat} {d : Dt} {ds : List Dt} {ap cp : Pos} (ho : PE X a (tD X.K es ms (.m i) ms1)) (he : PE X e (tD X.K es ms1 (.d d) ms2)) (hm : ms2[i]? = some (some ds)) (hz : ds.length < 100000) (hm1 : ms1[i]? = some (some ds))
    (kk : PSs X rest (tS X.K n W es (ms2.set i (some (ds ++ [d]))) P))
    (hb : attributeBase a "append" X.env (eval a X.env) = eval a X.env := by rfl)
    (h1 : ((((backTo cp (starEach [e] X.env)).all fun x => !x.1) && (backToKw cp (keywordEach [] X.env)).all fun x => x.1.isSome) && decide (([e].length + ([] : List Keyword).length + if ([] : List Keyword).isEmpty = true then 0 else 1) < 30)) = true := by rfl)
    (h2 : (ap.endLine == cp.line) = true := by rfl) (h3 : starEach [e] X.env = (false, eval e X.env) :: starEach [] X.env := by rfl) (h4 : (backTo cp (starEach [] X.env)).any (·.1) = false := by rfl) (hs : swapsWith (.Call (.Attribute a "append" ap) [e] [] cp) none pos.line X.env = pure false := by rfl) :
    PSs X (.Expr (.Call (.Attribute a "append" ap) [e] [] cp) pos :: rest) (tS X.K n W es ms P) :=
  s_cons (P' := fun o => o = .nx es (ms2.set i (some (ds ++ [d])))) (ps_expr (pe_bm PySem.F.plainAttrs_list PySem.F.slot_list_append PySem.F.type_list_append mt_append ho (pa_cons he pa_nil h3) hb h1 h2 h3 h4) hs) (fun D σ H as s l kk => ⟨as, s, fun u H2 m2 e2 r2 => by
    obtain ⟨q, g1, rfl⟩ := r2
    obtain ⟨dsa, vsa, ka1, ka2, ka3⟩ := m2.is i q g1
    refine ⟨.inl ⟨rfl, vsa, .inl (.inl ka2)⟩, as, s.step m2 e2, fun v H3 m3 e3 r3 => ?_⟩
    obtain ⟨ds', vs', k1, k2, k3⟩ := m3.is i q g1
    rw [hm] at k1
    cases k1
    refine ⟨q, vs', v, rfl, rfl, k2, by rw [k3.len]; exact Nat.lt_of_lt_of_le hz (by decide), ?_⟩
    have z := m3.put g1 (k3.app (RpA.one r3))
    have e4 := (e2.trans e3).trans z.2
    exact kk _ rfl as _ (Stp.of l e4) σ (s.step z.1 e4)⟩) (fun o ho => by subst ho; exact kk)
/-! ### a list of ours is left as it is from here on -/
def frz (k : Nat) (ds : List Dt) : Option Sv → Option Sv
  | some (.m j) => if j = k then some (.d (.lst ds)) else some (.m j)
  | o => o
theorem s_freeze {i : Nat} {ds : List Dt} (hi : ms[i]? = some (some ds)) (hn : n ≤ i) (h : PSs X l (tS X.K n W (es.map (frz i ds)) (ms.set i none) P)) : PSs X l (tS X.K n W es ms P) := pss_w h fun D σ H ⟨as, s, ln, kk⟩ => by
  have hlt : i < as.length := by rw [← s.mem.len]; exact (List.getElem?_eq_some_iff.mp hi).1
  have less : ∀ a : Addr, some a ∈ as.set i none → some a ∈ as := fun a h => by
    rcases List.mem_or_eq_of_mem_set h with h | h
    · exact h
    · cases h
  have e : Same (hid as H) (hid (as.set i none) H) := hid_less less
  have get : ∀ {j : Nat} {a : Addr}, (as.set i none)[j]? = some (some a) → i ≠ j ∧ as[j]? = some (some a) := fun {j a} h => by
    by_cases c : i = j
    · subst c
      rw [List.getElem?_set_self hlt] at h
      cases h
    · rw [List.getElem?_set_ne c] at h
      exact ⟨c, h⟩
  refine ⟨as.set i none, ⟨by rw [List.length_map]; exact s.len, fun j sv h => ?_, ?_⟩, by rw [List.length_set]; exact ln, fun o po as' H' st => kk o po as' H' ?_⟩
  · rw [List.getElem?_map] at h
    cases q : es[j]? with
    | none => rw [q] at h; cases h
    | some o =>
      rw [q] at h
      cases o with
      | none => cases h
      | some sw =>
        obtain ⟨v, h1, h2⟩ := s.env j sw q
        cases sw with
        | d x => cases h; exact ⟨v, h1, Rp.mono e h2⟩
        | m r =>
          obtain ⟨a, g1, rfl⟩ := h2
          by_cases c : r = i
          · subst c
            have hh : some (frz r ds (some (.m r))) = some (some sv) := h
            simp [frz] at hh
            subst hh
            obtain ⟨ds', vs', k1, k2, k3⟩ := s.mem.is r a g1
            rw [hi] at k1
            cases k1
            refine ⟨_, h1, Rp.lst (.inl (.inl (hid_to k2 fun z => ?_))) (k3.mono e)⟩
            obtain ⟨j', hj'⟩ := List.getElem?_of_mem z
            have := s.mem.uniq j' r a (get hj').2 g1
            exact (get hj').1 this.symm
          · have hh : some (frz i ds (some (.m r))) = some (some sv) := h
            simp [frz, c] at hh
            subst hh
            exact ⟨_, h1, a, by rw [List.getElem?_set_ne (Ne.symm c)]; exact g1, rfl⟩
        | x a c dd y => cases h; exact ⟨v, h1, h2.1, h2.2.mono e⟩
  · refine ⟨by rw [List.length_set, List.length_set]; exact s.mem.len, fun j j' a h1 h2 => s.mem.uniq j j' a (get h1).2 (get h2).2, fun j a h => ?_⟩
    obtain ⟨c, g⟩ := get h
    obtain ⟨ds', vs', k1, k2, k3⟩ := s.mem.is j a g
    exact ⟨ds', vs', by rw [List.getElem?_set_ne c]; exact k1, k2, k3.mono e⟩
  · exact ⟨e.trans st.same, fun k hk => (st.pre k hk).trans (List.getElem?_set_ne (by omega)), st.len, fun a ha => by
      rcases st.news a ha with z | z
      · exact .inl (less a z)
      · exact .inr z⟩
end
end Dv
/-! # Dv3: what is walked, targets, for, while, comprehensions, unpacking -/
namespace Dv
open PySem PySem.Spec L2
/-! ### what is walked: a list of data -/
structure Src (K : PySem.W.Frag) (J : It) (B : Hp → Prop) (ds : List Dt) : Prop where
  mono : ∀ {H H'}, Same H H' → B H → B H'
  go : ∀ {as ms H i}, MsR K as ms H → B (hid as H) → i < ds.length → J.go i H
  stop : ∀ {as ms H i}, MsR K as ms H → B (hid as H) → ds.length ≤ i → J.stop i H
  yld : ∀ {as ms H i x H'}, MsR K as ms H → B (hid as H) → J.yld i H x H' → i < ds.length → ∃ d, ds[i]? = some d ∧ MsR K as ms H' ∧ Same (hid as H) (hid as H') ∧ Rp K (hid as H') x d
def iD (K : PySem.W.Frag) (es : Es) (ms : Ms) (ds : List Dt) (ms' : Ms) : TI := fun σ H R => ∃ as, Sr K as es ms σ H ∧ ∀ J B H', Src K J B ds → B (hid as H') → MsR K as ms' H' → Same (hid as H) (hid as H') → R J H'
section
variable {X : Cx} {n : Nat} {W : WX} {es es1 es2 : Es} {ms ms1 ms2 ms3 : Ms} {P P' : Out → Prop} {rest body l : List Stmt} {e a b c tg : Expr} {p pos : Pos} {N : List Str} {ds : List Dt}
theorem pi_w {iter : Expr} {t t' : TI} (h : PI X tg iter t) (w : ∀ σ H R, t' σ H R → t σ H R) : PI X tg iter t' := ⟨fun p s σ H R I q => h.run p s σ H R I (w σ H R q)⟩
theorem src_list {K : PySem.W.Frag} {q : Addr} : Src K (Itl K q) (fun G => ∃ xs, SqL K G q xs ∧ RpA K G xs ds) ds where
  mono := fun e ⟨xs, h1, h2⟩ => ⟨xs, e.seq h1, h2.mono e⟩
  go := fun {as ms H i} m ⟨xs, h1, h2⟩ hi => by
    have hl : i < xs.length := by rw [h2.len]; exact hi
    exact ⟨xs, xs[i], hid_sub.seq h1, List.getElem?_eq_getElem hl⟩
  stop := fun {as ms H i} m ⟨xs, h1, h2⟩ hi => ⟨xs, hid_sub.seq h1, by rw [h2.len]; exact hi⟩
  yld := fun {as ms H i x H'} m ⟨xs, h1, h2⟩ hy hi => by
    obtain ⟨rfl, hy⟩ := hy
    obtain ⟨d, g1, g2⟩ := h2.get' (hy xs (hid_sub.seq h1))
    exact ⟨d, g1, m, Same.refl _, g2⟩
theorem src_tup {K : PySem.W.Frag} {q : Addr} : Src K (Itt K q) (fun G => ∃ xs, SqT K G q xs ∧ RpA K G xs ds) ds where
  mono := fun e ⟨xs, h1, h2⟩ => ⟨xs, sqT_same e h1, h2.mono e⟩
  go := fun {as ms H i} m ⟨xs, h1, h2⟩ hi => by
    have hl : i < xs.length := by rw [h2.len]; exact hi
    exact ⟨xs, xs[i], sqT_same hid_sub h1, List.getElem?_eq_getElem hl⟩
  stop := fun {as ms H i} m ⟨xs, h1, h2⟩ hi => ⟨xs, sqT_same hid_sub h1, by rw [h2.len]; exact hi⟩
  yld := fun {as ms H i x H'} m ⟨xs, h1, h2⟩ hy hi => by
    obtain ⟨rfl, hy⟩ := hy
    obtain ⟨d, g1, g2⟩ := h2.get' (hy xs (sqT_same hid_sub h1))
    exact ⟨d, g1, m, Same.refl _, g2⟩
/-- lo, lo + 1, .., k of them -/
def irange (lo : Int) (k : Nat) : List Dt := (List.range k).map fun (i : Nat) => Dt.int (lo + (i : Int))
theorem irange_len (lo : Int) (k : Nat) : (irange lo k).length = k := by unfold irange; simp
theorem irange_get {lo : Int} {k i : Nat} (h : i < k) : (irange lo k)[i]? = some (.int (lo + (i : Int))) := by unfold irange; simp [h]
theorem irange_at {lo : Int} {k i : Nat} {d : Dt} (h : (irange lo k)[i]? = some d) : i < k ∧ d = .int (lo + (i : Int)) := by
  have hl : i < k := by
    have := (List.getElem?_eq_some_iff.mp h).1
    rwa [irange_len] at this
  rw [irange_get hl] at h
  exact ⟨hl, (Option.some.inj h).symm⟩
theorem src_rng {K : PySem.W.Frag} {lo : Int} {k : Nat} : Src K (Itr lo k) (fun _ => True) (irange lo k) where
  mono := fun _ h => h
  go := fun {as ms H i} m _ hi => by rw [irange_len] at hi; exact hi
  stop := fun {as ms H i} m _ hi => by rw [irange_len] at hi; exact hi
  yld := fun {as ms H i x H'} m _ hy hi => by
    obtain ⟨rfl, rfl⟩ := hy
    rw [irange_len] at hi
    exact ⟨_, irange_get hi, m, Same.refl _, .int _⟩
/-- (0, x0), (1, x1), .. -/
def enums (ds : List Dt) : List Dt := (List.range ds.length).map fun (i : Nat) => Dt.tup [.int (i : Int), (ds[i]?).getD .non]
theorem enums_len (ds : List Dt) : (enums ds).length = ds.length := by unfold enums; simp
theorem enums_at {i : Nat} {d : Dt} (h : (enums ds)[i]? = some d) : ∃ x, ds[i]? = some x ∧ d = .tup [.int (i : Int), x] := by
  have hl : i < ds.length := by
    have := (List.getElem?_eq_some_iff.mp h).1
    rwa [enums_len] at this
  unfold enums at h
  simp [hl] at h
  exact ⟨ds[i], List.getElem?_eq_getElem hl, h.symm⟩
theorem src_enum {K : PySem.W.Frag} {q : Addr} : Src K (Ite K q) (fun G => ∃ xs, SqL K G q xs ∧ RpA K G xs ds) (enums ds) where
  mono := fun e ⟨xs, h1, h2⟩ => ⟨xs, e.seq h1, h2.mono e⟩
  go := fun {as ms H i} m ⟨xs, h1, h2⟩ hi => by
    rw [enums_len] at hi
    have hl : i < xs.length := by rw [h2.len]; exact hi
    exact ⟨xs, xs[i], hid_sub.seq h1, List.getElem?_eq_getElem hl⟩
  stop := fun {as ms H i} m ⟨xs, h1, h2⟩ hi => ⟨xs, hid_sub.seq h1, by rw [h2.len, ← enums_len]; exact hi⟩
  yld := fun {as ms H i x H'} m ⟨xs, h1, h2⟩ hy hi => by
    obtain ⟨T, y, rfl, hT, rfl, hy⟩ := hy
    obtain ⟨d, g1, g2⟩ := h2.get' (hy xs (hid_sub.seq h1))
    have hl := (List.getElem?_eq_some_iff.mp g1).1
    refine ⟨.tup [.int (i : Int), d], ?_, (m.new hT).1, (m.new hT).2, .tup (.inl (.inl (m.at_new hT))) (.cons (.int _) (.cons (g2.mono (m.new hT).2) .nil))⟩
    unfold enums
    simp [hl]
    rw [List.getElem?_eq_getElem hl] at g1
    exact (Option.some.inj g1)
def zips : List Dt → List Dt → List Dt
  | x :: xs, y :: ys => .tup [x, y] :: zips xs ys
  | _, _ => []
theorem zips_len : ∀ (xs ys : List Dt), (zips xs ys).length = min xs.length ys.length
  | [], _ => by simp [zips]
  | _ :: _, [] => by simp [zips]
  | _ :: xs, _ :: ys => by simp [zips, zips_len xs ys]
theorem zips_get : ∀ {xs ys : List Dt} {i : Nat} {x y : Dt}, xs[i]? = some x → ys[i]? = some y → (zips xs ys)[i]? = some (.tup [x, y])
  | [], _, _, _, _, h, _ => by simp at h
  | _ :: _, [], _, _, _, _, h => by simp at h
  | _ :: _, _ :: _, 0, _, _, h, g => by
    simp at h g
    subst h
    subst g
    rfl
  | _ :: xs, _ :: ys, i + 1, x, y, h, g => by
    have := zips_get (xs := xs) (ys := ys) (i := i) (x := x) (y := y) (by simpa using h) (by simpa using g)
    simpa [zips] using this
theorem zips_at {xs ys : List Dt} {i : Nat} {d : Dt} (h : (zips xs ys)[i]? = some d) : ∃ x y, xs[i]? = some x ∧ ys[i]? = some y ∧ d = .tup [x, y] := by
  have hl := (List.getElem?_eq_some_iff.mp h).1
  rw [zips_len] at hl
  have h1 : i < xs.length := by omega
  have h2 : i < ys.length := by omega
  rw [zips_get (List.getElem?_eq_getElem h1) (List.getElem?_eq_getElem h2)] at h
  exact ⟨_, _, List.getElem?_eq_getElem h1, List.getElem?_eq_getElem h2, (Option.some.inj h).symm⟩
theorem src_zip {K : PySem.W.Frag} {q r : Addr} {cs : List Dt} : Src K (Itz K q r) (fun G => ∃ xs ys, SqL K G q xs ∧ SqL K G r ys ∧ RpA K G xs ds ∧ RpA K G ys cs) (zips ds cs) where
  mono := fun e ⟨xs, ys, h1, h2, h3, h4⟩ => ⟨xs, ys, e.seq h1, e.seq h2, h3.mono e, h4.mono e⟩
  go := fun {as ms H i} m ⟨xs, ys, h1, h2, h3, h4⟩ hi => by
    rw [zips_len] at hi
    have hl : i < xs.length := by rw [h3.len]; omega
    have hl2 : i < ys.length := by rw [h4.len]; omega
    exact ⟨xs, ys, xs[i], ys[i], hid_sub.seq h1, hid_sub.seq h2, List.getElem?_eq_getElem hl, List.getElem?_eq_getElem hl2⟩
  stop := fun {as ms H i} m ⟨xs, ys, h1, h2, h3, h4⟩ hi => ⟨xs, ys, hid_sub.seq h1, hid_sub.seq h2, by rw [h3.len, h4.len]; rw [zips_len] at hi; omega⟩
  yld := fun {as ms H i x H'} m ⟨xs, ys, h1, h2, h3, h4⟩ hy hi => by
    obtain ⟨T, x, y, rfl, hT, rfl, hx, hy⟩ := hy
    obtain ⟨d, g1, g2⟩ := h3.get' (hx xs (hid_sub.seq h1))
    obtain ⟨d2, f1, f2⟩ := h4.get' (hy ys (hid_sub.seq h2))
    exact ⟨.tup [d, d2], zips_get g1 f1, (m.new hT).1, (m.new hT).2, .tup (.inl (.inl (m.at_new hT))) (.cons (g2.mono (m.new hT).2) (.cons (f2.mono (m.new hT).2) .nil))⟩
theorem i_list (h : PE X e (tD X.K es ms (.d (.lst ds)) ms1)) : PI X tg e (iD X.K es ms ds ms1) := pi_w (pi_list h) fun σ H R ⟨as, s, k⟩ => ⟨as, s, fun v H1 m1 e1 r1 => by
  cases r1 with | lst hs hx => exact ⟨_, rfl, ⟨_, hid_sub.seq hs⟩, k _ _ H1 src_list ⟨_, hs, hx⟩ m1 e1⟩⟩
theorem i_tup (h : PE X e (tD X.K es ms (.d (.tup ds)) ms1)) : PI X tg e (iD X.K es ms ds ms1) := pi_w (pi_tup h) fun σ H R ⟨as, s, k⟩ => ⟨as, s, fun v H1 m1 e1 r1 => by
  cases r1 with | tup hs hx => exact ⟨_, rfl, ⟨_, sqT_same hid_sub hs⟩, k _ _ H1 src_tup ⟨_, hs, hx⟩ m1 e1⟩⟩
theorem i_rng {j : Int} (hg : Gl X "range") (hm : X.mg "range" = none) (h : PE X a (tD X.K es ms (.d (.int j)) ms1)) (hj : -(2 ^ 62) ≤ j ∧ j < 2 ^ 62) (he : starEach [a] X.env = [(false, eval a X.env)] := by rfl) :
    PI X tg (.Call (.Name "range" p) [a] [] pos) (iD X.K es ms (irange 0 j.toNat) ms1) := pi_w (pi_range1 hg hm (a_cons h a_nil he) he) fun σ H R ⟨as, s, k⟩ => ⟨as, s, fun v H1 m1 e1 r1 => by
  cases r1 with | cons r1 r2 => cases r2; cases r1; exact ⟨j, rfl, hj.1, hj.2, k _ _ H1 src_rng trivial m1 e1⟩⟩
theorem i_rng2 {i j : Int} (hg : Gl X "range") (hm : X.mg "range" = none) (h : PE X a (tD X.K es ms (.d (.int i)) ms1)) (h2 : PE X b (tD X.K es ms1 (.d (.int j)) ms2)) (hj : -(2 ^ 62) ≤ i ∧ i < 2 ^ 62 ∧ -(2 ^ 62) ≤ j ∧ j < 2 ^ 62) (he : starEach [a, b] X.env = [(false, eval a X.env), (false, eval b X.env)] := by rfl) (he2 : starEach [b] X.env = [(false, eval b X.env)] := by rfl) :
    PI X tg (.Call (.Name "range" p) [a, b] [] pos) (iD X.K es ms (irange i (j - i).toNat) ms2) := pi_w (pi_range2 hg hm (a_cons h (a_cons h2 a_nil he2) (by rw [he, he2])) he he2) fun σ H R ⟨as, s, k⟩ => ⟨as, s, fun v H1 m1 e1 r1 => by
  cases r1 with | cons r1 r2 => cases r2 with | cons r2 r3 => cases r3; cases r1; cases r2; exact ⟨i, j, rfl, hj, k _ _ H1 src_rng trivial m1 e1⟩⟩
theorem i_enum {tpos : Pos} {elts : List Expr} {kk : Nat} (hg : Gl X "enumerate") (hm : X.mg "enumerate" = none) (h : PE X e (tD X.K es ms (.d (.lst ds)) ms1)) (he : starEach [e] X.env = [(false, eval e X.env)] := by rfl) :
    PI X (.Tuple elts kk tpos) (.Call (.Name "enumerate" p) [e] [] pos) (iD X.K es ms (enums ds) ms1) := pi_w (pi_enum hg hm (a_cons h a_nil he) he) fun σ H R ⟨as, s, k⟩ => ⟨as, s, fun v H1 m1 e1 r1 => by
  cases r1 with | cons r1 r2 => cases r2; cases r1 with | lst hs hx => exact ⟨_, _, rfl, hid_sub.seq hs, k _ _ H1 src_enum ⟨_, hs, hx⟩ m1 e1⟩⟩
theorem i_zip {tpos : Pos} {elts : List Expr} {kk : Nat} {cs : List Dt} (hg : Gl X "zip") (hm : X.mg "zip" = none) (h : PE X a (tD X.K es ms (.d (.lst ds)) ms1)) (h2 : PE X b (tD X.K es ms1 (.d (.lst cs)) ms2))
    (he : starEach [a, b] X.env = (false, eval a X.env) :: starEach [b] X.env := by rfl) (he2 : starEach [b] X.env = (false, eval b X.env) :: starEach [] X.env := by rfl) (hpl : (backTo pos (starEach [b] X.env)).any (·.1) = false := by rfl) :
    PI X (.Tuple elts kk tpos) (.Call (.Name "zip" p) [a, b] [] pos) (iD X.K es ms (zips ds cs) ms2) := pi_w (pi_zip hg hm (a_cons h (a_cons h2 a_nil he2) he) he hpl) fun σ H R ⟨as, s, k⟩ => ⟨as, s, fun v H1 m1 e1 r1 => by
  cases r1 with | cons r1 r2 => cases r2 with | cons r2 r3 =>
    cases r3
    cases r1 with | lst hs hx => cases r2 with | lst hs2 hx2 => exact ⟨_, _, _, _, rfl, hid_sub.seq hs, hid_sub.seq hs2, k _ _ H1 src_zip ⟨_, _, hs, hs2, hx, hx2⟩ m1 e1⟩⟩
/-! ### targets -/
def TgS (X : Cx) (g : TG) (B : Dt → Es → Es → Prop) : Prop := ∀ as es ms σ H v d es' (Q : St → Hp → Prop), Sr X.K as es ms σ H → Rp X.K (hid as H) v d → B d es es' → (∀ σ', Sr X.K as es' ms σ' H → Q σ' H) → g v σ H Q
def TgOk (X : Cx) (tg : Expr) (B : Dt → Es → Es → Prop) : Prop := ∃ g, PG X tg g ∧ TgS X g B
def B1 (N : List Str) (x : Str) : Dt → Es → Es → Prop := fun d es es' => Put N es x (.d d) es'
def B2 (N : List Str) (x y : Str) : Dt → Es → Es → Prop := fun d es es' => ∃ d1 d2 e1, d = .tup [d1, d2] ∧ Put N es x (.d d1) e1 ∧ Put N e1 y (.d d2) es'
theorem tg_name {x : Str} (hN : X.N = N) (nd : N.Nodup) (hin : x ∈ N) (hl : Loc X.env.scope x := by first | exact Or.inl rfl | exact Or.inr rfl) (hf : X.fn x = true ∨ X.env.scope.names.lookup x = some .local := by first | exact .inl rfl | exact .inr rfl) : TgOk X (.Name x pos) (B1 N x) := by
  obtain ⟨i, hi⟩ := List.getElem?_of_mem hin
  refine ⟨gName i, pg_name (hN ▸ nd) (by rw [hN]; exact hi) hl hf, fun as es ms σ H v d es' Q s r hb k => ?_⟩
  obtain ⟨j, h1, h2⟩ := hb.ix
  have : i = j := nodup_ix nd hi h1
  subst this
  exact k _ (s.put (sv := .d d) r h2)
theorem tg_two {x y : Str} {p1 p2 : Pos} {kk : Nat} (hN : X.N = N) (nd : N.Nodup) (hin : x ∈ N) (hin2 : y ∈ N) (hc : X.calm = true) (hl : Loc X.env.scope x := by first | exact Or.inl rfl | exact Or.inr rfl) (hf : X.fn x = true ∨ X.env.scope.names.lookup x = some .local := by first | exact .inl rfl | exact .inr rfl)
    (hl2 : Loc X.env.scope y := by first | exact Or.inl rfl | exact Or.inr rfl) (hf2 : X.fn y = true ∨ X.env.scope.names.lookup y = some .local := by first | exact .inl rfl | exact .inr rfl)
    (h1 : (assignEach [.Name x p1, .Name y p2] X.env).length = 2 := by rfl) (h2 : (assignEach [.Name x p1, .Name y p2] X.env).findIdx? (·.1) = none := by rfl)
    (h3 : (assignEach [.Name x p1, .Name y p2] X.env).map (·.2) = assign (.Name x p1) X.env :: (assignEach [.Name y p2] X.env).map (·.2) := by rfl) (h4 : (assignEach [.Name y p2] X.env).map (·.2) = assign (.Name y p2) X.env :: (assignEach [] X.env).map (·.2) := by rfl) : TgOk X (.Tuple [.Name x p1, .Name y p2] kk pos) (B2 N x y) := by
  obtain ⟨g1, hg1, q1⟩ := tg_name (pos := p1) hN nd hin hl hf
  obtain ⟨g2, hg2, q2⟩ := tg_name (pos := p2) hN nd hin2 hl2 hf2
  refine ⟨_, pg_tup (n := 2) hc (pgs_cons hg1 (pgs_cons hg2 pgs_nil h4) h3) h1 h2, fun as es ms σ H v d es' Q s r hb k => ?_⟩
  obtain ⟨d1, d2, e1, rfl, b1, b2⟩ := hb
  cases r with | tup hs hx =>
    cases hx with | cons r1 hx => cases hx with | cons r2 hx =>
      cases hx
      exact ⟨_, _, rfl, sqT_same hid_sub hs, rfl, _, _, rfl, q1 as es ms σ H _ _ _ _ s r1 b1 fun σ1 s1 => ⟨_, _, rfl, q2 as e1 ms σ1 H _ _ _ _ s1 r2 b2 fun σ2 s2 => ⟨rfl, k σ2 s2⟩⟩⟩
/-! ### unpacking -/
theorem s_unpack {d : Dt} {B : Dt → Es → Es → Prop} (he : PE X e (tD X.K es ms (.d d) ms1)) (ht : TgOk X tg B) (hb : B d es es1) (k : PSs X rest (tS X.K n W es1 ms1 P))
    (hs : swapsWithSole [tg] e pos.line X.env = pure false := by rfl) (hs2 : swappedStores [tg] e X.env = pure none := by rfl) (hs3 : (assignEach [tg] X.env).map (·.2) = [assign tg X.env] := by rfl) : PSs X (.Assign [tg] e pos :: rest) (tS X.K n W es ms P) := by
  obtain ⟨g, hg, q⟩ := ht
  exact s_cons (P' := fun o => o = .nx es1 ms1) (ps_asg he hg hs hs2 hs3) (fun D σ H as s l kk => ⟨as, s, fun v H1 m1 e1 r1 => q as es ms1 σ H1 v d es1 _ (s.step m1 e1) r1 hb fun σ' s' => kk _ rfl as H1 (Stp.of l e1) σ' s'⟩) (fun o ho => by subst ho; exact k)
theorem s_unpackX {x : Xc} {B : Dt → Es → Es → Prop} (he : PE X e (tX X.K W es ms x ms1)) (ht : TgOk X tg B) (kk : P (.rs x es ms1))
    (hs : swapsWithSole [tg] e pos.line X.env = pure false := by rfl) (hs2 : swappedStores [tg] e X.env = pure none := by rfl) (hs3 : (assignEach [tg] X.env).map (·.2) = [assign tg X.env] := by rfl) : PSs X (.Assign [tg] e pos :: rest) (tS X.K n W es ms P) := by
  obtain ⟨g, hg, q⟩ := ht
  exact s_cons (P' := fun o => o = .rs x es ms1) (ps_asg he hg hs hs2 hs3) (fun D σ H as s l kk => ⟨as, s, fun cls d H1 m1 e1 r1 => kk _ rfl as H1 (Stp.of l e1) σ cls d (s.step m1 e1) r1⟩) (fun o ho => by subst ho; exact kk)
/-! ### loops -/
theorem pss_self : PSs X body (fun D σ H => ∃ t, PSs X body t ∧ t D σ H) := ⟨fun p s σ H D I ⟨t, h, q⟩ => h.run p s σ H D I q⟩
theorem pt_self : PT X c (fun σ H Q => ∃ t, PT X c t ∧ t σ H Q) := ⟨fun p s σ H Q I ⟨t, h, q⟩ => h.run p s σ H Q I q⟩
def Lp (X : Cx) (n : Nat) (W : WX) (rest : List Stmt) (P : Out → Prop) (I : Es → Ms → Prop) : Out → Prop
  | .nx es ms => I es ms
  | .ct es ms => I es ms
  | .bk es ms => PSs X rest (tS X.K n W es ms P)
  | .rt d ms => P (.rt d ms)
  | .rn d ms => P (.rn d ms)
  | .rs x es ms => P (.rs x es ms)
/-- the ways out of a loop -/
def LpO (X : Cx) (n : Nat) (W : WX) (rest : List Stmt) (P : Out → Prop) : Out → Prop
  | .nx es ms => PSs X rest (tS X.K n W es ms P)
  | .rt d ms => P (.rt d ms)
  | .rn d ms => P (.rn d ms)
  | .rs x es ms => P (.rs x es ms)
  | _ => False
theorem LpO.then : ∀ o, LpO X n W rest P o → Then X n W rest P o
  | .nx _ _, h => h
  | .rt _ _, h => h
  | .rn _ _, h => h
  | .rs _ _ _, h => h
  | .bk _ _, h => h.elim
  | .ct _ _, h => h.elim
theorem s_for {iter : Expr} {B : Dt → Es → Es → Prop} (hi : PI X tg iter (iD X.K es ms ds ms1)) (ht : TgOk X tg B) (I : Nat → Es → Ms → Prop) (h0 : I 0 es ms1)
    (hs : ∀ i d es' ms', ds[i]? = some d → I i es' ms' → ∃ es2, B d es' es2 ∧ PSs X body (tS X.K n W es2 ms' (Lp X n W rest P (I (i + 1)))))
    (hd : ∀ es' ms', I ds.length es' ms' → PSs X rest (tS X.K n W es' ms' P)) (hpo : PassesOwn (model X.prog X.w) X.A X.env X.xe) (hc : X.calm = true) (hset : ∀ x, foldedSetIterable iter X.env x = pure x := by intro _; rfl) :
    PSs X (.For tg iter body [] pos :: rest) (tS X.K n W es ms P) := by
  obtain ⟨g, hg, q⟩ := ht
  refine s_cons (P' := LpO X n W rest P) (ps_for hpo hc hi hg pss_self hset) (fun D σ H as s l kk => ⟨as, s, fun J B' H1 src hB m1 e1 => ?_⟩) LpO.then
  let Wd : Nat → Nat → St → Hp → Prop := fun i m σ' H' => m + i = ds.length ∧ ∃ as' es' ms', I i es' ms' ∧ Sr X.K as' es' ms' σ' H' ∧ Stp n as H as' H' ∧ B' (hid as' H')
  refine ⟨Wd, ⟨ds.length, by simp, as, es, ms1, h0, s.step m1 e1, Stp.of l e1, hB⟩, fun i m σ' H' ⟨hm, as', es', ms', hI, s', st, hB'⟩ => ?_⟩
  by_cases c : i < ds.length
  · refine .inr ⟨src.go s'.mem hB' c, fun σ2 H2 => ∃ m', m' < m ∧ Wd (i + 1) m' σ2 H2, fun σ2 H2 h => h, fun x H2 hy => ?_⟩
    obtain ⟨d, hd1, m2, e2, r2⟩ := src.yld s'.mem hB' hy c
    obtain ⟨es2, b2, hbody⟩ := hs i d es' ms' hd1 hI
    have st2 : Stp n as H as' H2 := st.trans (Stp.of st.len e2)
    refine q as' es' ms' σ' H2 x d es2 _ (s'.step m2 e2) r2 b2 fun σ3 s3 => ⟨_, hbody, as', s3, st.len, fun o po as4 H4 st4 => ?_⟩
    have st5 : Stp n as H as4 H4 := st2.trans st4
    have bb : B' (hid as4 H4) := src.mono (e2.trans st4.same) hB'
    cases o with
    | nx es4 ms4 => exact fun σ4 s4 => ⟨m - 1, by omega, by omega, as4, es4, ms4, po, s4, st5, bb⟩
    | ct es4 ms4 => exact fun σ4 s4 => ⟨m - 1, by omega, by omega, as4, es4, ms4, po, s4, st5, bb⟩
    | bk es4 ms4 => exact fun σ4 s4 => kk (.nx es4 ms4) po as4 H4 st5 σ4 s4
    | rt d4 ms4 => exact kk (.rt d4 ms4) po as4 H4 st5
    | rn d4 ms4 => exact kk (.rn d4 ms4) po as4 H4 st5
    | rs x4 es4 ms4 => exact kk (.rs x4 es4 ms4) po as4 H4 st5
  · have e : i = ds.length := by omega
    subst e
    exact .inl ⟨src.stop s'.mem hB' (Nat.le_refl _), kk (.nx es' ms') (hd es' ms' hI) as' H' st σ' s'⟩
theorem s_while (I : Nat → Es → Ms → Prop) {m0 : Nat} (h0 : I m0 es ms)
    (hs : ∀ m es' ms', I m es' ms' → ∃ b ms2, PT X c (tBo X.K es' ms' b ms2) ∧ (b = true → PSs X body (tS X.K n W es' ms2 (Lp X n W rest P fun es3 ms3 => ∃ m', m' < m ∧ I m' es3 ms3))) ∧ (b = false → PSs X rest (tS X.K n W es' ms2 P)))
    (hpo : PassesOwn (model X.prog X.w) X.A X.env X.xe) : PSs X (.While c body [] pos :: rest) (tS X.K n W es ms P) := by
  refine s_cons (P' := LpO X n W rest P) (ps_while hpo pt_self pss_self) (fun D σ H as s l kk => ?_) LpO.then
  let Wd : Nat → St → Hp → Prop := fun m σ' H' => ∃ as' es' ms', I m es' ms' ∧ Sr X.K as' es' ms' σ' H' ∧ Stp n as H as' H'
  refine ⟨Wd, ⟨m0, as, es, ms, h0, s, Stp.refl l⟩, fun m σ' H' ⟨as', es', ms', hI, s', st⟩ => ?_⟩
  obtain ⟨b, ms2, hc, hT, hF⟩ := hs m es' ms' hI
  refine ⟨_, hc, as', s', fun H2 m2 e2 => ?_⟩
  have st2 : Stp n as H as' H2 := st.trans (Stp.of st.len e2)
  cases b with
  | true =>
    refine iteT ⟨fun σ2 H2 => ∃ m', m' < m ∧ Wd m' σ2 H2, fun σ2 H2 h => h, _, hT rfl, as', s'.step m2 e2, st.len, fun o po as4 H4 st4 => ?_⟩
    have st5 : Stp n as H as4 H4 := st2.trans st4
    cases o with
    | nx es4 ms4 =>
      obtain ⟨m', hm', hI'⟩ := po
      exact fun σ4 s4 => ⟨m', hm', as4, es4, ms4, hI', s4, st5⟩
    | ct es4 ms4 =>
      obtain ⟨m', hm', hI'⟩ := po
      exact fun σ4 s4 => ⟨m', hm', as4, es4, ms4, hI', s4, st5⟩
    | bk es4 ms4 => exact fun σ4 s4 => kk (.nx es4 ms4) po as4 H4 st5 σ4 s4
    | rt d4 ms4 => exact kk (.rt d4 ms4) po as4 H4 st5
    | rn d4 ms4 => exact kk (.rn d4 ms4) po as4 H4 st5
    | rs x4 es4 ms4 => exact kk (.rs x4 es4 ms4) po as4 H4 st5
  | false => exact iteF (kk (.nx es' ms2) (hF rfl) as' H2 st2 σ' (s'.step m2 e2))
end
end Dv
/-! # Dv4: list comprehensions -/
namespace Dv
open PySem PySem.Spec L2
def wipeE : Es → List Nat → Es
  | es, [] => es
  | es, v :: vs => (wipeE es vs).set v none
theorem wipe_get {σ : St} {j : Nat} : ∀ {vs : List Nat}, j ∉ vs → (wipe σ vs)[j]? = σ[j]?
  | [], _ => rfl
  | v :: vs, h => by
    unfold wipe
    rw [List.getElem?_set_ne (fun e => h (by rw [e]; exact List.mem_cons_self)), wipe_get (fun e => h (List.mem_cons_of_mem _ e))]
theorem wipeE_get {es : Es} {j : Nat} {sv : Sv} : ∀ {vs : List Nat}, (wipeE es vs)[j]? = some (some sv) → es[j]? = some (some sv) ∧ j ∉ vs
  | [], h => ⟨h, by simp⟩
  | v :: vs, h => by
    unfold wipeE at h
    by_cases c : v = j
    · subst c
      have hl := (List.getElem?_eq_some_iff.mp h).1
      rw [List.length_set] at hl
      rw [List.getElem?_set_self hl] at h
      cases h
    · rw [List.getElem?_set_ne c] at h
      obtain ⟨h1, h2⟩ := wipeE_get h
      exact ⟨h1, fun z => by
        rcases List.mem_cons.mp z with z | z
        · exact c z.symm
        · exact h2 z⟩
theorem wipeE_len (es : Es) : ∀ vs : List Nat, (wipeE es vs).length = es.length
  | [] => rfl
  | v :: vs => by unfold wipeE; rw [List.length_set, wipeE_len es vs]
theorem Sr.wipe {K : PySem.W.Frag} {as : As} {es : Es} {ms : Ms} {σ : St} {H : Hp} (s : Sr K as es ms σ H) (vs : List Nat) : Sr K as (wipeE es vs) ms (L2.wipe σ vs) H :=
  ⟨by rw [wipeE_len, wipe_length]; exact s.len, fun i sv h => by
    obtain ⟨h1, h2⟩ := wipeE_get h
    obtain ⟨v, g1, g2⟩ := s.env i sv h1
    exact ⟨v, by rw [wipe_get h2]; exact g1, g2⟩, s.mem⟩
theorem wipe_set {σ : St} {j : Nat} {x : Option V} : ∀ {vs : List Nat}, j ∈ vs → L2.wipe (σ.set j x) vs = L2.wipe σ vs
  | v :: vs, h => by
    unfold L2.wipe
    by_cases c : j ∈ vs
    · rw [wipe_set c]
    · have e : j = v := by
        rcases List.mem_cons.mp h with h | h
        · exact h
        · exact absurd h c
      subst e
      have : ∀ {vs : List Nat}, j ∉ vs → L2.wipe (σ.set j x) vs = (L2.wipe σ vs).set j x := by
        intro vs
        induction vs with
        | nil => intro _; rfl
        | cons w ws ih =>
          intro hn
          unfold L2.wipe
          rw [ih (fun z => hn (List.mem_cons_of_mem _ z))]
          exact List.set_comm _ _ (fun z => hn (by rw [z]; exact List.mem_cons_self))
      rw [this c, List.set_set]
theorem wipe_wipe {σ : St} : ∀ {vs ws : List Nat}, (∀ v ∈ vs, v ∈ ws) → L2.wipe (L2.wipe σ vs) ws = L2.wipe σ ws
  | [], _, _ => rfl
  | v :: vs, ws, h => by
    show L2.wipe ((L2.wipe σ vs).set v none) ws = L2.wipe σ ws
    rw [wipe_set (h v List.mem_cons_self), wipe_wipe fun u hu => h u (List.mem_cons_of_mem _ hu)]
/-- the target of a comprehension: it stores into the comprehension's own slots alone -/
def TgL (K : PySem.W.Frag) (g : TG) (vs : List Nat) (B : Dt → Es → Es → Prop) : Prop := ∀ as es ms σ H v d es' (Q : St → Hp → Prop), Sr K as es ms σ H → Rp K (hid as H) v d → B d es es' →
  (∀ σ', Sr K as es' ms σ' H → L2.wipe σ' vs = L2.wipe σ vs → Q σ' H) → g v σ H Q
/-- all blocks of a comprehension -/
abbrev Blk (X : Cx) (scope : Scope) (p : Cx → Prop) : Prop := ∀ (s : Shared) (H : Hp) (C : Addr) (cl : List (Str × Addr)) (fp : List Addr), p (X.blk s H scope (compEnvC scope cl C X.env) fp)
section
variable {X : Cx} {n : Nat} {W : WX} {es es0 es1 es2 : Es} {ms ms1 ms2 ms3 : Ms} {P P' : Out → Prop} {rest body l : List Stmt} {e a b c tg elt iter : Expr} {p pos : Pos} {N : List Str} {ds res : List Dt} {scope : Scope} {own : List (Str × Nat)} {vs : List Nat} {ifs : List Expr}
/-- what a comprehension asks -/
structure LcH (X : Cx) (scope : Scope) (tg elt : Expr) (ifs : List Expr) (vs : List Nat) (es0 : Es) (ms1 : Ms) (ds : List Dt) (res : List Dt) (ms2 : Ms) (B : Dt → Es → Es → Prop) : Prop where
  inv : ∃ I : Nat → List Dt → Ms → Prop, I 0 [] ms1 ∧ (∀ i d acc ms', ds[i]? = some d → I i acc ms' → ∃ es2, B d es0 es2 ∧ ∃ b msb, Blk X scope (fun Y => PTs Y ifs (tBo X.K es2 (ms' ++ [some acc]) b (msb ++ [some acc]))) ∧
      (b = true → ∃ y ms3, Blk X scope (fun Y => PE Y elt (tD X.K es2 (msb ++ [some acc]) (.d y) (ms3 ++ [some acc]))) ∧ I (i + 1) (acc ++ [y]) ms3) ∧ (b = false → I (i + 1) acc msb)) ∧
    ∀ acc ms', I ds.length acc ms' → acc = res ∧ ms' = ms2
theorem lc_read {g : TG} {B : Dt → Es → Es → Prop} (hz : ds.length ≤ 100000) (hg : TgL X.K g vs B) (h : LcH X scope tg elt ifs vs (wipeE es vs) ms1 ds res ms2 B) (σ : St) (H : Hp) (Q : VK) (t : tN X.K es ms res ms2 σ H Q) :
    tLc (iD X.K es ms ds ms1) g (fun σ H Q => ∃ t, Blk X scope (fun Y => PTs Y ifs t) ∧ t σ H Q) (fun σ H Q => ∃ t, Blk X scope (fun Y => PE Y elt t) ∧ t σ H Q) vs σ H Q := by
  obtain ⟨as, s, k⟩ := t
  obtain ⟨I, i0, is, id⟩ := h.inv
  refine ⟨as, s, fun J B' H1 src hB m1 e1 D hD => ?_⟩
  have hDH : H D = none := by
    cases q : H D with
    | none => rfl
    | some o =>
      by_cases c : some D ∈ as
      · exact absurd c (m1.fresh hD)
      · have := e1 D o (hid_to q c)
        rw [(hid_of this).1] at hD
        cases hD
  let as1 : As := as ++ [some D]
  have hget : as1[as.length]? = some (some D) := by show (as ++ [some D])[as.length]? = _; simp
  let Wd : Nat → Nat → Hp → Prop := fun i m H' => m + i = ds.length ∧ ∃ acc ms', I i acc ms' ∧ acc.length ≤ i ∧ MsR X.K as1 (ms' ++ [some acc]) H' ∧ Same (hid as H) (hid as1 H') ∧ B' (hid as1 H')
  have z0 := m1.more (vs := []) (ds := []) hD .nil
  refine ⟨Wd, ⟨ds.length, by simp, [], ms1, i0, Nat.le_refl _, z0.1, e1.trans z0.2, src.mono z0.2 hB⟩, fun i m H' ⟨hm, acc, ms', hI, hal, m', e', hB'⟩ => ?_⟩
  have hlen : ∀ {ms' : Ms} {acc : List Dt} {H' : Hp}, MsR X.K as1 (ms' ++ [some acc]) H' → ms'.length = as.length := fun {ms' acc H'} m => by
    have := m.len
    simp [as1] at this
    exact this
  have sr : ∀ {ms' : Ms} {acc : List Dt} {H' : Hp}, MsR X.K as1 (ms' ++ [some acc]) H' → Same (hid as H) (hid as1 H') → Sr X.K as1 es (ms' ++ [some acc]) σ H' := fun {ms' acc H'} m e => ⟨s.len, fun i sv h => by
    obtain ⟨v, q1, q2⟩ := s.env i sv h
    refine ⟨v, q1, ?_⟩
    cases sv with
    | d x => exact Rp.mono e q2
    | m j =>
      obtain ⟨a, g1, g2⟩ := q2
      exact ⟨a, by show (as ++ [some D])[j]? = _; rw [List.getElem?_append_left (List.getElem?_eq_some_iff.mp g1).1]; exact g1, g2⟩
    | x a c dd y => exact ⟨q2.1, q2.2.mono e⟩, m⟩
  by_cases c : i < ds.length
  · refine .inr ⟨src.go m' hB' c, fun H2 => ∃ m2, m2 < m ∧ Wd (i + 1) m2 H2, fun H2 h => h, fun x H2 hy => ?_⟩
    obtain ⟨d, hd1, m2, e2, r2⟩ := src.yld m' hB' hy c
    obtain ⟨es2, b2, b, msb, hT, hy1, hy0⟩ := is i d acc ms' hd1 hI
    have s2 := (sr m2 (e'.trans e2)).wipe vs
    refine hg as1 _ _ _ H2 x d es2 _ s2 r2 b2 fun σ3 s3 hw => ⟨hw.trans (wipe_wipe fun v hv => hv), _, hT, as1, s3, fun H4 m4 e4 => ?_⟩
    have e5 : Same (hid as H) (hid as1 H4) := (e'.trans e2).trans e4
    have bb : B' (hid as1 H4) := src.mono (e2.trans e4) hB'
    cases b with
    | true =>
      obtain ⟨y, ms3, hE, hI'⟩ := hy1 rfl
      refine iteT ⟨_, hE, as1, s3.step m4 e4, fun v H5 m5 e6 r5 => ?_⟩
      obtain ⟨ds', vs', k1, k2, k3⟩ := m5.is as.length D hget
      have hl5 := hlen m5
      rw [← hl5] at k1
      simp at k1
      subst k1
      refine ⟨vs', k2, by rw [k3.len]; exact Nat.lt_of_le_of_lt hal (Nat.lt_of_lt_of_le c (Nat.le_trans hz (by decide))), m - 1, by omega, by omega, acc ++ [y], ms3, hI', by simp; omega, ?_⟩
      have z := m5.put hget (k3.app (RpA.one r5))
      rw [← hl5, List.set_append_right _ _ (Nat.le_refl _)] at z
      simp at z
      exact ⟨z.1, (e5.trans e6).trans z.2, src.mono (e6.trans z.2) bb⟩
    | false => exact iteF ⟨m - 1, by omega, by omega, acc, msb, hy0 rfl, by omega, m4, e5, bb⟩
  · have e : i = ds.length := by omega
    subst e
    obtain ⟨rfl, rfl⟩ := id acc ms' hI
    exact .inl ⟨src.stop m' hB' (Nat.le_refl _), k D H' hDH m' e'⟩
theorem pts_self : Blk X scope (fun Y => PTs Y ifs (fun σ H Q => ∃ t, Blk X scope (fun Y => PTs Y ifs t) ∧ t σ H Q)) := fun s H C cl fp => ⟨fun p s' σ H' Q I ⟨t, h, q⟩ => (h s H C cl fp).run p s' σ H' Q I q⟩
theorem pe_self : Blk X scope (fun Y => PE Y e (fun σ H Q => ∃ t, Blk X scope (fun Y => PE Y e t) ∧ t σ H Q)) := fun s H C cl fp => ⟨fun p s' σ H' Q I ⟨t, h, q⟩ => (h s H C cl fp).run p s' σ H' Q I q⟩
def TgB (X : Cx) (scope : Scope) (tg : Expr) (vs : List Nat) (B : Dt → Es → Es → Prop) : Prop := ∃ g, Blk X scope (fun Y => PG Y tg g) ∧ TgL X.K g vs B
theorem n_lc {B : Dt → Es → Es → Prop} (hc : X.calm = true) (nd : X.N.Nodup) (hi : PI X tg iter (iD X.K es ms ds ms1)) (ok : BlkOk X.N X.env.scope scope own) (hz : ds.length ≤ 100000) (ht : TgB X scope tg (own.map (·.2)) B)
    (h : LcH X scope tg elt ifs (own.map (·.2)) (wipeE es (own.map (·.2))) ms1 ds res ms2 B) (hs : ∀ x, foldedSetIterable iter X.env x = pure x := by intro _; rfl) : PE X (.ListComp elt [⟨tg, iter, ifs, 0⟩] scope pos) (tN X.K es ms res ms2) := by
  obtain ⟨g, hg, q⟩ := ht
  exact pe_w (pe_lc (own := own) hc nd hi ok hg pts_self pe_self hs) (lc_read hz q h)
/-- x = [.. for ..] -/
theorem s_asgLc {B : Dt → Es → Es → Prop} {y : Str} {py spos : Pos} (hc : X.calm = true) (hN : X.N = N) (nd : N.Nodup) (hi : PI X tg iter (iD X.K es ms ds ms1)) (ok : BlkOk X.N X.env.scope scope own) (hz : ds.length ≤ 100000) (ht : TgB X scope tg (own.map (·.2)) B)
    (h : LcH X scope tg elt ifs (own.map (·.2)) (wipeE es (own.map (·.2))) ms1 ds res ms2 B) (hput : Put N es y (.d (.lst res)) es1) (kk : PSs X rest (tS X.K n W es1 ms2 P)) (hyl : X.env.scope.names.lookup y = some .local)
    (hsw : swapsWith (.ListComp elt [⟨tg, iter, ifs, 0⟩] scope pos) (some (.Name y py)) spos.line X.env = pure true) (hs : ∀ x, foldedSetIterable iter X.env x = pure x := by intro _; rfl) :
    PSs X (.Assign [.Name y py] (.ListComp elt [⟨tg, iter, ifs, 0⟩] scope pos) spos :: rest) (tS X.K n W es ms P) := by
  obtain ⟨g, hg, q⟩ := ht
  obtain ⟨i, h1, h2⟩ := hput.ix
  refine s_cons (P' := fun o => o = .nx es1 ms2) (ps_setLc (i := i) (own := own) hc (hN ▸ nd) (by rw [hN]; exact h1) hyl hsw hi ok hg pts_self pe_self hs) (fun D σ H as s l kk => ?_) (fun o ho => by subst ho; exact kk)
  exact lc_read hz q h σ H _ ⟨as, s, fun p H1 hp m1 e1 => kk _ rfl as H1 (Stp.of l (e1.trans m1.back.2.2)) _ ((s.step m1.back.1 (e1.trans m1.back.2.2)).put (sv := .d (.lst res)) m1.back.2.1 h2)⟩
/-! ### the targets of comprehensions -/
theorem tb_name {x : Str} {i : Nat} (hN : X.N = N) (nd : N.Nodup) (hi : N[i]? = some x) (hl : Blk X scope fun Y => Loc Y.env.scope x) (hf : Blk X scope fun Y => Y.fn x = true ∨ Y.env.scope.names.lookup x = some .local) : TgB X scope (.Name x pos) [i] (B1 N x) := by
  refine ⟨gName i, fun s H C cl fp => pg_name (X := X.blk s H scope (compEnvC scope cl C X.env) fp) (show X.N.Nodup from hN ▸ nd) (show X.N[i]? = some x by rw [hN]; exact hi) (hl s H C cl fp) (hf s H C cl fp), fun as es ms σ H v d es' Q s r hb k => ?_⟩
  obtain ⟨j, h1, h2⟩ := hb.ix
  have : i = j := nodup_ix nd hi h1
  subst this
  exact k _ (s.put (sv := .d d) r h2) (wipe_set (List.mem_singleton.mpr rfl))
theorem tb_two {x y : Str} {i j : Nat} {p1 p2 : Pos} {kk : Nat} (hN : X.N = N) (nd : N.Nodup) (hi : N[i]? = some x) (hj : N[j]? = some y) (hc : X.calm = true) (hl : Blk X scope fun Y => Loc Y.env.scope x) (hf : Blk X scope fun Y => Y.fn x = true ∨ Y.env.scope.names.lookup x = some .local)
    (hl2 : Blk X scope fun Y => Loc Y.env.scope y) (hf2 : Blk X scope fun Y => Y.fn y = true ∨ Y.env.scope.names.lookup y = some .local)
    (h1 : Blk X scope fun Y => (assignEach [.Name x p1, .Name y p2] Y.env).length = 2) (h2 : Blk X scope fun Y => (assignEach [.Name x p1, .Name y p2] Y.env).findIdx? (·.1) = none)
    (h3 : Blk X scope fun Y => (assignEach [.Name x p1, .Name y p2] Y.env).map (·.2) = assign (.Name x p1) Y.env :: (assignEach [.Name y p2] Y.env).map (·.2)) (h4 : Blk X scope fun Y => (assignEach [.Name y p2] Y.env).map (·.2) = assign (.Name y p2) Y.env :: (assignEach [] Y.env).map (·.2)) :
    TgB X scope (.Tuple [.Name x p1, .Name y p2] kk pos) [i, j] (B2 N x y) := by
  have nd' : X.N.Nodup := hN ▸ nd
  have hi' : X.N[i]? = some x := by rw [hN]; exact hi
  have hj' : X.N[j]? = some y := by rw [hN]; exact hj
  refine ⟨gTup X.K 2 (gCons (gName i) (gCons (gName j) gNil)), fun s H C cl fp => pg_tup (X := X.blk s H scope (compEnvC scope cl C X.env) fp) (n := 2) hc (pgs_cons (pg_name (i := i) nd' hi' (hl s H C cl fp) (hf s H C cl fp)) (pgs_cons (pg_name (i := j) nd' hj' (hl2 s H C cl fp) (hf2 s H C cl fp)) pgs_nil (h4 s H C cl fp)) (h3 s H C cl fp)) (h1 s H C cl fp) (h2 s H C cl fp), fun as es ms σ H v d es' Q s r hb k => ?_⟩
  obtain ⟨d1, d2, e1, rfl, b1, b2⟩ := hb
  cases r with | tup hs hx =>
    cases hx with | cons r1 hx => cases hx with | cons r2 hx =>
      cases hx
      obtain ⟨i', g1, g2⟩ := b1.ix
      obtain ⟨j', g3, g4⟩ := b2.ix
      have ei : i = i' := nodup_ix nd hi g1
      have ej : j = j' := nodup_ix nd hj g3
      subst ei
      subst ej
      refine ⟨_, _, rfl, sqT_same hid_sub hs, rfl, _, _, rfl, _, _, rfl, rfl, k _ ((s.put (sv := .d d1) r1 g2).put (sv := .d d2) r2 g4) ?_⟩
      rw [wipe_set (by simp), wipe_set (by simp)]
end
end Dv
/-! # Dv5: small things for the walk -/
namespace Dv
open PySem PySem.Spec L2
theorem atI0 {α : Type} {a : α} {l : List α} : L2.atI (a :: l) 0 = some a := atI_nat (j := 0) rfl
theorem atI1 {α : Type} {a b : α} {l : List α} : L2.atI (a :: b :: l) 1 = some b := atI_nat (j := 1) rfl
theorem atI2 {α : Type} {a b c : α} {l : List α} : L2.atI (a :: b :: c :: l) 2 = some c := atI_nat (j := 2) rfl
theorem atI3 {α : Type} {a b c d : α} {l : List α} : L2.atI (a :: b :: c :: d :: l) 3 = some d := atI_nat (j := 3) rfl
theorem atI_map {α : Type} {f : α → Dt} {l : List α} {i : Int} {x : α} (h0 : 0 ≤ i) (h : l[i.toNat]? = some x) : L2.atI (l.map f) i = some (f x) := by
  have e : i = ((i.toNat : Nat) : Int) := by omega
  rw [e]
  exact atI_nat (by rw [List.getElem?_map, h]; rfl)
theorem atI_ge {α : Type} {l : List α} {i : Int} {x : α} (h0 : 0 ≤ i) (h : l[i.toNat]? = some x) : L2.atI l i = some x := by
  have e : i = ((i.toNat : Nat) : Int) := by omega
  rw [e]
  exact atI_nat h
theorem lenL {ds : List Dt} : ∃ cs, ((Dt.lst ds) = .lst cs ∨ (Dt.lst ds) = .tup cs) ∧ cs.length = ds.length := ⟨ds, .inl rfl, rfl⟩
theorem lenT {ds : List Dt} : ∃ cs, ((Dt.tup ds) = .lst cs ∨ (Dt.tup ds) = .tup cs) ∧ cs.length = ds.length := ⟨ds, .inr rfl, rfl⟩
theorem cdivW {i j : Int} (h0 : 0 < j) (h : j.natAbs.log2 < 9000) : CDivW i j := ⟨h0, h⟩
theorem mulS {i j : Int} (h0 : -(2 ^ 64) < i ∧ i < 2 ^ 64) (h : -(2 ^ 64) < j ∧ j < 2 ^ 64) : CMulW i j := wide_mul (a := 64) (b := 64) (by omega) (by omega) (by decide) (by decide) (by decide)
theorem ixL4_0 {a b c d : Dt} : ixN [a, b, c, d].length 0 = some 0 := rfl
theorem ixL4_1 {a b c d : Dt} : ixN [a, b, c, d].length 1 = some 1 := rfl
theorem ixL4_2 {a b c d : Dt} : ixN [a, b, c, d].length 2 = some 2 := rfl
theorem ixL4_3 {a b c d : Dt} : ixN [a, b, c, d].length 3 = some 3 := rfl
theorem ms_set {ms : Ms} {k : Nat} {y z : Option (List Dt)} (h : ms[k]? = some y) : (ms.set k z)[k]? = some z := List.getElem?_set_self (List.getElem?_eq_some_iff.mp h).1
theorem ms_ne {ms : Ms} {k j : Nat} {y : Option (List Dt)} {z : Option (List Dt)} (h : ms[k]? = some y) (hj : j ≠ k) : (ms.set j z)[k]? = some y := by rw [List.getElem?_set_ne hj]; exact h
theorem ms_app {ms ns : Ms} {k : Nat} {y : Option (List Dt)} (h : ms[k]? = some y) : (ms ++ ns)[k]? = some y := by rw [List.getElem?_append_left (List.getElem?_eq_some_iff.mp h).1]; exact h
theorem ms_new {ms : Ms} {y : Option (List Dt)} : (ms ++ [y])[ms.length]? = some y := by simp
theorem ms_new' {ms : Ms} {k : Nat} {x y : Option (List Dt)} : (ms.set k x ++ [y])[ms.length]? = some y := by simp
theorem ms_lt {ms : Ms} {k : Nat} {y : Option (List Dt)} (h : ms[k]? = some y) : k < ms.length := (List.getElem?_eq_some_iff.mp h).1
theorem ms_same {ms : Ms} {k : Nat} {y : Option (List Dt)} (h : ms[k]? = some y) : ms.set k y = ms := by
  apply List.ext_getElem?
  intro i
  by_cases c : k = i
  · subst c
    rw [List.getElem?_set_self (ms_lt h), h]
  · rw [List.getElem?_set_ne c]
theorem ms_twice {ms : Ms} {k : Nat} {x y : Option (List Dt)} : (ms.set k x).set k y = ms.set k y := List.set_set ..
section
variable {X : Cx} {n : Nat} {W : WX} {es : Es} {ms ms1 : Ms} {P : Out → Prop} {rest u v : List Stmt} {c : Expr} {pos : Pos} {b : Bool}
def ThenM (M : Es → Ms → Prop) (P : Out → Prop) : Out → Prop
  | .nx es ms => M es ms
  | o => P o
/-- an if, then what holds behind both ways -/
theorem s_ifM (M : Es → Ms → Prop) (hc : PT X c (tBo X.K es ms b ms1)) (h1 : b = true → PSs X u (tS X.K n W es ms1 (ThenM M P))) (h2 : b = false → PSs X v (tS X.K n W es ms1 (ThenM M P))) (h3 : ∀ es' ms', M es' ms' → PSs X rest (tS X.K n W es' ms' P)) :
    PSs X (.If c u v pos :: rest) (tS X.K n W es ms P) := by
  have w : ∀ o, ThenM M P o → Then X n W rest P o := fun o h => by
    cases o with
    | nx es ms => exact h3 es ms h
    | rt d ms => exact h
    | rn d ms => exact h
    | bk es ms => exact h
    | ct es ms => exact h
    | rs x es ms => exact h
  exact s_if hc (fun hb => s_imp w (h1 hb)) (fun hb => s_imp w (h2 hb))
end
end Dv
/-! # Dv6: errors of the package: classes over a class over ArithmeticError, with an __init__ of their own that calls the base's -/
namespace PySem
namespace Exn
open PySem.W PySem.Calls PySem.HandSPX
abbrev amro : List Value := [.type "ArithmeticError", .type "Exception", .type "BaseException", .type "object"]
section
open Builtin Builtin.ObjectAttr
variable {prog : Program} {w : World} {A : Around} {R : Result → Shared → Prop} {hp : Heap} {g : Array GenState} {d : Drawn} {t : Nat} {os : OsState}
/-- the first field of an error -/
theorem osa_new {K : W.Frag} {name : Str} {tk : Tok} {v : Value} {x C : Addr} {fv : Array Value} {cd : ClassData} (X : K.In hp) (hx : hp.get? x = some { cls := .ref C, data := .fields fv })
    (hov : W.excOver K C amro = true) (hcd : W.clsIn K C = some cd) (hh : cd.hasDict = true) (ha : W.findIn K (.ref C) name = some none)
    (hq : ∀ (h' : Heap) (tk' : Nat) (dx : Addr), (∀ b o, b ≠ x → hp.get? b = some o → h'.get? b = some o) → hp.objs.size ≤ dx → dx ≠ x → h'.get? x = some { cls := .ref C, dict := some dx, data := .fields fv } →
      h'.Ns1 dx (fun y => if y = name then some v else none) → R (.ok (.ret .none)) ⟨h', g, d, tk', os⟩) :
    codeAny (model prog w) A (.call (.builtin "object.__setattr__") ⟨[.ref x, .str name tk, v], []⟩) R ⟨hp, g, d, t, os⟩ := by
  have hne : x ≠ hp.objs.size := Nat.ne_of_lt (Heap.lt_size hx)
  have hcls : W.Looks (model prog w) hp (classData C) cd := W.looks_clsIn X hcd
  refine W.osa_openX (r := none) PySem.F.store_ArithmeticError X (od := none) ⟨hx, rfl, rfl, trivial⟩ hov (by unfold W.takerIn; rw [ha]; rfl) fun bb => ?_
  obtain ⟨nm, bs, mro, ns, qn, hd, sn, sb, ab, col, del⟩ := cd
  dsimp only at hh
  subst hh
  dsimp only
  unfold storeInOwnDict
  unfold ownDictForStores
  repeat (first
    | with_reducible refine store_in_new ?_ ?_
    | with_reducible refine wpAny_loadPart_at hx ?_
    | with_reducible refine hcls.at ?_
    | wp_step)
  · refine ⟨_, #[], _, (Heap.get?_update_ne _ _ _ _ hne.symm).trans (Heap.get?_push_at rfl rfl), rfl, ?_, fun _ => rfl⟩
    exact fun e he => absurd he (by simp)
  · intro h' tk' hn' hs
    have h2 : (hp.push { cls := .type "dict", data := .dict #[] }).get? x = some { cls := .ref C, data := .fields fv } := Heap.get?_push_of_some _ hx
    refine hq h' tk' hp.objs.size (fun b o hb ho => ?_) (Nat.le_refl _) hne.symm ?_ hn'
    · refine (hs.2 b (Nat.ne_of_lt (Heap.lt_size ho))).trans ?_
      exact (Heap.get?_update_ne _ _ _ _ hb).trans (Heap.get?_push_of_some _ ho)
    · exact (hs.2 x hne).trans (Heap.get?_update_self _ h2 rfl)
/-- a further field -/
theorem osa_more {K : W.Frag} {name : Str} {tk : Tok} {v : Value} {x C dx : Addr} {fv : Array Value} {cd : ClassData} {m0 : Str → Option Value} {nl : List Str} (X : K.In hp) (hx : hp.get? x = some { cls := .ref C, dict := some dx, data := .fields fv })
    (hns : hp.Ns1 dx m0) (hw : Within m0 nl) (hz : nl.length ≤ 1000) (hov : W.excOver K C amro = true) (hcd : W.clsIn K C = some cd) (hh : cd.hasDict = true) (ha : W.findIn K (.ref C) name = some none)
    (hq : ∀ (h' : Heap) (tk' : Nat), (∀ b o, b ≠ dx → hp.get? b = some o → h'.get? b = some o) → h'.Ns1 dx (fun y => if y = name then some v else m0 y) → R (.ok (.ret .none)) ⟨h', g, d, tk', os⟩) :
    codeAny (model prog w) A (.call (.builtin "object.__setattr__") ⟨[.ref x, .str name tk, v], []⟩) R ⟨hp, g, d, t, os⟩ := by
  obtain ⟨oD, esD, epD, hoD, hdD, _⟩ := hns.count hw
  have hcls : W.Looks (model prog w) hp (classData C) cd := W.looks_clsIn X hcd
  refine W.osa_openX (r := none) PySem.F.store_ArithmeticError X (od := some oD) ⟨hx, rfl, rfl, hoD⟩ hov (by unfold W.takerIn; rw [ha]; rfl) fun bb => ?_
  obtain ⟨nm, bs, mro, ns, qn, hd, sn, sb, ab, col, del⟩ := cd
  dsimp only at hh
  subst hh
  dsimp only
  unfold storeInOwnDict
  unfold ownDictForStores
  repeat (first
    | with_reducible refine PySem.OEX.store_in_old hns hw hz ?_
    | with_reducible refine wpAny_loadPart_at hx ?_
    | with_reducible refine hcls.at ?_
    | wp_step)
  intro h' tk' hn' hs
  exact hq h' tk' (fun b o hb ho => (hs.2 b hb).trans ho) hn'
end
end Exn
end PySem
namespace L2
open PySem PySem.Spec
/-- what the written part says of an error's class -/
structure ExnC (K : PySem.W.Frag) (C : Addr) : Prop where
  cls : ∃ nm q N bs bm sn sub ab col dd k0 k1 k2 k3 k5, K.lookup C = some (excClassObj nm q C N bs bm true sn sub ab col dd k0 k1 k2 k3 k5 "ArithmeticError.__new__") ∧ PySem.W.excTail PySem.Exn.amro bm = true
  sa : PySem.W.findIn K (.ref C) "__setattr__" = some (some (.builtin "object.__setattr__"))
  exC : PySem.W.subIn K (.ref C) (.type "BaseException") = some true
  tyC : PySem.W.typeIn K (.ref C) = some (.type "type")
  kC : PySem.W.keepIn K (.ref C) = true
theorem ExnC.data {K : PySem.W.Frag} {C : Addr} (T : ExnC K C) : ∃ cd, PySem.W.clsIn K C = some cd ∧ cd.hasDict = true ∧ PySem.W.excOver K C PySem.Exn.amro = true := by
  obtain ⟨nm, q, N, bs, bm, sn, sub, ab, col, dd, k0, k1, k2, k3, k5, hC, hbm⟩ := T.cls
  have e : PySem.W.clsIn K C = some { name := nm, bases := bs, mro := .ref C :: bm, ns := N, qualname := q, hasDict := true, slotNames := sn, subclasses := sub, abstract := ab, collection := col, hasDel := false } := by
    unfold PySem.W.clsIn
    rw [hC]
  refine ⟨_, e, rfl, ?_⟩
  unfold PySem.W.excOver
  rw [e]
  show (C == C && PySem.W.excTail PySem.Exn.amro bm) = true
  rw [hbm]
  simp only [beq_self_eq_true, Bool.and_self]
section
variable {X : Cx} {pins : List (Addr × Obj)} {σ : St} {H : Hp} {s : Shared} {a C dx : Addr} {f : Str} {y : V} {u : Value} {fs : List (Str × V)} {Q : Unit → Shared → Prop} {E : Value → Shared → Prop} {A : Around}
theorem exn_new (T : ExnC X.K C) (I : Inv X pins σ H s) (e : H a = some (exo a C none)) (hno : PySem.W.findIn X.K (.ref C) f = some none) (ry : RelV y u)
    (h : ∀ dx s', H dx = none → dx ≠ a → Inv X pins σ (upd (upd H dx (exd dx [(f, y)])) a (exo a C (some dx))) s' → Q () s') : wpAny (model X.prog X.w) A (setAttr (.ref a) f u) Q E s := by
  obtain ⟨cd, hcd, hh, hov⟩ := T.data
  obtain ⟨t1, ho⟩ := exo_at I.hok e
  obtain ⟨hp, g, d, t, os⟩ := s
  refine PySem.W.set_plain I.kIn (od := none) (ox := { cls := .ref C, dict := none, data := .fields #[.ref t1, .none, .none, .none, .bool false, .none] }) ⟨ho, rfl, rfl, trivial⟩ T.sa ?_
  refine PySem.Exn.osa_new I.kIn ho hov hcd hh hno fun h' tk' dx k dn dne hx hn => ?_
  have hnd : H dx = none := I.hok.fresh dn
  have nd : ∀ {b : Addr} {o : Obj}, hp.get? b = some o → b ≠ dx := fun {b o} q z => by
    subst z
    exact absurd (Heap.lt_size q) (Nat.not_lt.mpr dn)
  have na : ∀ {b : Addr}, H b = none → b ≠ a := fun {b} n z => by
    subst z
    rw [e] at n
    exact nomatch n
  refine h dx _ hnd dne (I.un (t' := tk') ?un fun b o q => ?_)
  case un => exact {
    keep := fun b o q n _ _ => k b o (na n) q
    slot := fun b o q n _ _ => ⟨o.slots, k b o (na n) q⟩
    free := fun b o q n _ => by
      rw [upd_ne (na n), upd_ne (nd q)]
      exact n
    there := fun b o q _ => by
      by_cases c : b = a
      · exact ⟨_, c ▸ hx⟩
      · exact ⟨o, k b o c q⟩
    tups := fun b xs q => by
      rw [upd_ne (at_ne e q exo_tup), upd_ne (ne_of_none q hnd)]
      exact q
    frzs := fun b o v q => by
      rw [upd_ne (at_ne e q exo_frz), upd_ne (ne_of_none q hnd)]
      exact q
    tbls := fun b ps q => ⟨#[], by
      rw [upd_ne (at_ne e q exo_tbl), upd_ne (ne_of_none q hnd), q]
      simp⟩ }
  by_cases c : b = a
  · subst c
    rw [upd_same] at q
    cases q
    exact exo_ok hx
  · rw [upd_ne c] at q
    by_cases c2 : b = dx
    · subst c2
      rw [upd_same] at q
      cases q
      exact exd_ok hn (relO_put (fs := []) ry fun g => True.intro)
    · rw [upd_ne c2] at q
      refine (I.hok b o q).stay (fun z v hz r => k z v ?_ r) (fun z hz => ?_) (fun z xs hz => ?_)
      · rcases hz with hz | hz
        · exact hz ▸ c
        · exact at_ne e hz exo_own
      · rw [upd_ne (at_ne e hz exo_own), upd_ne (ne_of_none hz hnd)]
        exact hz
      · rw [upd_ne (at_ne e hz exo_tup), upd_ne (ne_of_none hz hnd)]
        exact hz
theorem exn_more (T : ExnC X.K C) (I : Inv X pins σ H s) (e : H a = some (exo a C (some dx))) (ed : H dx = some (exd dx fs)) (hl : fs.length ≤ 900) (hno : PySem.W.findIn X.K (.ref C) f = some none) (ry : RelV y u)
    (h : ∀ s', Inv X pins σ (upd H dx (exd dx ((f, y) :: fs))) s' → Q () s') : wpAny (model X.prog X.w) A (setAttr (.ref a) f u) Q E s := by
  obtain ⟨cd, hcd, hh, hov⟩ := T.data
  obtain ⟨t1, ho⟩ := exo_at I.hok e
  obtain ⟨mA, hns, rel⟩ := exd_at I.hok ed
  have hw := within_of rel
  obtain ⟨hp, g, d, t, os⟩ := s
  obtain ⟨oD, _, _, hoD, _, _⟩ := hns.count hw
  refine PySem.W.set_plain I.kIn (od := some oD) (ox := { cls := .ref C, dict := some dx, data := .fields #[.ref t1, .none, .none, .none, .bool false, .none] }) ⟨ho, rfl, rfl, hoD⟩ T.sa ?_
  refine PySem.Exn.osa_more I.kIn ho hns hw (by rw [List.length_map]; omega) hov hcd hh hno fun h' tk' k hn => ?_
  have hd : ∃ o, h'.get? dx = some o := by
    obtain ⟨o, _, _, e', _⟩ := hn
    exact ⟨o, e'⟩
  exact h _ (I.write (t' := tk') (x := dx) (e := dx) (o := exd dx ((f, y) :: fs)) (by rw [ed]; exact True.intro) (.inl rfl) k hd (exd_ok hn (relO_put ry rel)))
/-- the base's __init__: nothing of it is told -/
theorem exn_base {us : List Value} {Q : Value → Shared → Prop} (T : ExnC X.K C) (I : Inv X pins σ H s) (e : H a = some (exo a C none)) (hl : us.length ≤ sizeLine) (h : ∀ s', Inv X pins σ H s' → Q .none s') :
    wpAny (model X.prog X.w) A (call (.builtin "ArithmeticError.__init__") (.ref a :: us)) Q E s := by
  obtain ⟨nm, q, N, bs, bm, sn, sub, ab, col, dd, k0, k1, k2, k3, k5, hC, hbm⟩ := T.cls
  obtain ⟨t1, ho⟩ := exo_at I.hok e
  obtain ⟨hp, g, d, t, os⟩ := s
  refine wpAny_call (PySem.HandSPX.init_base PySem.F.excBase_ArithmeticError (fun Y => PySem.W.excTail_contains Y bm hbm) (I.kIn _ _ hC) ho hl fun h' t2 k hx => ?_)
  have J := I.write (t' := t) (x := a) (e := a) (o := exo a C none) (by rw [e]; exact True.intro) (.inl rfl) k ⟨_, hx⟩ (exo_ok hx)
  have eu : upd H a (exo a C none) = H := by
    funext b
    by_cases c : b = a
    · rw [c, upd_same, e]
    · exact upd_ne c
  exact h _ (eu ▸ J)
end
/-- B.__init__(self, ..), B an own class over ArithmeticError without an __init__ -/
def tBase (K : PySem.W.Frag) (ta : TA) : TE := fun σ H Q => ta σ H fun vs H1 => ∃ (a C : Addr) (ws : List V), vs = .ref a :: ws ∧ ws.length ≤ 1000 ∧ ExnC K C ∧ H1 a = some (exo a C none) ∧ Q .non H1
def tSto (K : PySem.W.Frag) (f : Str) (to te : TE) : TS := fun D σ H => te σ H fun y H1 => to σ H1 fun x H2 => ∃ a C : Addr, x = .ref a ∧ ExnC K C ∧ PySem.W.findIn K (.ref C) f = some none ∧
  ((H2 a = some (exo a C none) ∧ ∀ dx, H2 dx = none → dx ≠ a → D.nx σ (upd (upd H2 dx (exd dx [(f, y)])) a (exo a C (some dx)))) ∨
    ∃ (dx : Addr) (fs : List (Str × V)), H2 a = some (exo a C (some dx)) ∧ H2 dx = some (exd dx fs) ∧ fs.length ≤ 900 ∧ D.nx σ (upd H2 dx (exd dx ((f, y) :: fs))))
def tMkE (C : Addr) (sp : Sp) (ta : TA) : St → Hp → XK → Prop := fun σ H Q => ta σ H fun vs H1 => vs.length ≤ 1000 ∧ ∀ a, H1 a = none → sp (.ref a :: vs) (upd H1 a (exo a C none))
  (fun v H2 => v = .non ∧ ∃ (d : Addr) (fs : List (Str × V)), H2 a = some (exo a C (some d)) ∧ H2 d = some (exd d fs) ∧ H1 d = none ∧ Q (.ref C) (some d) (upd (del H2 a) d (.xd fs))) (fun _ _ _ => False)
section
variable {X : Cx} {o e : Expr} {es : List Expr} {to te : TE} {ta : TA} {f : Str} {p p' p1 p2 pos : Pos} {bn : Str} {CB : Addr}
theorem pe_base {pl : Sem Bool} (hg : Gl X bn) (hm : X.mg bn = some (.ref CB)) (hga : PySem.W.specialIn X.K (.ref CB) "__getattribute__" = some (some (.builtin "type.__getattribute__"))) (hrd : PySem.W.readsIn X.K CB (.type "type") = true)
    (hfc : PySem.W.findCls X.K (.ref CB) (.type "type") "__init__" = some (.val (.builtin "ArithmeticError.__init__"))) (ha : PA X (e :: es) ta) (hdb : (bn == ("__debug__" : Str)) = false := by decide)
    (hc : eval (.Call (.Attribute (.Name bn p1) "__init__" p2) (e :: es) [] pos) X.env = (do
      let ov ← eval (.Name bn p1) X.env
      standAt p2.atName
      let (f, first) ← holding [ov] (getMethod ov "__init__" pl)
      callWith pos f first (backTo pos (starEach (e :: es) X.env)) (backToKw pos (keywordEach [] X.env))) := by rfl)
    (he : starEach (e :: es) X.env = (false, eval e X.env) :: starEach es X.env := by rfl) (hpl : (backTo pos (starEach es X.env)).any (·.1) = false := by rfl) :
    PE X (.Call (.Attribute (.Name bn p1) "__init__" p2) (e :: es) [] pos) (tBase X.K ta) := by
  refine ⟨fun pins s σ H Q I h => ?_⟩
  refine PySem.W.methodCall_KW (ld_glob I hg hm ?_ hdb) hc
  refine PySem.W.method_cls (PySem.W.Frag.In.keeps I.kIn fun _ _ z => z) hga ?_
  refine PySem.W.cls_value (mc := .type "type") (PySem.W.Frag.In.keeps I.kIn fun _ _ z => z) hrd hfc (by decide +kernel) ?_
  show wpAny _ _ (callWith pos (Value.builtin "ArithmeticError.__init__") [] (backTo pos (starEach (e :: es) X.env)) []) _ _ _
  refine PyProof.Rows.callWith_method1 (thn (ha.run pos pins _ σ H _ (I.tok _) h) fun us s1 ⟨vs, H1, I1, r1, a, C, ws, ev, hl, T, ea, q⟩ => ?_) he hpl
  subst ev
  cases r1 with
  | @cons _ u0 _ ur ra rw' =>
    obtain rfl : u0 = Value.ref a := ra
    refine exn_base T I1 ea ?_ fun s' J => ⟨.non, H1, J, rfl, q⟩
    rw [← Paired.length rw', sizeLine_eq]
    omega
theorem ps_sto (ho : PE X o to) (he : PE X e te) (hs : swapsWith e (some (.Attribute o f p')) pos.line X.env = pure false := by rfl) : PS X (.Assign [.Attribute o f p'] e pos) (tSto X.K f to te) := by
  refine ⟨fun pins s σ H D I h => ?_⟩
  refine plainObj_wpAny_Assign_Attribute (thn (he.run pins s σ H _ I h) fun v s1 ⟨y, H1, I1, r1, q1⟩ => thn (ho.run pins s1 σ H1 _ I1 q1) fun u s2 ⟨x, H2, I2, r2, a, C, ex, T, hno, q⟩ => ?_) hs
  subst ex
  obtain rfl : u = Value.ref a := r2
  rcases q with ⟨ea, q⟩ | ⟨dx, fs, ea, ed, hl, q⟩
  · refine exn_new T I2 ea hno r1 fun dx s' n ne J => ?_
    exact ⟨σ, _, J, q dx n ne⟩
  · refine exn_more T I2 ea ed hl hno r1 fun s' J => ?_
    exact ⟨σ, _, J, q⟩
theorem pmk_exn {CX : CXT} {x : Str} {C fI : Addr} {k : Nat} {fd : FuncData} {ps : List Str} {sp : Sp} (T : ExnC X.K C) (iC : PySem.W.findIn X.K (.ref C) "__init__" = some (some (.ref fI))) (tI : PySem.W.typeIn X.K (.ref fI) = some (.type "function"))
    (F1 : FnOk X.prog X.w X.K X.mg X.base CX k fI fd ps sp) (hr : Room (k + 1) X.A) (hb : Binds X.K fd ps []) (hx : Passes CX X (fun _ _ _ => False)) (hg : Gl X x) (hm : X.mg x = some (.ref C)) (ha : PA X (e :: es) ta)
    (hdb : (x == ("__debug__" : Str)) = false := by decide) (he : starEach (e :: es) X.env = (false, eval e X.env) :: starEach es X.env := by rfl) (hpl : (backTo pos (starEach es X.env)).any (·.1) = false := by rfl) :
    PMk X (.Call (.Name x p) (e :: es) [] pos) (tMkE C sp ta) := by
  intro pins s σ H Q I h
  obtain ⟨nm, q, N, bs, bm, sn, sub, ab, col, dd, k0, k1, k2, k3, k5, hC, hbm⟩ := T.cls
  refine wpAny_Call_Name_kw (ld_glob I hg hm ?_ hdb)
  refine PySem.W.callWith_K (h₀ := X.base) I.ok.mod.kin T.kC (thn (ha.run pos pins s σ H _ I h) fun us s1 ⟨vs, H1, I1, r1, hz, q1⟩ => ⟨I1.kIn, ?_⟩) he hpl
  show wpAny _ _ (call (.ref C) us) _ _ _
  obtain ⟨hp, g, dr, tk, os⟩ := s1
  have hsz : hp.objs.size ≤ hp.objs.size + 1 := Nat.le_succ _
  have hq := q1 (hp.objs.size + 1) (I1.hok.fresh hsz)
  have up : ∀ b o, hp.get? b = some o → ((hp.push (PySem.W.kdv_tup us)).push (PySem.HandSPX.excO C hp.objs.size)).get? b = some o := fun b o e => Heap.get?_push_of_some _ (Heap.get?_push_of_some _ e)
  have new : ((hp.push (PySem.W.kdv_tup us)).push (PySem.HandSPX.excO C hp.objs.size)).get? (hp.objs.size + 1) = some (PySem.HandSPX.excO C hp.objs.size) := by heap_get
  have I2 : Inv X pins σ (upd H1 (hp.objs.size + 1) (exo (hp.objs.size + 1) C none)) ⟨(hp.push (PySem.W.kdv_tup us)).push (PySem.HandSPX.excO C hp.objs.size), g, dr, tk, os⟩ :=
    I1.laid (t' := tk) (a := hp.objs.size + 1) (o := exo (hp.objs.size + 1) C none) up hsz (exo_ok new)
  have r2 : Vals (V.ref (hp.objs.size + 1) :: vs) (Value.ref (hp.objs.size + 1) :: us) := .cons rfl r1
  have hl : (Value.ref (hp.objs.size + 1) :: us).length = ps.length := by
    rw [← r2.length]
    exact F1.len _ _ _ _ hq
  have hus : us.length ≤ sizeLine := by
    rw [← Paired.length r1, sizeLine_eq]
    omega
  have bnd := hb ⟨(hp.push (PySem.W.kdv_tup us)).push (PySem.HandSPX.excO C hp.objs.size), g, dr, tk, os⟩ (Value.ref (hp.objs.size + 1) :: us) I2.kIn (by rw [List.append_nil]; exact hl)
  rw [List.append_nil] at bnd
  refine wpAny_call (PySem.HandSPX.call_own PySem.F.excBase_ArithmeticError (fun Y => PySem.W.excTail_contains Y bm hbm) (I1.kIn _ _ hC) (PySem.W.looks_findIn I1.kIn iC) (fun self => PySem.W.bind_fn I1.kIn self tI) hus ?_)
  refine codeAny_mono (F1.run _ X.stack _ _ ⟨Value.ref (hp.objs.size + 1) :: us, []⟩ (Value.ref (hp.objs.size + 1) :: us) _ _ (fun _ _ _ => False) (hr.make C us []) (I2.env0.make C us []) bnd r2 hq) fun r s' hq' => ?_
  cases r with
  | error er => exact hx pins σ _ _ er s' I2 hq'
  | ok fl =>
    cases fl with
    | ret u =>
      obtain ⟨v, H2, os2, bare2, un2, hok2, rv, ev, d, fs, ea, ed, hd1, q2⟩ := hq'
      subst ev
      obtain ⟨h2, g2, d2, t2, os'⟩ := s'
      exact ⟨rv, mk_end (raises_own T.exC T.tyC) I1 hsz up un2 hok2 os2 bare2 ea ed hd1 q2⟩
    | next => exact False.elim hq'
    | brk => exact False.elim hq'
    | cont => exact False.elim hq'
end
end L2
/-! # Dv7: raise, try; calls by a package of facts; isinstance by the datum -/
namespace Dv
open PySem PySem.Spec L2
theorem MsR.ext {K : PySem.W.Frag} {as : As} {ms : Ms} {H H' : Hp} (m : MsR K as ms H) (e : Same H H') : MsR K as ms H' ∧ Same (hid as H) (hid as H') := by
  have q : Same (hid as H) (hid as H') := fun a o h => hid_to (e _ _ (hid_of h).1) (hid_of h).2
  refine ⟨⟨m.len, m.uniq, fun i a hi => ?_⟩, q⟩
  obtain ⟨ds, vs, h1, h2, h3⟩ := m.is i a hi
  exact ⟨ds, vs, h1, e _ _ h2, h3.mono q⟩
theorem RpF.zip {K : PySem.W.Frag} {H : Hp} : ∀ {fs : List Str} {vs : List V} {ds : List Dt}, RpA K H vs ds → RpF K H (fs.zip vs) (fs.zip ds)
  | [], _, _, _ => by simp; exact .nil
  | _ :: _, _, _, .nil => by simp; exact .nil
  | f :: fs, _, _, .cons h r => .cons h (RpF.zip r)
theorem RpF.app {K : PySem.W.Frag} {H : Hp} : ∀ {fs gs : List (Str × V)} {cs ds : List (Str × Dt)}, RpF K H fs cs → RpF K H gs ds → RpF K H (fs ++ gs) (cs ++ ds)
  | _, _, _, _, .nil, s => s
  | _, _, _, _, .cons h r, s => .cons h (RpF.app r s)
theorem RpF.rev {K : PySem.W.Frag} {H : Hp} : ∀ {fs : List (Str × V)} {ds : List (Str × Dt)}, RpF K H fs ds → RpF K H fs.reverse ds.reverse
  | _, _, .nil => .nil
  | _, _, .cons h r => by
    rw [List.reverse_cons, List.reverse_cons]
    exact RpF.app (RpF.rev r) (.cons h .nil)
theorem RpF.look {K : PySem.W.Frag} {H : Hp} {f : Str} {d : Dt} : ∀ {fs : List (Str × V)} {ds : List (Str × Dt)}, RpF K H fs ds → ds.lookup f = some d → ∃ v, fs.lookup f = some v ∧ Rp K H v d
  | _, _, .nil, h => by simp at h
  | _, _, .cons (f := g) (v := v) h r, e => by
    rw [List.lookup_cons] at e
    rw [List.lookup_cons]
    split at e
    · cases e
      exact ⟨v, rfl, h⟩
    · exact RpF.look r e
/-- what the __init__ of an error promises: its fields are its arguments -/
def spInit (C : Addr) (fs : List Str) (ok : List V → Prop) : Sp := fun vs H Q _ => ∃ a xs, vs = .ref a :: xs ∧ xs.length = fs.length ∧ ok xs ∧ H a = some (exo a C none) ∧
  ∀ d H', H d = none → d ≠ a → H' a = some (exo a C (some d)) → H' d = some (exd d (fs.zip xs).reverse) → (∀ b : Addr, b ≠ a → b ≠ d → H' b = H b) → Q .non H'
/-- the facts of an error's class -/
structure Err (P : Program) (w : World) (K : PySem.W.Frag) (mg : Str → Option Value) (base : Heap) (nm : Str) (C : Addr) (fs : List Str) (ok : List V → Prop) : Prop where
  T : ExnC K C
  init : ∃ fI fd ps, PySem.W.findIn K (.ref C) "__init__" = some (some (.ref fI)) ∧ PySem.W.typeIn K (.ref fI) = some (.type "function") ∧ FnOk P w K mg base (L2.CX P w) 2 fI fd ps (spInit C fs ok) ∧ Binds K fd ps []
  mg : mg nm = some (.ref C)
/-- the facts of a def -/
structure Callee (P : Program) (w : World) (K : PySem.W.Frag) (mg : Str → Option Value) (base : Heap) (nm : Str) (k : Nat) (S : Pre) : Prop where
  ok : ∃ f fd ps, FnOk P w K mg base (L2.CX P w) k f fd ps (Pr K S) ∧ mg nm = some (.ref f) ∧ PySem.W.keepIn K (.ref f) = true ∧ Binds K fd ps []
section
variable {X : Cx} {n k : Nat} {W : WX} {es es1 es2 : Es} {ms ms1 ms2 ms3 : Ms} {P P' : Out → Prop} {rest body suite l : List Stmt} {e a b c : Expr} {es0 : List Expr} {p pos : Pos} {N : List Str} {x0 : Str} {x : Xc} {C : Addr} {fs : List Str} {ok : List V → Prop}
variable {PP : Program} {w : World} {K : PySem.W.Frag} {mg : Str → Option Value} {base : Heap}
theorem passNone : Passes (L2.CX X.prog X.w) X (fun _ _ _ => False) := passL
theorem s_raise {ds : List Dt} (tk : Takes X W) (T : Err PP w K mg base x0 C fs ok) (hX : PP = X.prog ∧ w = X.w ∧ K = X.K ∧ mg = X.mg ∧ base = X.base) (hr : Room 3 X.A) (hc : X.calm = true) (hg : Gl X x0) (ha : PA X (e :: es0) (tAr X.K es ms (ds.map Sv.d) ms1)) (hl : ds.length = fs.length) (hz : ds.length ≤ 1000)
    (hok : ∀ H vs, RpA X.K H vs ds → ok vs) (kk : P (.rs ⟨C, (fs.zip ds).reverse⟩ es ms1)) (hdb : (x0 == ("__debug__" : Str)) = false := by decide)
    (he : starEach (e :: es0) X.env = (false, eval e X.env) :: starEach es0 X.env := by rfl) (hpl : (backTo p (starEach es0 X.env)).any (·.1) = false := by rfl) {p0 : Pos} :
    PSs X (.Raise (some (.Call (.Name x0 p0) (e :: es0) [] p)) none pos :: rest) (tS X.K n W es ms P) := by
  obtain ⟨rfl, rfl, rfl, rfl, rfl⟩ := hX
  obtain ⟨T, ⟨fI, fd, ps, h1, h2, h3, h4⟩, hm⟩ := T
  refine s_cons (P' := fun o => o = .rs ⟨C, (fs.zip ds).reverse⟩ es ms1) (ps_raise hc tk (pmk_exn T h1 h2 h3 hr h4 passNone hg hm ha hdb he hpl)) (fun D σ H as s l kk => ?_) (fun o ho => by subst ho; exact kk)
  refine ⟨as, s, fun vs H1 m1 e1 r1 => ⟨by rw [r1.len, List.length_map]; exact hz, fun a ha => ⟨a, vs, rfl, by rw [r1.len, List.length_map, hl], hok _ _ r1.data, upd_same, fun d H' hd hda g1 g2 g3 => ?_⟩⟩⟩
  have hd1 : H1 d = none := by rw [upd_ne hda] at hd; exact hd
  refine ⟨rfl, d, _, g1, g2, hd1, ?_⟩
  have sm : Same H1 (upd (del H' a) d (.xd (fs.zip vs).reverse)) := fun b o hb => by
    have b1 : b ≠ d := ne_of_none hb hd1
    have b2 : b ≠ a := ne_of_none hb ha
    rw [upd_ne b1, del_ne b2, g3 b b2 b1, upd_ne b2]
    exact hb
  have z := m1.ext sm
  have nd : some d ∉ as := m1.fresh hd1
  exact kk _ rfl as _ (Stp.of l (e1.trans z.2)) σ _ _ (s.step z.1 (e1.trans z.2)) ⟨rfl, d, _, rfl, hid_to upd_same nd, RpF.rev (RpF.zip (r1.data.mono z.2))⟩
theorem d_fn {S : Pre} {ss : List Sv} {d : Dt} {k' : Nat} (G : Callee PP w K mg base x0 k S) (hX : PP = X.prog ∧ w = X.w ∧ K = X.K ∧ mg = X.mg ∧ base = X.base) (hr : Room k' X.A) (hk : k ≤ k') (hg : Gl X x0)
    (ha : PA X (e :: es0) (tAr X.K es ms ss ms1)) (hS : S ss ms1 (fun o => o = .ret d ms2)) (hdb : (x0 == ("__debug__" : Str)) = false := by decide) (he : starEach (e :: es0) X.env = (false, eval e X.env) :: starEach es0 X.env := by rfl) (hpl : (backTo pos (starEach es0 X.env)).any (·.1) = false := by rfl) :
    PE X (.Call (.Name x0 p) (e :: es0) [] pos) (tD X.K es ms (.d d) ms2) := by
  obtain ⟨rfl, rfl, rfl, rfl, rfl⟩ := hX
  obtain ⟨f, fd, ps, h1, h2, h3, h4⟩ := G.ok
  exact d_call h1 (hr.mono hk) hg h2 h3 h4 ha hS hdb he hpl
theorem n_fn {S : Pre} {ss : List Sv} {ds : List Dt} {k' : Nat} (G : Callee PP w K mg base x0 k S) (hX : PP = X.prog ∧ w = X.w ∧ K = X.K ∧ mg = X.mg ∧ base = X.base) (hr : Room k' X.A) (hk : k ≤ k') (hg : Gl X x0)
    (ha : PA X (e :: es0) (tAr X.K es ms ss ms1)) (hS : S ss ms1 (fun o => o = .nw ds ms2)) (hdb : (x0 == ("__debug__" : Str)) = false := by decide) (he : starEach (e :: es0) X.env = (false, eval e X.env) :: starEach es0 X.env := by rfl) (hpl : (backTo pos (starEach es0 X.env)).any (·.1) = false := by rfl) :
    PE X (.Call (.Name x0 p) (e :: es0) [] pos) (tN X.K es ms ds ms2) := by
  obtain ⟨rfl, rfl, rfl, rfl, rfl⟩ := hX
  obtain ⟨f, fd, ps, h1, h2, h3, h4⟩ := G.ok
  exact n_call h1 (hr.mono hk) hg h2 h3 h4 ha hS hdb he hpl
theorem d_fnX {S : Pre} {ss : List Sv} {k' : Nat} (tk : Takes X W) (G : Callee PP w K mg base x0 k S) (hX : PP = X.prog ∧ w = X.w ∧ K = X.K ∧ mg = X.mg ∧ base = X.base) (hr : Room k' X.A) (hk : k ≤ k') (hg : Gl X x0)
    (ha : PA X (e :: es0) (tAr X.K es ms ss ms1)) (hS : S ss ms1 (fun o => o = .exc x ms2)) (hdb : (x0 == ("__debug__" : Str)) = false := by decide) (he : starEach (e :: es0) X.env = (false, eval e X.env) :: starEach es0 X.env := by rfl) (hpl : (backTo pos (starEach es0 X.env)).any (·.1) = false := by rfl) :
    PE X (.Call (.Name x0 p) (e :: es0) [] pos) (tX X.K W es ms x ms2) := by
  obtain ⟨rfl, rfl, rfl, rfl, rfl⟩ := hX
  obtain ⟨f, fd, ps, h1, h2, h3, h4⟩ := G.ok
  exact d_callX tk h1 (hr.mono hk) hg h2 h3 h4 ha hS hdb he hpl
/-! ### an expression whose part raises -/
def tAX (K : PySem.W.Frag) (W : WX) (es : Es) (ms : Ms) (x : Xc) (ms' : Ms) : TA := fun σ H _ => ∃ as, Sr K as es ms σ H ∧ ∀ cls d H', MsR K as ms' H' → Same (hid as H) (hid as H') → XcR K (hid as H') cls d x → W cls d σ H'
theorem pa_never {l : List Expr} : PA X l (fun _ _ _ => False) := ⟨fun _ _ _ _ _ _ _ h => h.elim⟩
theorem ax_here (h : PE X e (tX X.K W es ms x ms1)) (hs : starEach (e :: es0) X.env = (false, eval e X.env) :: starEach es0 X.env := by rfl) : PA X (e :: es0) (tAX X.K W es ms x ms1) :=
  pa_w (pa_cons h pa_never hs) fun σ H Q ⟨as, s, k⟩ => ⟨as, s, fun cls d H1 m1 e1 r1 => k cls d H1 m1 e1 r1⟩
theorem ax_next {sv : Sv} (h : PE X e (tD X.K es ms sv ms1)) (r : PA X es0 (tAX X.K W es ms1 x ms2)) (hs : starEach (e :: es0) X.env = (false, eval e X.env) :: starEach es0 X.env := by rfl) : PA X (e :: es0) (tAX X.K W es ms x ms2) :=
  pa_w (pa_cons h r hs) fun σ H Q ⟨as, s, k⟩ => ⟨as, s, fun v H1 m1 e1 r1 => ⟨as, s.step m1 e1, fun cls d H2 m2 e2 r2 => k cls d H2 m2 (e1.trans e2) r2⟩⟩
theorem dx_tup {x1} (h : PA X es0 (tAX X.K W es ms x ms1)) : PE X (.Tuple es0 x1 pos) (tX X.K W es ms x ms1) := pe_w (pe_tup h) fun σ H Q ⟨as, s, k⟩ => ⟨as, s, k⟩
/-! ### try .. except C as v -/
/-- where a try's body may go -/
def TryP (X : Cx) (n : Nat) (W : WX) (N : List Str) (v : Str) (i : Nat) (c : Value) (b₀ : Stmt) (suite rest : List Stmt) (P : Out → Prop) : Out → Prop
  | .rs x es ms => ∃ b, PySem.W.exmOne X.K (.ref x.C) c = some b ∧ (b = false → P (.rs x es ms)) ∧ (b = true → ∀ (a : Addr) (d : Option Addr), ∃ es1, Put N es v (.x a (.ref x.C) d x) es1 ∧
      ∀ (oe : Obj) (pn : List (Addr × Obj)), Zc (.ref x.C) d oe → (∃ vs, oe.data = .fields vs) → PSs (X.suite a ((a, oe) :: pn)) (b₀ :: suite) (tS X.K n W es1 ms fun o => match o with
        | .nx es ms => PSs X rest (tS X.K n W (es.set i none) ms P)
        | .rt d ms => P (.rt d ms)
        | .rn d ms => P (.rn d ms)
        | .bk es ms => P (.bk (es.set i none) ms)
        | .ct es ms => P (.ct (es.set i none) ms)
        | .rs _ _ _ => False))
  | o => Then X n W rest P o
theorem Sr.del {K : PySem.W.Frag} {as : As} {σ : St} {H : Hp} (s : Sr K as es ms σ H) (i : Nat) : Sr K as (es.set i none) ms (σ.set i none) H := by
  refine ⟨by rw [List.length_set, List.length_set]; exact s.len, fun j sv h => ?_, s.mem⟩
  by_cases c : i = j
  · subst c
    have hl := (List.getElem?_eq_some_iff.mp h).1
    rw [List.length_set] at hl
    rw [List.getElem?_set_self hl] at h
    cases h
  · rw [List.getElem?_set_ne c] at h
    rw [List.getElem?_set_ne c]
    exact s.env j sv h
theorem s_try {xn v : Str} {i : Nat} {cv : Value} {b₀ : Stmt} {np hp' pos' : Pos} {Pb : Out → Prop} (hN : X.N = N) (nd : N.Nodup) (hi : N[i]? = some v) (hs : X.stack = X.env :: X.outer) (hf : X.env.frame = some X.env.locals) (hln : X.env.kindOf v = some .local) (hnm : Names X xn cv) (tk : Takes X W)
    (hb : ∀ (W' : WX) (pn : List (Addr × Obj)) (xe : Value → Shared → Prop), Takes (X.tr pn xe) W' → PassesOwn (model X.prog X.w) X.A X.env xe → PSs (X.tr pn xe) body (tS X.K n W' es ms Pb))
    (hP : ∀ o, Pb o → TryP X n W N v i cv b₀ suite rest P o) : PSs X (.Try body [.ExceptHandler (some (.Name xn np)) (some v) (b₀ :: suite) pos'] [] [] pos :: rest) (tS X.K n W es ms P) := by
  let ts : Addr → Value → Option Addr → TS := fun a cls d D σ H => ∃ t, (∀ (oe : Obj) (pn : List (Addr × Obj)), Zc cls d oe → (∃ vs, oe.data = .fields vs) → PSs (X.suite a ((a, oe) :: pn)) (b₀ :: suite) t) ∧ t D σ H
  have R := ps_try_as (X := X) (x := xn) (n := v) (c := cv) (i := i) (body := body) (suite := suite) (b₀ := b₀) (np := np) (pos := pos) (pos' := pos') (tb := fun W' => tS X.K n W' es ms Pb) (ts := ts) (Wout := W) hs hf (hN ▸ nd) (by rw [hN]; exact hi) hln hnm tk hb
    (fun a oe cls d pn hz hv => ⟨fun pins s σ H D I ⟨t, h, q⟩ => (h oe pn hz hv).run pins s σ H D I q⟩)
  refine s_cons (P' := Then X n W rest P) R (fun D σ H as s l kk => ?_) (fun o h => h)
  refine ⟨as, s, l, fun o po as' H' st => ?_⟩
  have hp := hP o po
  cases o with
  | nx es' ms' => exact kk (.nx es' ms') hp as' H' st
  | rt d ms' => exact kk (.rt d ms') hp as' H' st
  | rn d ms' => exact kk (.rn d ms') hp as' H' st
  | bk es' ms' => exact kk (.bk es' ms') hp as' H' st
  | ct es' ms' => exact kk (.ct es' ms') hp as' H' st
  | rs x es' ms' =>
    obtain ⟨b, h1, h2, h3⟩ := hp
    refine fun σ' cls d s' r' => ?_
    have ec : cls = .ref x.C := r'.1
    subst ec
    refine ⟨b, h1, fun hbt a ha => ?_, fun hbf => kk (.rs x es' ms') (h2 hbf) as' H' st σ' _ d s' r'⟩
    obtain ⟨es1, hput, hsu⟩ := h3 hbt a d
    obtain ⟨j, j1, j2⟩ := hput.ix
    have : i = j := nodup_ix nd hi j1
    subst this
    refine ⟨_, hsu, as', s'.put (sv := .x a (.ref x.C) d x) ⟨rfl, r'⟩ j2, st.len, fun o2 p2 as2 H2 st2 => ?_⟩
    have st3 := st.trans st2
    cases o2 with
    | nx es2 ms2 => exact fun σ2 s2 => kk (.nx (es2.set i none) ms2) p2 as2 H2 st3 _ (s2.del i)
    | rt d2 ms2 => exact kk (.rt d2 ms2) p2 as2 H2 st3
    | rn d2 ms2 => exact kk (.rn d2 ms2) p2 as2 H2 st3
    | bk es2 ms2 => exact fun σ2 s2 => kk (.bk (es2.set i none) ms2) p2 as2 H2 st3 _ (s2.del i)
    | ct es2 ms2 => exact fun σ2 s2 => kk (.ct (es2.set i none) ms2) p2 as2 H2 st3 _ (s2.del i)
    | rs x2 es2 ms2 => exact False.elim p2
/-- e.f, e the handled error -/
theorem d_xf {a0 : Addr} {oe : Obj} {cls : Value} {dd : Option Addr} {pn : List (Addr × Obj)} {f : Str} {v : Dt} (T : XfC X.K x.C) (hno : PySem.W.findIn X.K (.ref x.C) f = some none) (hz : Zc cls dd oe) (hv : ∃ vs, oe.data = .fields vs)
    (he : PE (X.suite a0 ((a0, oe) :: pn)) e (tD X.K es ms (.x a0 cls dd x) ms1)) (hl : x.fs.lookup f = some v) (hb : attributeBase e f X.env (eval e X.env) = eval e X.env := by rfl) :
    PE (X.suite a0 ((a0, oe) :: pn)) (.Attribute e f pos) (tD X.K es ms (.d v) ms1) :=
  pe_w (pe_xf T hno hz hv he hb) fun σ H Q ⟨as, s, k⟩ => ⟨as, s, fun u H1 m1 e1 r1 => by
    obtain ⟨rfl, ec, a', fs', h2, h3, h4⟩ := r1
    obtain ⟨u, g1, g2⟩ := h4.look hl
    exact ⟨rfl, ec, a', fs', u, h2, (hid_of h3).1, g1, k u H1 m1 e1 g2⟩⟩
/-! ### isinstance by the datum -/
def isT (T : String) : Dt → Bool
  | .non => false
  | .bl _ => T == "bool" || T == "int"
  | .int _ => T == "int"
  | .str _ => T == "str"
  | .lst _ => T == "list"
  | .tup _ => T == "tuple"
  | .obj _ _ => false
def isTB (T n : String) : Bool := match n with
  | "bool" => T == "bool" || T == "int"
  | "int" => T == "int"
  | "str" => T == "str"
  | "list" => T == "list"
  | "tuple" => T == "tuple"
  | _ => false
theorem kit_all : ∀ T ∈ ["int", "bool", "str", "list", "tuple"], ∀ n ∈ ["NoneType", "bool", "int", "str", "list", "tuple"], kitB n T = some (isTB T n) := by decide +kernel
theorem isT_of {T n : String} {d : Dt} (h : tyName d = some n) : isT T d = isTB T n := by
  cases d <;> cases h <;> rfl
theorem ty_mem {n : String} {d : Dt} (h : tyName d = some n) : n ∈ ["NoneType", "bool", "int", "str", "list", "tuple"] := by
  cases d <;> cases h <;> simp
def plainD : Dt → Bool
  | .obj _ _ => false
  | _ => true
theorem d_isT {d : Dt} {T : String} {nm : Str} {pT : Pos} (hT : T ∈ ["int", "bool", "str", "list", "tuple"]) (hv : bootBuiltins nm = some (.type T)) (hg : Gl X "isinstance") (hm : X.mg "isinstance" = none) (hgT : Gl X nm) (hmT : X.mg nm = none) (ha : PE X e (tD X.K es ms (.d d) ms1)) (hd : plainD d = true)
    (hnn : nm ≠ "__name__" := by decide) (hdn : (nm == ("__debug__" : Str)) = false := by decide)
    (he : starEach [e, .Name nm pT] X.env = (false, eval e X.env) :: starEach [.Name nm pT] X.env := by rfl) (hpl : (backTo pos (starEach [.Name nm pT] X.env)).any (·.1) = false := by rfl) (he2 : starEach [.Name nm pT] X.env = (false, eval (.Name nm pT) X.env) :: starEach [] X.env := by rfl) :
    PE X (.Call (.Name "isinstance" p) [e, .Name nm pT] [] pos) (tD X.K es ms (.d (.bl (isT T d))) ms1) := by
  cases q : tyName d with
  | none => cases d <;> simp [tyName, plainD] at q hd
  | some n => exact d_isi hg hm hgT hmT hv ha q (by rw [isT_of q]; exact kit_all T hT n (ty_mem q)) hnn hdn he hpl he2
theorem bt_int : bootBuiltins "int" = some (.type "int") := by decide +kernel
theorem bt_bool : bootBuiltins "bool" = some (.type "bool") := by decide +kernel
theorem bt_str : bootBuiltins "str" = some (.type "str") := by decide +kernel
theorem bt_list : bootBuiltins "list" = some (.type "list") := by decide +kernel
theorem bt_tuple : bootBuiltins "tuple" = some (.type "tuple") := by decide +kernel
end
end Dv
/-! # Dv8: displays by their length; built-in names; small laws of lists of ours -/
namespace Dv
open PySem PySem.Spec L2
section
variable {X : Cx} {es : Es} {ms ms1 : Ms} {pos : Pos}
theorem n_lst0 (h : PA X [] (tAr X.K es ms [] ms1)) : PE X (.List [] pos) (tN X.K es ms [] ms1) := n_lst (ds := []) h (by simp)
theorem d_lst0 (h : PA X [] (tAr X.K es ms [] ms1)) : PE X (.List [] pos) (tD X.K es ms (.d (.lst [])) ms1) := d_ofN (n_lst (ds := []) h (by simp))
theorem d_tup1 {e0 : Expr} {x0 : Dt} {k : Nat} (h : PA X [e0] (tAr X.K es ms [.d x0] ms1)) : PE X (.Tuple [e0] k pos) (tD X.K es ms (.d (.tup [x0])) ms1) := d_tup (ds := [x0]) h (by simp)
theorem n_lst1 {e0 : Expr} {x0 : Dt} (h : PA X [e0] (tAr X.K es ms [.d x0] ms1)) : PE X (.List [e0] pos) (tN X.K es ms [x0] ms1) := n_lst (ds := [x0]) h (by simp)
theorem d_lst1 {e0 : Expr} {x0 : Dt} (h : PA X [e0] (tAr X.K es ms [.d x0] ms1)) : PE X (.List [e0] pos) (tD X.K es ms (.d (.lst [x0])) ms1) := d_ofN (n_lst (ds := [x0]) h (by simp))
theorem d_tup2 {e0 e1 : Expr} {x0 x1 : Dt} {k : Nat} (h : PA X [e0, e1] (tAr X.K es ms [.d x0, .d x1] ms1)) : PE X (.Tuple [e0, e1] k pos) (tD X.K es ms (.d (.tup [x0, x1])) ms1) := d_tup (ds := [x0, x1]) h (by simp)
theorem n_lst2 {e0 e1 : Expr} {x0 x1 : Dt} (h : PA X [e0, e1] (tAr X.K es ms [.d x0, .d x1] ms1)) : PE X (.List [e0, e1] pos) (tN X.K es ms [x0, x1] ms1) := n_lst (ds := [x0, x1]) h (by simp)
theorem d_lst2 {e0 e1 : Expr} {x0 x1 : Dt} (h : PA X [e0, e1] (tAr X.K es ms [.d x0, .d x1] ms1)) : PE X (.List [e0, e1] pos) (tD X.K es ms (.d (.lst [x0, x1])) ms1) := d_ofN (n_lst (ds := [x0, x1]) h (by simp))
theorem d_tup3 {e0 e1 e2 : Expr} {x0 x1 x2 : Dt} {k : Nat} (h : PA X [e0, e1, e2] (tAr X.K es ms [.d x0, .d x1, .d x2] ms1)) : PE X (.Tuple [e0, e1, e2] k pos) (tD X.K es ms (.d (.tup [x0, x1, x2])) ms1) := d_tup (ds := [x0, x1, x2]) h (by simp)
theorem n_lst3 {e0 e1 e2 : Expr} {x0 x1 x2 : Dt} (h : PA X [e0, e1, e2] (tAr X.K es ms [.d x0, .d x1, .d x2] ms1)) : PE X (.List [e0, e1, e2] pos) (tN X.K es ms [x0, x1, x2] ms1) := n_lst (ds := [x0, x1, x2]) h (by simp)
theorem d_lst3 {e0 e1 e2 : Expr} {x0 x1 x2 : Dt} (h : PA X [e0, e1, e2] (tAr X.K es ms [.d x0, .d x1, .d x2] ms1)) : PE X (.List [e0, e1, e2] pos) (tD X.K es ms (.d (.lst [x0, x1, x2])) ms1) := d_ofN (n_lst (ds := [x0, x1, x2]) h (by simp))
theorem d_tup4 {e0 e1 e2 e3 : Expr} {x0 x1 x2 x3 : Dt} {k : Nat} (h : PA X [e0, e1, e2, e3] (tAr X.K es ms [.d x0, .d x1, .d x2, .d x3] ms1)) : PE X (.Tuple [e0, e1, e2, e3] k pos) (tD X.K es ms (.d (.tup [x0, x1, x2, x3])) ms1) := d_tup (ds := [x0, x1, x2, x3]) h (by simp)
theorem n_lst4 {e0 e1 e2 e3 : Expr} {x0 x1 x2 x3 : Dt} (h : PA X [e0, e1, e2, e3] (tAr X.K es ms [.d x0, .d x1, .d x2, .d x3] ms1)) : PE X (.List [e0, e1, e2, e3] pos) (tN X.K es ms [x0, x1, x2, x3] ms1) := n_lst (ds := [x0, x1, x2, x3]) h (by simp)
theorem d_lst4 {e0 e1 e2 e3 : Expr} {x0 x1 x2 x3 : Dt} (h : PA X [e0, e1, e2, e3] (tAr X.K es ms [.d x0, .d x1, .d x2, .d x3] ms1)) : PE X (.List [e0, e1, e2, e3] pos) (tD X.K es ms (.d (.lst [x0, x1, x2, x3])) ms1) := d_ofN (n_lst (ds := [x0, x1, x2, x3]) h (by simp))
theorem d_tup5 {e0 e1 e2 e3 e4 : Expr} {x0 x1 x2 x3 x4 : Dt} {k : Nat} (h : PA X [e0, e1, e2, e3, e4] (tAr X.K es ms [.d x0, .d x1, .d x2, .d x3, .d x4] ms1)) : PE X (.Tuple [e0, e1, e2, e3, e4] k pos) (tD X.K es ms (.d (.tup [x0, x1, x2, x3, x4])) ms1) := d_tup (ds := [x0, x1, x2, x3, x4]) h (by simp)
theorem n_lst5 {e0 e1 e2 e3 e4 : Expr} {x0 x1 x2 x3 x4 : Dt} (h : PA X [e0, e1, e2, e3, e4] (tAr X.K es ms [.d x0, .d x1, .d x2, .d x3, .d x4] ms1)) : PE X (.List [e0, e1, e2, e3, e4] pos) (tN X.K es ms [x0, x1, x2, x3, x4] ms1) := n_lst (ds := [x0, x1, x2, x3, x4]) h (by simp)
theorem d_lst5 {e0 e1 e2 e3 e4 : Expr} {x0 x1 x2 x3 x4 : Dt} (h : PA X [e0, e1, e2, e3, e4] (tAr X.K es ms [.d x0, .d x1, .d x2, .d x3, .d x4] ms1)) : PE X (.List [e0, e1, e2, e3, e4] pos) (tD X.K es ms (.d (.lst [x0, x1, x2, x3, x4])) ms1) := d_ofN (n_lst (ds := [x0, x1, x2, x3, x4]) h (by simp))
theorem d_tup6 {e0 e1 e2 e3 e4 e5 : Expr} {x0 x1 x2 x3 x4 x5 : Dt} {k : Nat} (h : PA X [e0, e1, e2, e3, e4, e5] (tAr X.K es ms [.d x0, .d x1, .d x2, .d x3, .d x4, .d x5] ms1)) : PE X (.Tuple [e0, e1, e2, e3, e4, e5] k pos) (tD X.K es ms (.d (.tup [x0, x1, x2, x3, x4, x5])) ms1) := d_tup (ds := [x0, x1, x2, x3, x4, x5]) h (by simp)
theorem n_lst6 {e0 e1 e2 e3 e4 e5 : Expr} {x0 x1 x2 x3 x4 x5 : Dt} (h : PA X [e0, e1, e2, e3, e4, e5] (tAr X.K es ms [.d x0, .d x1, .d x2, .d x3, .d x4, .d x5] ms1)) : PE X (.List [e0, e1, e2, e3, e4, e5] pos) (tN X.K es ms [x0, x1, x2, x3, x4, x5] ms1) := n_lst (ds := [x0, x1, x2, x3, x4, x5]) h (by simp)
theorem d_lst6 {e0 e1 e2 e3 e4 e5 : Expr} {x0 x1 x2 x3 x4 x5 : Dt} (h : PA X [e0, e1, e2, e3, e4, e5] (tAr X.K es ms [.d x0, .d x1, .d x2, .d x3, .d x4, .d x5] ms1)) : PE X (.List [e0, e1, e2, e3, e4, e5] pos) (tD X.K es ms (.d (.lst [x0, x1, x2, x3, x4, x5])) ms1) := d_ofN (n_lst (ds := [x0, x1, x2, x3, x4, x5]) h (by simp))
theorem d_tup7 {e0 e1 e2 e3 e4 e5 e6 : Expr} {x0 x1 x2 x3 x4 x5 x6 : Dt} {k : Nat} (h : PA X [e0, e1, e2, e3, e4, e5, e6] (tAr X.K es ms [.d x0, .d x1, .d x2, .d x3, .d x4, .d x5, .d x6] ms1)) : PE X (.Tuple [e0, e1, e2, e3, e4, e5, e6] k pos) (tD X.K es ms (.d (.tup [x0, x1, x2, x3, x4, x5, x6])) ms1) := d_tup (ds := [x0, x1, x2, x3, x4, x5, x6]) h (by simp)
theorem n_lst7 {e0 e1 e2 e3 e4 e5 e6 : Expr} {x0 x1 x2 x3 x4 x5 x6 : Dt} (h : PA X [e0, e1, e2, e3, e4, e5, e6] (tAr X.K es ms [.d x0, .d x1, .d x2, .d x3, .d x4, .d x5, .d x6] ms1)) : PE X (.List [e0, e1, e2, e3, e4, e5, e6] pos) (tN X.K es ms [x0, x1, x2, x3, x4, x5, x6] ms1) := n_lst (ds := [x0, x1, x2, x3, x4, x5, x6]) h (by simp)
theorem d_lst7 {e0 e1 e2 e3 e4 e5 e6 : Expr} {x0 x1 x2 x3 x4 x5 x6 : Dt} (h : PA X [e0, e1, e2, e3, e4, e5, e6] (tAr X.K es ms [.d x0, .d x1, .d x2, .d x3, .d x4, .d x5, .d x6] ms1)) : PE X (.List [e0, e1, e2, e3, e4, e5, e6] pos) (tD X.K es ms (.d (.lst [x0, x1, x2, x3, x4, x5, x6])) ms1) := d_ofN (n_lst (ds := [x0, x1, x2, x3, x4, x5, x6]) h (by simp))
end
/-- the names of built-ins are the built-ins' -/
structure Bi (mg : Str → Option Value) : Prop where
  len : mg "len" = none
  int : mg "int" = none
  abs : mg "abs" = none
  isi : mg "isinstance" = none
  range : mg "range" = none
  list : mg "list" = none
  tuple : mg "tuple" = none
  bool : mg "bool" = none
  str : mg "str" = none
def isI : Dt → Bool
  | .int _ => true
  | _ => false
theorem isI_eq (d : Dt) : (isT "int" d && !isT "bool" d) = isI d := by cases d <;> simp [isT, isI]
theorem isT_tup {d : Dt} (h : isT "tuple" d = true) : ∃ ds, d = .tup ds := by cases d <;> simp [isT] at h ⊢
theorem isT_lst {d : Dt} (h : isT "list" d = true) : ∃ ds, d = .lst ds := by cases d <;> simp [isT] at h ⊢
theorem isT_str {d : Dt} (h : isT "str" d = true) : ∃ s, d = .str s := by cases d <;> simp [isT] at h ⊢
theorem isT_bool {d : Dt} (h : isT "bool" d = true) : ∃ s, d = .bl s := by cases d <;> simp [isT] at h ⊢
theorem isI_int {d : Dt} (h : isI d = true) : ∃ i, d = .int i := by cases d <;> simp [isI] at h ⊢
mutual
/-- no object in it, at any depth -/
def deepP : Dt → Bool
  | .obj _ _ => false
  | .lst ds => deepL ds && decide (ds.length ≤ 100000)
  | .tup ds => deepL ds && decide (ds.length ≤ 100000)
  | _ => true
def deepL : List Dt → Bool
  | [] => true
  | d :: ds => deepP d && deepL ds
end
mutual
def depth : Dt → Nat
  | .lst ds => depthL ds + 1
  | .tup ds => depthL ds + 1
  | _ => 0
def depthL : List Dt → Nat
  | [] => 0
  | d :: ds => max (depth d) (depthL ds)
end
theorem deep_plain {d : Dt} (h : deepP d = true) : plainD d = true := by cases d <;> simp [deepP, plainD] at h ⊢
theorem deep_lst {ds : List Dt} (h : deepP (.lst ds) = true) : deepL ds = true ∧ ds.length ≤ 100000 := by simpa [deepP] using h
theorem deep_tup {ds : List Dt} (h : deepP (.tup ds) = true) : deepL ds = true ∧ ds.length ≤ 100000 := by simpa [deepP] using h
theorem deepL_at : ∀ {ds : List Dt} {i : Nat} {d : Dt}, deepL ds = true → ds[i]? = some d → deepP d = true
  | [], _, _, _, h => by simp at h
  | a :: ds, 0, d, h, e => by
    simp [deepL] at h
    simp at e
    subst e
    exact h.1
  | a :: ds, i + 1, d, h, e => by
    simp [deepL] at h
    exact deepL_at h.2 (by simpa using e)
theorem depthL_at : ∀ {ds : List Dt} {i : Nat} {d : Dt}, ds[i]? = some d → depth d ≤ depthL ds
  | [], _, _, h => by simp at h
  | a :: ds, 0, d, e => by
    simp at e
    subst e
    simp only [depthL]
    omega
  | a :: ds, i + 1, d, e => by
    have := depthL_at (ds := ds) (i := i) (d := d) (by simpa using e)
    simp only [depthL]
    omega
theorem take_all {n : Nat} {ms : Ms} (h : ms.length = n) : ms.take n = ms := List.take_of_length_le (Nat.le_of_eq h)
end Dv
local macro_rules | `(tactic| walk_at "slot") => `(tactic| first | with_reducible exact Dv.Slot.here | (apply Dv.Slot.there; walk_at "slot"))
local macro_rules | `(tactic| walk_at "put") => `(tactic| first | with_reducible exact Dv.Put.here | (apply Dv.Put.there; walk_at "put"))
local macro_rules | `(tactic| walk_at "ms") => `(tactic| first | assumption | exact Dv.ms_new | exact Dv.ms_new' | (apply Dv.ms_set; walk_at "ms") | (apply Dv.ms_app; walk_at "ms"))
local macro_rules | `(tactic| walk_at "glob") => `(tactic| first | assumption | rfl)
local macro_rules | `(tactic| walk_at "go") => `(tactic| first | (show (_ : Prop); walk_at "go1") | skip)
local macro_rules | `(tactic| walk_at "go1") => `(tactic| first
  | assumption
  | with_reducible exact rfl
  | exact Dv.d_int
  | exact Dv.d_bl
  | exact Dv.d_non
  | exact Dv.d_str
  | (refine' Dv.d_var (by assumption) ?_; all_goals first | (fail_if_success show (_ : Prop)) | walk_at "slot")
  | (refine' Dv.d_add ?_ ?_ <;> walk_at "go")
  | (refine' Dv.d_sub ?_ ?_ <;> walk_at "go")
  | (refine' Dv.d_mul ?_ ?_ ?_ <;> walk_at "go")
  | (refine' Dv.d_mod ?_ ?_ ?_ <;> walk_at "go")
  | (refine' Dv.d_fdiv ?_ ?_ ?_ <;> walk_at "go")
  | (refine' Dv.d_pow ?_ ?_ ?_ <;> walk_at "go")
  | (refine' Dv.d_neg ?_ <;> walk_at "go")
  | (refine' Dv.d_cmp ?_ ?_ ?_ <;> walk_at "go")
  | (refine' Dv.b_cmp ?_ ?_ ?_ <;> walk_at "go")
  | (refine' Dv.d_chain ?_ ?_ ?_ (fun _ => ⟨?_, ?_⟩) <;> walk_at "go")
  | exact Dv.c_lt | exact Dv.c_le | exact Dv.c_gt | exact Dv.c_ge | exact Dv.c_eqI | exact Dv.c_neI | exact Dv.c_eqS | exact Dv.c_eqB | exact Dv.c_isN | exact Dv.c_notN
  | (refine' Dv.d_int1 rfl (by assumption) ?_ <;> walk_at "go")
  | (refine' Dv.d_abs rfl (by assumption) ?_ <;> walk_at "go")
  | (refine' Dv.d_ix ?_ ?_ ?_ <;> walk_at "go")
  | (refine' Dv.IxOk.m ?_ ?_ <;> walk_at "go")
  | (refine' Dv.IxOk.lst ?_ <;> walk_at "go")
  | (refine' Dv.IxOk.tup ?_ <;> walk_at "go")
  | (refine' Dv.d_lenA rfl (by assumption) ?_ ?_ <;> walk_at "go")
  | (refine' Dv.LenOk.m ?_ ?_ <;> walk_at "go")
  | exact Dv.LenOk.lst rfl
  | exact Dv.LenOk.tup rfl
  | (refine' Dv.d_tup1 ?_ <;> walk_at "go")
  | (refine' Dv.d_tup2 ?_ <;> walk_at "go")
  | (refine' Dv.d_tup3 ?_ <;> walk_at "go")
  | (refine' Dv.d_tup4 ?_ <;> walk_at "go")
  | (refine' Dv.d_tup5 ?_ <;> walk_at "go")
  | (refine' Dv.d_tup6 ?_ <;> walk_at "go")
  | (refine' Dv.d_tup7 ?_ <;> walk_at "go")
  | (refine' Dv.d_lst0 ?_ <;> walk_at "go")
  | (refine' Dv.d_lst1 ?_ <;> walk_at "go")
  | (refine' Dv.d_lst2 ?_ <;> walk_at "go")
  | (refine' Dv.d_lst3 ?_ <;> walk_at "go")
  | (refine' Dv.d_lst4 ?_ <;> walk_at "go")
  | (refine' Dv.d_lst5 ?_ <;> walk_at "go")
  | (refine' Dv.d_lst6 ?_ <;> walk_at "go")
  | (refine' Dv.d_lst7 ?_ <;> walk_at "go")
  | (refine' Dv.d_isT (T := "int") (by decide) Dv.bt_int rfl (by assumption) rfl (by assumption) ?_ ?_ <;> walk_at "go")
  | (refine' Dv.d_isT (T := "bool") (by decide) Dv.bt_bool rfl (by assumption) rfl (by assumption) ?_ ?_ <;> walk_at "go")
  | (refine' Dv.d_isT (T := "str") (by decide) Dv.bt_str rfl (by assumption) rfl (by assumption) ?_ ?_ <;> walk_at "go")
  | (refine' Dv.d_isT (T := "list") (by decide) Dv.bt_list rfl (by assumption) rfl (by assumption) ?_ ?_ <;> walk_at "go")
  | (refine' Dv.d_isT (T := "tuple") (by decide) Dv.bt_tuple rfl (by assumption) rfl (by assumption) ?_ ?_ <;> walk_at "go")
  | (refine' Dv.d_fn (by with_reducible assumption) (by exact ⟨rfl, rfl, rfl, rfl, rfl⟩) (by assumption) (by first | decide | omega) rfl ?_ ?_ <;> walk_at "go")
  | (refine' Dv.d_gcd rfl (by assumption) ?_ ?_ <;> walk_at "go")
  | exact Dv.a_nil
  | (refine' Dv.a_cons ?_ ?_ <;> walk_at "go")
  | (refine' Dv.d_and ?_ (fun _ => ?_) <;> walk_at "go")
  | (refine' Dv.d_or ?_ (fun _ => ?_) <;> walk_at "go")
  | (refine' Dv.d_one ?_ <;> walk_at "go")
  | (refine' Dv.d_not ?_ <;> walk_at "go")
  | (refine' Dv.b_not ?_ <;> walk_at "go")
  | (refine' Dv.b_pw (Dv.w_and ?_ (fun _ => ?_)) <;> walk_at "go")
  | (refine' Dv.b_pw (Dv.w_or ?_ (fun _ => ?_)) <;> walk_at "go")
  | (refine' Dv.w_and ?_ (fun _ => ?_) <;> walk_at "go")
  | (refine' Dv.w_or ?_ (fun _ => ?_) <;> walk_at "go")
  | (refine' Dv.w_and1 ?_ <;> walk_at "go")
  | (refine' Dv.w_or1 ?_ <;> walk_at "go")
  | (refine' Dv.b_val ?_ <;> walk_at "go")
  | (walk_at "put")
  | (walk_at "ms")
  | exact Dv.ixL4_0 | exact Dv.ixL4_1 | exact Dv.ixL4_2 | exact Dv.ixL4_3
  | exact Dv.atI0 | exact Dv.atI1 | exact Dv.atI2 | exact Dv.atI3
  | omega
  | (refine Dv.mulS ?_ ?_ <;> omega)
  | (refine Dv.cdivW ?_ ?_ <;> first | omega | assumption | decide)
  | decide
  | exact ⟨by decide, by decide, by decide⟩
  | (simp; done)
  | walk_at "use"
  | (simp_all [Dv.isT]; done)
  | skip)
local macro_rules | `(tactic| walk_at "st") => `(tactic| first
  | (refine' Dv.s_asg (by assumption) (by assumption) ?_ ?_ ?_ <;> walk_at "go")
  | (refine' Dv.s_put ?_ ?_ ?_ ?_ ?_ ?_ <;> walk_at "go")
  | (refine' Dv.s_append ?_ ?_ ?_ ?_ ?_ ?_ <;> walk_at "go")
  | (refine' Dv.s_ret ?_ ?_ <;> walk_at "go")
  | (refine' Dv.s_retN ?_)
  | (refine' Dv.s_expr ?_ ?_ <;> walk_at "go")
  | (refine' Dv.s_pass ?_)
  | (refine' Dv.s_nil ?_; try show L2.PSs _ _ _))
local macro_rules | `(tactic| walk_at "ifF") => `(tactic| (refine' Dv.s_if ?wc (fun hb => ?wt) (fun hb => ?wf); (case wc => walk_at "go"); (case wt => exact absurd hb (by simp [Dv.isNon, Dv.isT, Dv.isI])); (refine' Dv.s_nil ?_); (show L2.PSs _ _ _)))
local macro_rules | `(tactic| walk_at "ifT") => `(tactic| (refine' Dv.s_if ?wc (fun hb => ?wt) (fun hb => ?wf); (case wc => walk_at "go"); (case wf => exact absurd hb (by simp [Dv.isNon, Dv.isT, Dv.isI]))))
namespace K02
open PySem PySem.Spec L2 Dv
def top (i : Nat) : Stmt := PySem.Challenge.pw_pageshares_k02_sums_products_and_order.main.body.getD i (.Pass ⟨0, 0, 0, 0⟩)
abbrev sIsInteger : Stmt := top 5
abbrev nIsInteger : List Str := ["value"]
theorem scIsInteger : FnScope nIsInteger ["value"] (defScope sIsInteger) := ⟨rfl, rfl, rfl, by decide +kernel, rfl, by decide +kernel, by decide +kernel⟩
abbrev sIsPair : Stmt := top 6
abbrev nIsPair : List Str := ["value"]
theorem scIsPair : FnScope nIsPair ["value"] (defScope sIsPair) := ⟨rfl, rfl, rfl, by decide +kernel, rfl, by decide +kernel, by decide +kernel⟩
abbrev sIsFraction : Stmt := top 8
abbrev nIsFraction : List Str := ["value"]
theorem scIsFraction : FnScope nIsFraction ["value"] (defScope sIsFraction) := ⟨rfl, rfl, rfl, by decide +kernel, rfl, by decide +kernel, by decide +kernel⟩
abbrev sAdded : Stmt := top 9
abbrev nAdded : List Str := ["one", "other", "above", "below", "other_above", "other_below"]
theorem scAdded : FnScope nAdded ["one", "other"] (defScope sAdded) := ⟨rfl, rfl, rfl, by decide +kernel, rfl, by decide +kernel, by decide +kernel⟩
abbrev sSubtracted : Stmt := top 10
abbrev nSubtracted : List Str := ["one", "other", "above", "below", "other_above", "other_below"]
theorem scSubtracted : FnScope nSubtracted ["one", "other"] (defScope sSubtracted) := ⟨rfl, rfl, rfl, by decide +kernel, rfl, by decide +kernel, by decide +kernel⟩
abbrev sMultiplied : Stmt := top 11
abbrev nMultiplied : List Str := ["one", "other", "above", "below", "other_above", "other_below"]
theorem scMultiplied : FnScope nMultiplied ["one", "other"] (defScope sMultiplied) := ⟨rfl, rfl, rfl, by decide +kernel, rfl, by decide +kernel, by decide +kernel⟩
abbrev sIsLess : Stmt := top 12
abbrev nIsLess : List Str := ["one", "other", "above", "below", "other_above", "other_below"]
theorem scIsLess : FnScope nIsLess ["one", "other"] (defScope sIsLess) := ⟨rfl, rfl, rfl, by decide +kernel, rfl, by decide +kernel, by decide +kernel⟩
abbrev sTerms : Stmt := top 13
abbrev nTerms : List Str := ["value", "name"]
theorem scTerms : FnScope nTerms ["value", "name"] (defScope sTerms) := ⟨rfl, rfl, rfl, by decide +kernel, rfl, by decide +kernel, by decide +kernel⟩
abbrev sLowest : Stmt := top 14
abbrev nLowest : List Str := ["above", "below", "shared"]
theorem scLowest : FnScope nLowest ["above", "below"] (defScope sLowest) := ⟨rfl, rfl, rfl, by decide +kernel, rfl, by decide +kernel, by decide +kernel⟩
abbrev sLIsInt : Stmt := top 16
abbrev nLIsInt : List Str := ["_law_told"]
theorem scLIsInt : FnScope nLIsInt ["_law_told"] (defScope sLIsInt) := ⟨rfl, rfl, rfl, by decide +kernel, rfl, by decide +kernel, by decide +kernel⟩
abbrev sLSame : Stmt := top 17
abbrev nLSame : List Str := ["_law_told", "_law_due_here", "_law_k"]
theorem scLSame : FnScope nLSame ["_law_told", "_law_due_here"] (defScope sLSame) := ⟨rfl, rfl, rfl, by decide +kernel, rfl, by decide +kernel, by decide +kernel⟩
abbrev sLGcd : Stmt := top 18
abbrev nLGcd : List Str := ["_law_one", "_law_other", "_law_left"]
theorem scLGcd : FnScope nLGcd ["_law_one", "_law_other"] (defScope sLGcd) := ⟨rfl, rfl, rfl, by decide +kernel, rfl, by decide +kernel, by decide +kernel⟩
abbrev sLLow : Stmt := top 19
abbrev nLLow : List Str := ["_law_top", "_law_bottom", "_law_common"]
theorem scLLow : FnScope nLLow ["_law_top", "_law_bottom"] (defScope sLLow) := ⟨rfl, rfl, rfl, by decide +kernel, rfl, by decide +kernel, by decide +kernel⟩
abbrev sLPlus : Stmt := top 20
abbrev nLPlus : List Str := ["_law_one", "_law_other"]
theorem scLPlus : FnScope nLPlus ["_law_one", "_law_other"] (defScope sLPlus) := ⟨rfl, rfl, rfl, by decide +kernel, rfl, by decide +kernel, by decide +kernel⟩
abbrev sLMinus : Stmt := top 21
abbrev nLMinus : List Str := ["_law_one", "_law_other"]
theorem scLMinus : FnScope nLMinus ["_law_one", "_law_other"] (defScope sLMinus) := ⟨rfl, rfl, rfl, by decide +kernel, rfl, by decide +kernel, by decide +kernel⟩
abbrev sLTimes : Stmt := top 22
abbrev nLTimes : List Str := ["_law_one", "_law_other"]
theorem scLTimes : FnScope nLTimes ["_law_one", "_law_other"] (defScope sLTimes) := ⟨rfl, rfl, rfl, by decide +kernel, rfl, by decide +kernel, by decide +kernel⟩
abbrev sLStart : Stmt := top 23
abbrev nLStart : List Str := ["_law_script"]
theorem scLStart : FnScope nLStart ["_law_script"] (defScope sLStart) := ⟨rfl, rfl, rfl, by decide +kernel, rfl, by decide +kernel, by decide +kernel⟩
abbrev sLPull : Stmt := top 24
abbrev nLPull : List Str := ["_law_state", "_law_many", "_law_cell", "_law_number_here"]
theorem scLPull : FnScope nLPull ["_law_state", "_law_many"] (defScope sLPull) := ⟨rfl, rfl, rfl, by decide +kernel, rfl, by decide +kernel, by decide +kernel⟩
abbrev sLBig : Stmt := top 25
abbrev nLBig : List Str := ["_law_state", "_law_many", "_law_number_here", "_law_k"]
theorem scLBig : FnScope nLBig ["_law_state", "_law_many"] (defScope sLBig) := ⟨rfl, rfl, rfl, by decide +kernel, rfl, by decide +kernel, by decide +kernel⟩
abbrev sLInteger : Stmt := top 26
abbrev nLInteger : List Str := ["_law_state"]
theorem scLInteger : FnScope nLInteger ["_law_state"] (defScope sLInteger) := ⟨rfl, rfl, rfl, by decide +kernel, rfl, by decide +kernel, by decide +kernel⟩
abbrev sLNumber : Stmt := top 27
abbrev nLNumber : List Str := ["_law_state", "_law_top", "_law_bottom", "_law_turn", "_law_odd"]
theorem scLNumber : FnScope nLNumber ["_law_state"] (defScope sLNumber) := ⟨rfl, rfl, rfl, by decide +kernel, rfl, by decide +kernel, by decide +kernel⟩
abbrev sLAsked : Stmt := top 28
abbrev nLAsked : List Str := ["_law_turn", "_law_one", "_law_other", "e"]
theorem scLAsked : FnScope nLAsked ["_law_turn", "_law_one", "_law_other"] (defScope sLAsked) := ⟨rfl, rfl, rfl, by decide +kernel, rfl, by decide +kernel, by decide +kernel⟩
abbrev sLDue : Stmt := top 29
abbrev nLDue : List Str := ["_law_turn", "_law_one", "_law_other"]
theorem scLDue : FnScope nLDue ["_law_turn", "_law_one", "_law_other"] (defScope sLDue) := ⟨rfl, rfl, rfl, by decide +kernel, rfl, by decide +kernel, by decide +kernel⟩
abbrev sLaw : Stmt := top 30
abbrev nLaw : List Str := ["_law_script", "_law_state", "_law_k", "_law_one", "_law_other", "_law_turn"]
theorem scLaw : FnScope nLaw ["_law_script"] (defScope sLaw) := ⟨rfl, rfl, rfl, by decide +kernel, rfl, by decide +kernel, by decide +kernel⟩
/-! ### the mathematics -/
def isPair : Dt → Bool
  | .tup [_, _] => true
  | _ => false
def isFrac : Dt → Bool
  | .int _ => true
  | .tup [.int _, .int q] => decide (1 ≤ q)
  | _ => false
def terms : Dt → Int × Int
  | .int i => (i, 1)
  | .tup [.int p, .int q] => (p, q)
  | _ => (0, 1)
def low (p q : Int) : Int × Int := (p / (Int.gcd p q : Int), q / (Int.gcd p q : Int))
/-- a datum that the program can be asked about: no object in it, to the second depth -/
def flat2 : Dt → Bool
  | .obj _ _ => false
  | .tup ds => ds.all plainD
  | _ => true
theorem flat2_plain {d : Dt} (h : flat2 d = true) : plainD d = true := by cases d <;> simp [flat2, plainD] at h ⊢
section
variable {P : Program} {w : World} {K : PySem.W.Frag} {mg : Str → Option Value} {base : Heap} {f : Addr} {fd : FuncData} {scr : List Int}
def spIsInt : Pre := fun ss ms R => ∃ d, ss = [.d d] ∧ plainD d = true ∧ R (.ret (.bl (isI d)) ms)
theorem use_isInt {d : Dt} {ms : Ms} (h : plainD d = true) : spIsInt [.d d] ms (fun o => o = .ret (.bl (isI d)) ms) := ⟨d, rfl, h, rfl⟩
local macro_rules | `(tactic| walk_at "use") => `(tactic| (refine' use_isInt ?_ <;> first | assumption | rfl | (simp; done)))
theorem ok_isInt (B : Bi mg) (F : Fun K "is_integer" "is_integer" sIsInteger f fd) : FnOk P w K mg base (L2.CX P w) 1 f fd ["value"] (Pr K spIsInt) := by
  refine body_ok F scIsInteger (fun ss ms R h => ?_) (fun cdv A outer s H E X hX hr tk hpo ss ms R h => ?_)
  · obtain ⟨d, rfl, _⟩ := h
    rfl
  obtain ⟨d, rfl, hd, q⟩ := h
  obtain ⟨mlen, mint, mabs, misi, mrange, mlist, mtuple, mbool, mstr⟩ := B
  have hN : X.N = nIsInteger := by rw [hX]; rfl
  have nd := scIsInteger.nd
  subst hX
  conv => arg 2; whnf
  show PSs _ _ (tS _ _ _ [some (.d d)] _ _)
  walk_at "st"
  show R _
  rw [take_all rfl, isI_eq]
  exact q
theorem ok_lisInt (B : Bi mg) (F : Fun K "_law_is_int" "_law_is_int" sLIsInt f fd) : FnOk P w K mg base (L2.CX P w) 1 f fd ["_law_told"] (Pr K spIsInt) := by
  refine body_ok F scLIsInt (fun ss ms R h => ?_) (fun cdv A outer s H E X hX hr tk hpo ss ms R h => ?_)
  · obtain ⟨d, rfl, _⟩ := h
    rfl
  obtain ⟨d, rfl, hd, q⟩ := h
  obtain ⟨mlen, mint, mabs, misi, mrange, mlist, mtuple, mbool, mstr⟩ := B
  have hN : X.N = nLIsInt := by rw [hX]; rfl
  have nd := scLIsInt.nd
  subst hX
  conv => arg 2; whnf
  show PSs _ _ (tS _ _ _ [some (.d d)] _ _)
  walk_at "st"
  show R _
  rw [take_all rfl, isI_eq]
  exact q
def spIsPair : Pre := fun ss ms R => ∃ d, ss = [.d d] ∧ plainD d = true ∧ R (.ret (.bl (isPair d)) ms)
theorem use_isPair {d : Dt} {ms : Ms} (h : plainD d = true) : spIsPair [.d d] ms (fun o => o = .ret (.bl (isPair d)) ms) := ⟨d, rfl, h, rfl⟩
local macro_rules | `(tactic| walk_at "use") => `(tactic| (refine' use_isPair ?_ <;> first | assumption | rfl | (simp; done)))
theorem pair_len (ds : List Dt) : isPair (.tup ds) = decide ((ds.length : Int) = 2) := by
  match ds with
  | [] => rfl
  | [_] => rfl
  | [_, _] => rfl
  | _ :: _ :: _ :: r => simp [isPair]; omega
theorem ok_isPair (B : Bi mg) (F : Fun K "is_pair" "is_pair" sIsPair f fd) : FnOk P w K mg base (L2.CX P w) 1 f fd ["value"] (Pr K spIsPair) := by
  refine body_ok F scIsPair (fun ss ms R h => ?_) (fun cdv A outer s H E X hX hr tk hpo ss ms R h => ?_)
  · obtain ⟨d, rfl, _⟩ := h
    rfl
  obtain ⟨d, rfl, hd, q⟩ := h
  obtain ⟨mlen, mint, mabs, misi, mrange, mlist, mtuple, mbool, mstr⟩ := B
  have hN : X.N = nIsPair := by rw [hX]; rfl
  have nd := scIsPair.nd
  subst hX
  conv => arg 2; whnf
  show PSs _ _ (tS _ _ _ [some (.d d)] _ _)
  refine' s_ret (d := .bl (isT "tuple" d && isPair d)) (Dv.d_and ?a (fun hp => ?b)) ?q
  case a => walk_at "go"
  case b =>
    obtain ⟨ds, rfl⟩ := isT_tup hp
    rw [pair_len]
    walk_at "go"
  case q =>
    show R _
    have e : (isT "tuple" d && isPair d) = isPair d := by cases d <;> simp [isT, isPair]
    rw [take_all rfl, e]
    exact q
def spIsFrac : Pre := fun ss ms R => ∃ d, ss = [.d d] ∧ flat2 d = true ∧ R (.ret (.bl (isFrac d)) ms)
theorem use_isFrac {d : Dt} {ms : Ms} (h : flat2 d = true) : spIsFrac [.d d] ms (fun o => o = .ret (.bl (isFrac d)) ms) := ⟨d, rfl, h, rfl⟩
local macro_rules | `(tactic| walk_at "use") => `(tactic| (refine' use_isFrac ?_ <;> first | assumption | rfl | (simp; done)))
theorem pair_of {d : Dt} (h : isPair d = true) : ∃ a b, d = .tup [a, b] := by
  match d, h with
  | .tup [a, b], _ => exact ⟨a, b, rfl⟩
def ge1 : Dt → Bool
  | .int q => decide (1 ≤ q)
  | _ => false
theorem frac_pair {a b : Dt} : isFrac (.tup [a, b]) = (isI a && (isI b && ge1 b)) := by
  cases a <;> cases b <;> simp [isFrac, isI, ge1]
theorem frac_no {d : Dt} (h : isPair d = false) : isFrac d = isI d := by
  match d with
  | .tup [] => rfl
  | .tup [a] => cases a <;> rfl
  | .tup [_, _] => cases h
  | .tup (a :: b :: _ :: _) => cases a <;> cases b <;> rfl
  | .int _ => rfl
  | .non => rfl
  | .bl _ => rfl
  | .str _ => rfl
  | .lst _ => rfl
  | .obj _ _ => rfl
theorem ok_isFrac (B : Bi mg) (cP : Callee P w K mg base "is_pair" 1 spIsPair) (cI : Callee P w K mg base "is_integer" 1 spIsInt) (F : Fun K "is_fraction" "is_fraction" sIsFraction f fd) : FnOk P w K mg base (L2.CX P w) 2 f fd ["value"] (Pr K spIsFrac) := by
  refine body_ok F scIsFraction (fun ss ms R h => ?_) (fun cdv A outer s H E X hX hr tk hpo ss ms R h => ?_)
  · obtain ⟨d, rfl, _⟩ := h
    rfl
  obtain ⟨d, rfl, hd, q⟩ := h
  have hp := flat2_plain hd
  have hN : X.N = nIsFraction := by rw [hX]; rfl
  have nd := scIsFraction.nd
  subst hX
  conv => arg 2; whnf
  show PSs _ _ (tS _ _ _ [some (.d d)] _ _)
  refine' s_if ?c (fun hb => ?_) (fun hb => ?_)
  case c => walk_at "go"
  · obtain ⟨a, b, rfl⟩ := pair_of hb
    have ha : plainD a = true := by simp [flat2] at hd; exact hd.1
    have hbb : plainD b = true := by simp [flat2] at hd; exact hd.2
    rw [frac_pair] at q
    refine' s_ret (d := .bl (isI a && (isI b && ge1 b))) (Dv.d_and ?a (fun h1 => Dv.d_and ?b (fun h2 => ?c))) ?q
    case a => walk_at "go"
    case b => walk_at "go"
    case c =>
      obtain ⟨i, rfl⟩ := isI_int h2
      walk_at "go"
    case q =>
      show R _
      rw [take_all rfl]
      exact q
  · rw [frac_no hb] at q
    refine' s_nil ?_
    show PSs _ _ _
    walk_at "st"
    show R _
    rw [take_all rfl]
    exact q
end
end K02
namespace K02
open PySem PySem.Spec L2 Dv
section
variable {P : Program} {w : World} {K : PySem.W.Frag} {mg : Str → Option Value} {base : Heap} {f : Addr} {fd : FuncData} {scr : List Int}
local macro_rules | `(tactic| walk_at "use") => `(tactic| (refine' use_isInt ?_ <;> first | assumption | rfl | (simp; done)))
local macro_rules | `(tactic| walk_at "use") => `(tactic| (refine' use_isFrac ?_ <;> first | assumption | rfl | (simp; done)))
/-! ### _terms, _lowest, fraction -/
theorem frac_cases {d : Dt} (h : isFrac d = true) : (∃ i, d = .int i) ∨ ∃ p q, d = .tup [.int p, .int q] ∧ 1 ≤ q := by
  match d, h with
  | .int i, _ => exact .inl ⟨i, rfl⟩
  | .tup [.int p, .int q], h => exact .inr ⟨p, q, rfl, of_decide_eq_true h⟩
theorem terms_ok {d : Dt} (h : isFrac d = true) : 1 ≤ (terms d).2 := by
  rcases frac_cases h with ⟨i, rfl⟩ | ⟨p, q, rfl, z⟩
  · exact Int.le_refl 1
  · exact z
def oneStr (xs : List V) : Prop := ∃ s : Str, xs = [.str s] ∧ s.length ≤ 1000
def spTerms (C : Addr) : Pre := fun ss ms R => ∃ d s, ss = [.d d, .d (.str s)] ∧ s.length ≤ 1000 ∧ flat2 d = true ∧
  (isFrac d = true → R (.ret (.tup [.int (terms d).1, .int (terms d).2]) ms)) ∧ (isFrac d = false → R (.exc ⟨C, [("name", .str s)]⟩ ms))
theorem use_terms {C : Addr} {d : Dt} {s : Str} {ms : Ms} (hs : s.length ≤ 1000) (h : flat2 d = true) (hf : isFrac d = true) : spTerms C [.d d, .d (.str s)] ms (fun o => o = .ret (.tup [.int (terms d).1, .int (terms d).2]) ms) :=
  ⟨d, s, rfl, hs, h, fun _ => rfl, fun z => Bool.noConfusion (hf.symm.trans z)⟩
theorem use_termsX {C : Addr} {d : Dt} {s : Str} {ms : Ms} (hs : s.length ≤ 1000) (h : flat2 d = true) (hf : isFrac d = false) : spTerms C [.d d, .d (.str s)] ms (fun o => o = .exc ⟨C, [("name", .str s)]⟩ ms) :=
  ⟨d, s, rfl, hs, h, fun z => Bool.noConfusion (hf.symm.trans z), fun _ => rfl⟩
theorem ok_terms {C : Addr} (E1 : Err P w K mg base "InvalidFraction" C ["name"] oneStr) (cF : Callee P w K mg base "is_fraction" 2 spIsFrac) (cI : Callee P w K mg base "is_integer" 1 spIsInt) (F : Fun K "_terms" "_terms" sTerms f fd) :
    FnOk P w K mg base (L2.CX P w) 4 f fd ["value", "name"] (Pr K (spTerms C)) := by
  refine body_ok F scTerms (fun ss ms R h => ?_) (fun cdv A outer s H E X hX hr tk hpo ss ms R h => ?_)
  · obtain ⟨d, s, rfl, _⟩ := h
    rfl
  obtain ⟨d, nm, rfl, hs, hd, q1, q2⟩ := h
  have hp := flat2_plain hd
  have hN : X.N = nTerms := by rw [hX]; rfl
  have nd := scTerms.nd
  subst hX
  conv => arg 2; whnf
  show PSs _ _ (tS _ _ _ [some (.d d), some (.d (.str nm))] _ _)
  refine' s_if ?c (fun hb => ?_) (fun hb => ?_)
  case c => walk_at "go"
  · have hb' : isFrac d = false := by simpa using hb
    refine' s_raise (ds := [.str nm]) tk E1 ⟨rfl, rfl, rfl, rfl, rfl⟩ hr rfl rfl ?a rfl (by simp) (fun H vs r => ?ok) ?q
    case a => walk_at "go"
    case ok =>
      cases r with | cons r1 r2 =>
        cases r2
        cases r1
        exact ⟨nm, rfl, hs⟩
    case q =>
      show R _
      rw [take_all rfl]
      exact q2 hb'
  · have hb' : isFrac d = true := by simpa using hb
    have q := q1 hb'
    clear q1 q2
    refine' s_nil ?_
    show PSs _ _ _
    refine' s_if ?c (fun hb => ?_) (fun hb => ?_)
    case c => walk_at "go"
    · obtain ⟨i, rfl⟩ := isI_int hb
      walk_at "st"
      show R _
      rw [take_all rfl]
      exact q
    · rcases frac_cases hb' with ⟨i, rfl⟩ | ⟨a, b, rfl, z⟩
      · cases hb
      · refine' s_nil ?_
        show PSs _ _ _
        walk_at "st"
        show R _
        rw [take_all rfl]
        exact q
def spLow : Pre := fun ss ms R => ∃ p q : Int, ss = [.d (.int p), .d (.int q)] ∧ 1 ≤ q ∧ q.natAbs < 2 ^ 9000 ∧ R (.ret (.tup [.int (low p q).1, .int (low p q).2]) ms)
theorem use_low {p q : Int} {ms : Ms} (h : 1 ≤ q) (h2 : q.natAbs < 2 ^ 9000) : spLow [.d (.int p), .d (.int q)] ms (fun o => o = .ret (.tup [.int (low p q).1, .int (low p q).2]) ms) := ⟨p, q, rfl, h, h2, rfl⟩
theorem gcd_div {p q : Int} (h : 1 ≤ q) (h2 : q.natAbs < 2 ^ 9000) : CDivW p ((Nat.gcd p.natAbs q.natAbs : Nat) : Int) ∧ CDivW q ((Nat.gcd p.natAbs q.natAbs : Nat) : Int) := by
  have g0 : 0 < Nat.gcd p.natAbs q.natAbs := Nat.gcd_pos_of_pos_right _ (by omega)
  have g1 : Nat.gcd p.natAbs q.natAbs ≤ q.natAbs := Nat.gcd_le_right _ (by omega)
  have z : ((Nat.gcd p.natAbs q.natAbs : Nat) : Int).natAbs < 2 ^ 9000 := by
    rw [Int.natAbs_natCast]
    exact Nat.lt_of_le_of_lt g1 h2
  exact ⟨wide_div (by omega) z (by decide) (by decide), wide_div (by omega) z (by decide) (by decide)⟩
theorem ok_low (hg : mg "gcd" = some (.builtin "math.gcd")) (F : Fun K "_lowest" "_lowest" sLowest f fd) : FnOk P w K mg base (L2.CX P w) 1 f fd ["above", "below"] (Pr K spLow) := by
  refine body_ok F scLowest (fun ss ms R h => ?_) (fun cdv A outer s H E X hX hr tk hpo ss ms R h => ?_)
  · obtain ⟨p, q, rfl, _⟩ := h
    rfl
  obtain ⟨p, q, rfl, h1, h2, k⟩ := h
  have hN : X.N = nLowest := by rw [hX]; rfl
  have nd := scLowest.nd
  subst hX
  conv => arg 2; whnf
  show PSs _ _ (tS _ _ _ [some (.d (.int p)), some (.d (.int q)), none] _ _)
  obtain ⟨g1, g2⟩ := gcd_div h1 h2 (p := p)
  clear h2
  walk_at "st"
  walk_at "st"
  show R _
  rw [take_all rfl]
  exact k
end
end K02
namespace K02
open PySem PySem.Spec L2 Dv
structure Rng where
  pos : Nat
  carry : Int
  seed : Int
def stD (scr : List Int) (r : Rng) : List Dt := [.lst (scr.map Dt.int), .int r.pos, .int r.carry, .int r.seed]
structure Ok (scr : List Int) (r : Rng) : Prop where
  pos : r.pos ≤ scr.length
  carry : 0 ≤ r.carry
  s0 : 0 ≤ r.seed
  s1 : r.seed < 2147483647
def feed (scr : List Int) (r : Rng) : Rng :=
  if r.carry = 0 ∧ r.pos < scr.length then
    if scr.getD r.pos 0 ≥ 10 ^ 18 then ⟨r.pos + 1, scr.getD r.pos 0, r.seed⟩ else ⟨r.pos + 1, r.carry, (r.seed * 48271 + scr.getD r.pos 0 % 2147483629 + 1) % 2147483647⟩
  else r
def draw (r : Rng) (many : Int) : Int × Rng :=
  if r.carry > 0 then (r.carry % many, ⟨r.pos, r.carry / many, r.seed⟩)
  else
    let s := (r.seed * 69621 + 11) % 2147483647
    ((s * 40692 + s / 1009) % 2147483399 / 16 % many, ⟨r.pos, r.carry, s⟩)
def pull (scr : List Int) (r : Rng) (many : Int) : Int × Rng := draw (feed scr r) many
theorem Ok.feed {scr : List Int} {r : Rng} (h : Ok scr r) : Ok scr (feed scr r) := by
  unfold K02.feed
  split
  · rename_i c
    split
    · rename_i c2
      exact ⟨by have := c.2; show r.pos + 1 ≤ _; omega, by show 0 ≤ scr.getD r.pos 0; omega, h.s0, h.s1⟩
    · refine ⟨by have := c.2; show r.pos + 1 ≤ _; omega, h.carry, ?_, ?_⟩
      · exact Int.emod_nonneg _ (by decide)
      · exact Int.emod_lt_of_pos _ (by decide)
  · exact h
theorem Ok.draw {scr : List Int} {r : Rng} {many : Int} (h : Ok scr r) (hm : 0 < many) : Ok scr (draw r many).2 ∧ 0 ≤ (draw r many).1 ∧ (draw r many).1 < many := by
  unfold K02.draw
  split
  · exact ⟨⟨h.pos, Int.ediv_nonneg h.carry (by omega), h.s0, h.s1⟩, Int.emod_nonneg _ (by omega), Int.emod_lt_of_pos _ hm⟩
  · exact ⟨⟨h.pos, h.carry, Int.emod_nonneg _ (by decide), Int.emod_lt_of_pos _ (by decide)⟩, Int.emod_nonneg _ (by omega), Int.emod_lt_of_pos _ hm⟩
theorem Ok.pull {scr : List Int} {r : Rng} {many : Int} (h : Ok scr r) (hm : 0 < many) : Ok scr (pull scr r many).2 ∧ 0 ≤ (pull scr r many).1 ∧ (pull scr r many).1 < many := h.feed.draw hm
def spPull (scr : List Int) : Pre := fun ss ms R => ∃ k r many, ss = [.m k, .d (.int many)] ∧ ms[k]? = some (some (stD scr r)) ∧ Ok scr r ∧ 0 < many ∧ many.natAbs.log2 < 9000 ∧
  R (.ret (.int (pull scr r many).1) (ms.set k (some (stD scr (pull scr r many).2))))
theorem use_pull {scr : List Int} {k : Nat} {r : Rng} {many : Int} {ms : Ms} (hk : ms[k]? = some (some (stD scr r))) (ok : Ok scr r) (h0 : 0 < many) (h1 : many.natAbs.log2 < 9000) :
    spPull scr [.m k, .d (.int many)] ms (fun o => o = .ret (.int (pull scr r many).1) (ms.set k (some (stD scr (pull scr r many).2)))) := ⟨k, r, many, rfl, hk, ok, h0, h1, rfl⟩
section
variable {P : Program} {w : World} {K : PySem.W.Frag} {mg : Str → Option Value} {base : Heap} {f : Addr} {fd : FuncData} {scr : List Int}
theorem ok_pull (B : Bi mg) (F : Fun K "_law_pull" "_law_pull" sLPull f fd) : FnOk P w K mg base (L2.CX P w) 1 f fd ["_law_state", "_law_many"] (Pr K (spPull scr)) := by
  refine body_ok F scLPull (fun ss ms R h => ?_) (fun cdv A outer s H E X hX hr tk hpo ss ms R h => ?_)
  · obtain ⟨k, r, many, rfl, _⟩ := h
    rfl
  obtain ⟨k, r, many, rfl, hk, ok, h0, h1, q⟩ := h
  obtain ⟨mlen, mint, mabs, misi, mrange, mlist, mtuple, mbool, mstr⟩ := B
  have hN : X.N = nLPull := by rw [hX]; rfl
  have nd := scLPull.nd
  subst hX
  conv => arg 2; whnf
  show PSs _ _ (tS _ _ _ [some (.m k), some (.d (.int many)), none, none] _ _)
  refine' s_ifM (fun es' ms' => ∃ c, es' = [some (.m k), some (.d (.int many)), c, none] ∧ ms' = ms.set k (some (stD scr (feed scr r)))) ?c (fun hb => ?_) (fun hb => ?_) (fun es' ms' h => ?_)
  case c => walk_at "go"
  · have hc : r.carry = 0 ∧ r.pos < scr.length := by simpa using hb
    have hx : L2.atI (scr.map Dt.int) r.pos = some (.int (scr.getD r.pos 0)) := atI_map (by omega) (by simp [hc.2])
    walk_at "st"
    walk_at "st"
    refine' s_if ?c (fun hb => ?_) (fun hb => ?_)
    case c => walk_at "go"
    · have h2 : scr.getD r.pos 0 ≥ 10 ^ 18 := by simpa using hb
      have e : feed scr r = ⟨r.pos + 1, scr.getD r.pos 0, r.seed⟩ := by unfold feed; rw [if_pos hc, if_pos h2]
      walk_at "st"
      walk_at "st"
      walk_at "st"
      refine ⟨_, rfl, ?_⟩
      rw [ms_twice, e]
      rfl
    · have h2 : ¬ scr.getD r.pos 0 ≥ 10 ^ 18 := by
        have := of_decide_eq_false hb
        simpa using this
      have e : feed scr r = ⟨r.pos + 1, r.carry, (r.seed * 48271 + scr.getD r.pos 0 % 2147483629 + 1) % 2147483647⟩ := by unfold feed; rw [if_pos hc, if_neg h2]
      have s0 := ok.s0
      have s1 := ok.s1
      walk_at "st"
      walk_at "st"
      walk_at "st"
      refine ⟨_, rfl, ?_⟩
      rw [ms_twice, e]
      rfl
  · have hc : ¬ (r.carry = 0 ∧ r.pos < scr.length) := by simpa using hb
    have e : feed scr r = r := by unfold feed; rw [if_neg hc]
    walk_at "st"
    exact ⟨_, rfl, by rw [e, ms_same hk]⟩
  · obtain ⟨c, rfl, rfl⟩ := h
    have ok2 := ok.feed
    have hk2 := ms_set (z := some (stD scr (feed scr r))) hk
    unfold pull at q
    generalize feed scr r = t at *
    have t0 := ok2.s0
    have t1 := ok2.s1
    have t2 := ok2.carry
    refine' s_if ?c (fun hb => ?_) (fun hb => ?_)
    case c => walk_at "go"
    · have h2 : t.carry > 0 := by simpa using hb
      have e : draw t many = (t.carry % many, ⟨t.pos, t.carry / many, t.seed⟩) := by unfold draw; rw [if_pos h2]
      walk_at "st"
      walk_at "st"
      walk_at "st"
      show R _
      rw [List.take_of_length_le (by simp), ms_twice]
      rw [e] at q
      exact q
    · have h2 : ¬ t.carry > 0 := by simpa using hb
      have e : draw t many = ((((t.seed * 69621 + 11) % 2147483647 * 40692 + (t.seed * 69621 + 11) % 2147483647 / 1009) % 2147483399 / 16 % many, ⟨t.pos, t.carry, (t.seed * 69621 + 11) % 2147483647⟩) : Int × Rng) := by unfold draw; rw [if_neg h2]
      walk_at "st"
      have u0 : 0 ≤ (t.seed * 69621 + 11) % 2147483647 := Int.emod_nonneg _ (by decide)
      have u1 : (t.seed * 69621 + 11) % 2147483647 < 2147483647 := Int.emod_lt_of_pos _ (by decide)
      rw [e] at q
      walk_at "st"
      walk_at "st"
      walk_at "st"
      show R _
      rw [List.take_of_length_le (by simp), ms_twice]
      exact q
end
end K02
namespace K02
open PySem PySem.Spec L2 Dv
section
variable {P : Program} {w : World} {K : PySem.W.Frag} {mg : Str → Option Value} {base : Heap} {f : Addr} {fd : FuncData} {scr : List Int}
local macro_rules | `(tactic| walk_at "use") => `(tactic| (refine' use_isInt ?_ <;> first | assumption | rfl | (simp; done)))
/-! ### same -/
mutual
def sameD : Dt → Dt → Bool
  | t, .non => isNon t
  | t, .bl b => (match t with | .bl c => decide (c = b) | _ => false)
  | t, .int b => (match t with | .int c => decide (c = b) | _ => false)
  | t, .str b => (match t with | .str c => decide (c = b) | _ => false)
  | t, .lst ds => (match t with | .lst cs => sameL cs ds | _ => false)
  | t, .tup ds => (match t with | .tup cs => sameL cs ds | _ => false)
  | _, .obj _ _ => false
def sameL : List Dt → List Dt → Bool
  | [], [] => true
  | c :: cs, d :: ds => sameD c d && sameL cs ds
  | _, _ => false
end
mutual
theorem same_refl : ∀ (d : Dt), deepP d = true → sameD d d = true
  | .non, _ => rfl
  | .bl _, _ => by simp [sameD]
  | .int _, _ => by simp [sameD]
  | .str _, _ => by simp [sameD]
  | .lst ds, h => by simp only [sameD]; exact sameL_refl ds (deep_lst h).1
  | .tup ds, h => by simp only [sameD]; exact sameL_refl ds (deep_tup h).1
  | .obj _ _, h => by simp [deepP] at h
theorem sameL_refl : ∀ (ds : List Dt), deepL ds = true → sameL ds ds = true
  | [], _ => rfl
  | d :: ds, h => by
    simp [deepL] at h
    simp [sameL, same_refl d h.1, sameL_refl ds h.2]
end
theorem same_non {c : Dt} : sameD c .non = isNon c := by simp [sameD]
theorem sameL_len : ∀ {cs ds : List Dt}, sameL cs ds = true → cs.length = ds.length
  | [], [], _ => rfl
  | _ :: cs, _ :: ds, h => by
    simp [sameL] at h
    simp [sameL_len h.2]
  | [], _ :: _, h => by simp [sameL] at h
  | _ :: _, [], h => by simp [sameL] at h
theorem sameL_at : ∀ {cs ds : List Dt} {i : Nat} {c d : Dt}, sameL cs ds = true → cs[i]? = some c → ds[i]? = some d → sameD c d = true
  | [], _, _, _, _, _, h, _ => by simp at h
  | _ :: _, [], _, _, _, _, _, h => by simp at h
  | a :: cs, b :: ds, 0, c, d, h, h1, h2 => by
    simp [sameL] at h
    simp at h1 h2
    subst h1
    subst h2
    exact h.1
  | a :: cs, b :: ds, i + 1, c, d, h, h1, h2 => by
    simp [sameL] at h
    exact sameL_at h.2 (by simpa using h1) (by simpa using h2)
theorem sameL_of : ∀ {cs ds : List Dt}, cs.length = ds.length → (∀ (i : Nat) c d, cs[i]? = some c → ds[i]? = some d → sameD c d = true) → sameL cs ds = true
  | [], [], _, _ => rfl
  | [], _ :: _, h, _ => by simp at h
  | _ :: _, [], h, _ => by simp at h
  | a :: cs, b :: ds, h, q => by
    have h1 := q 0 a b rfl rfl
    have h2 := sameL_of (cs := cs) (ds := ds) (by simpa using h) fun i c d hc hd => q (i + 1) c d (by simpa using hc) (by simpa using hd)
    simp [sameL, h1, h2]
def spSame (n : Nat) : Pre := fun ss ms R => ∃ c d, ss = [.d c, .d d] ∧ deepP c = true ∧ deepP d = true ∧ depth d < n ∧ R (.ret (.bl (sameD c d)) ms)
theorem use_same {n : Nat} {c d : Dt} {ms : Ms} (hc : deepP c = true) (hd : deepP d = true) (h : depth d < n) : spSame n [.d c, .d d] ms (fun o => o = .ret (.bl (sameD c d)) ms) := ⟨c, d, rfl, hc, hd, h, rfl⟩
local macro_rules | `(tactic| walk_at "use") => `(tactic| (refine' use_same ?_ ?_ ?_ <;> first | assumption | omega | (simp [deepP, deepL, depth, depthL]; done)))
theorem ok_same (B : Bi mg) (cI : Callee P w K mg base "_law_is_int" 1 spIsInt) {n : Nat} (cS : Callee P w K mg base "_law_same" (n + 1) (spSame n)) (F : Fun K "_law_same" "_law_same" sLSame f fd) : FnOk P w K mg base (L2.CX P w) (n + 2) f fd ["_law_told", "_law_due_here"] (Pr K (spSame (n + 1))) := by
  refine body_ok F scLSame (fun ss ms R h => ?_) (fun cdv A outer s H E X hX hr tk hpo ss ms R h => ?_)
  · obtain ⟨c, d, rfl, _⟩ := h
    rfl
  obtain ⟨c, d, rfl, hc, hd, hn, q⟩ := h
  obtain ⟨mlen, mint, mabs, misi, mrange, mlist, mtuple, mbool, mstr⟩ := B
  have pc := deep_plain hc
  have pd := deep_plain hd
  have hN : X.N = nLSame := by rw [hX]; rfl
  have nd := scLSame.nd
  subst hX
  conv => arg 2; whnf
  show PSs _ _ (tS _ _ _ [some (.d c), some (.d d), none] _ _)
  have seq : ∀ (cs ds : List Dt), (c = .lst cs ∧ d = .lst ds ∨ c = .tup cs ∧ d = .tup ds) → True := fun _ _ _ => trivial
  cases d with
  | non =>
    walk_at "ifT"
    walk_at "st"
    show R _
    rw [take_all rfl, ← same_non]
    exact q
  | bl b =>
    walk_at "ifF"
    walk_at "ifT"
    refine' s_ret (d := .bl (isT "bool" c && sameD c (.bl b))) (Dv.d_and ?a (fun hp => ?b)) ?q
    case a => walk_at "go"
    case b =>
      obtain ⟨x, rfl⟩ := isT_bool hp
      walk_at "go"
    case q =>
      show R _
      have e : (isT "bool" c && sameD c (.bl b)) = sameD c (.bl b) := by cases c <;> simp [isT, sameD]
      rw [take_all rfl, e]
      exact q
  | int b =>
    walk_at "ifF"
    walk_at "ifF"
    walk_at "ifT"
    refine' s_ret (d := .bl (isI c && sameD c (.int b))) (Dv.d_and ?a (fun hp => ?b)) ?q
    case a => walk_at "go"
    case b =>
      obtain ⟨x, rfl⟩ := isI_int hp
      walk_at "go"
    case q =>
      show R _
      have e : (isI c && sameD c (.int b)) = sameD c (.int b) := by cases c <;> simp [isI, sameD]
      rw [take_all rfl, e]
      exact q
  | str b =>
    walk_at "ifF"
    walk_at "ifF"
    walk_at "ifF"
    walk_at "ifT"
    refine' s_ret (d := .bl (isT "str" c && sameD c (.str b))) (Dv.d_and ?a (fun hp => ?b)) ?q
    case a => walk_at "go"
    case b =>
      obtain ⟨x, rfl⟩ := isT_str hp
      walk_at "go"
    case q =>
      show R _
      have e : (isT "str" c && sameD c (.str b)) = sameD c (.str b) := by cases c <;> simp [isT, sameD]
      rw [take_all rfl, e]
      exact q
  | lst ds =>
    walk_at "ifF"
    walk_at "ifF"
    walk_at "ifF"
    walk_at "ifF"
    have dl : depthL ds < n := by simp only [depth] at hn; omega
    obtain ⟨dds, hlen⟩ := deep_lst hd
    by_cases hl : isT "list" c = true
    · obtain ⟨cs, rfl⟩ := isT_lst hl
      obtain ⟨dcs, _⟩ := deep_lst hc
      walk_at "ifF"
      walk_at "ifF"
      refine' s_if ?c (fun hb => ?_) (fun hb => ?_)
      case c => walk_at "go"
      · walk_at "st"
        show R _
        have hne : cs.length ≠ ds.length := by simp at hb; omega
        have e : sameD (.lst cs) (.lst ds) = false := by
          cases z : sameD (.lst cs) (.lst ds) with
          | false => rfl
          | true =>
            simp only [sameD] at z
            exact absurd (sameL_len z) hne
        rw [take_all rfl, ← e]
        exact q
      · have heq : cs.length = ds.length := by simp at hb; omega
        walk_at "st"
        refine' s_for (I := fun i es' ms' => ∃ o, es' = [some (.d (.lst cs)), some (.d (.lst ds)), o] ∧ ms' = ms ∧ ∀ j c d, j < i → cs[j]? = some c → ds[j]? = some d → sameD c d = true) ?it ?tg ?h0 (fun i d es' ms' hd1 hI => ?turn) (fun es' ms' hI => ?after) hpo rfl
        case it => exact i_rng rfl (by assumption) (by walk_at "go") ⟨by omega, by omega⟩
        case tg => exact tg_name hN nd (by decide)
        case h0 => exact ⟨_, rfl, rfl, fun j c d hj => absurd hj (by omega)⟩
        case turn =>
          obtain ⟨o, rfl, rfl, hI⟩ := hI
          obtain ⟨hi, rfl⟩ := irange_at hd1
          have hi2 : i < ds.length := by omega
          have hi3 : i < cs.length := by omega
          have gd : ds[i]? = some ds[i] := List.getElem?_eq_getElem hi2
          have gc : cs[i]? = some cs[i] := List.getElem?_eq_getElem hi3
          have xd : L2.atI ds (0 + (i : Int)) = some ds[i] := by rw [Int.zero_add]; exact atI_nat gd
          have xc : L2.atI cs (0 + (i : Int)) = some cs[i] := by rw [Int.zero_add]; exact atI_nat gc
          have p1 := deepL_at dcs gc
          have p2 := deepL_at dds gd
          have p3 : depth ds[i] < n := Nat.lt_of_le_of_lt (depthL_at gd) dl
          refine ⟨_, .there (.there .here), ?_⟩
          refine' s_if ?c (fun hb => ?_) (fun hb => ?_)
          case c => walk_at "go"
          · walk_at "st"
            show R _
            have hb' : sameD cs[i] ds[i] = false := by simpa using hb
            have e : sameD (.lst cs) (.lst ds) = false := by
              cases z : sameD (.lst cs) (.lst ds) with
              | false => rfl
              | true =>
                simp only [sameD] at z
                rw [sameL_at z gc gd] at hb'
                cases hb'
            rw [take_all rfl, ← e]
            exact q
          · walk_at "st"
            refine' s_nil ?_
            refine ⟨_, rfl, rfl, fun j c d hj h1 h2 => ?_⟩
            by_cases cj : j < i
            · exact hI j c d cj h1 h2
            · have : j = i := by omega
              subst this
              rw [gc] at h1
              rw [gd] at h2
              cases h1
              cases h2
              simpa using hb
        case after =>
          obtain ⟨o, rfl, rfl, hI⟩ := hI
          rw [irange_len] at hI
          walk_at "st"
          show R _
          have e : sameD (.lst cs) (.lst ds) = true := by
            simp only [sameD]
            refine sameL_of heq fun i c d h1 h2 => hI i c d ?_ h1 h2
            have := (List.getElem?_eq_some_iff.mp h2).1
            omega
          rw [take_all rfl, ← e]
          exact q
    · have hl2 : isT "list" c = false := by simpa using hl
      refine' s_if ?c (fun hb => ?_) (fun hb => ?_)
      case c => walk_at "go"
      · walk_at "st"
        show R _
        have e : sameD c (.lst ds) = false := by cases c <;> simp [sameD, isT] at hl2 ⊢
        rw [take_all rfl, ← e]
        exact q
      · exact absurd hb (by rw [hl2]; simp [isT])
  | tup ds =>
    walk_at "ifF"
    walk_at "ifF"
    walk_at "ifF"
    walk_at "ifF"
    have dl : depthL ds < n := by simp only [depth] at hn; omega
    obtain ⟨dds, hlen⟩ := deep_tup hd
    by_cases hl : isT "tuple" c = true
    · obtain ⟨cs, rfl⟩ := isT_tup hl
      obtain ⟨dcs, _⟩ := deep_tup hc
      walk_at "ifF"
      walk_at "ifF"
      refine' s_if ?c (fun hb => ?_) (fun hb => ?_)
      case c => walk_at "go"
      · walk_at "st"
        show R _
        have hne : cs.length ≠ ds.length := by simp at hb; omega
        have e : sameD (.tup cs) (.tup ds) = false := by
          cases z : sameD (.tup cs) (.tup ds) with
          | false => rfl
          | true =>
            simp only [sameD] at z
            exact absurd (sameL_len z) hne
        rw [take_all rfl, ← e]
        exact q
      · have heq : cs.length = ds.length := by simp at hb; omega
        walk_at "st"
        refine' s_for (I := fun i es' ms' => ∃ o, es' = [some (.d (.tup cs)), some (.d (.tup ds)), o] ∧ ms' = ms ∧ ∀ j c d, j < i → cs[j]? = some c → ds[j]? = some d → sameD c d = true) ?it ?tg ?h0 (fun i d es' ms' hd1 hI => ?turn) (fun es' ms' hI => ?after) hpo rfl
        case it => exact i_rng rfl (by assumption) (by walk_at "go") ⟨by omega, by omega⟩
        case tg => exact tg_name hN nd (by decide)
        case h0 => exact ⟨_, rfl, rfl, fun j c d hj => absurd hj (by omega)⟩
        case turn =>
          obtain ⟨o, rfl, rfl, hI⟩ := hI
          obtain ⟨hi, rfl⟩ := irange_at hd1
          have hi2 : i < ds.length := by omega
          have hi3 : i < cs.length := by omega
          have gd : ds[i]? = some ds[i] := List.getElem?_eq_getElem hi2
          have gc : cs[i]? = some cs[i] := List.getElem?_eq_getElem hi3
          have xd : L2.atI ds (0 + (i : Int)) = some ds[i] := by rw [Int.zero_add]; exact atI_nat gd
          have xc : L2.atI cs (0 + (i : Int)) = some cs[i] := by rw [Int.zero_add]; exact atI_nat gc
          have p1 := deepL_at dcs gc
          have p2 := deepL_at dds gd
          have p3 : depth ds[i] < n := Nat.lt_of_le_of_lt (depthL_at gd) dl
          refine ⟨_, .there (.there .here), ?_⟩
          refine' s_if ?c (fun hb => ?_) (fun hb => ?_)
          case c => walk_at "go"
          · walk_at "st"
            show R _
            have hb' : sameD cs[i] ds[i] = false := by simpa using hb
            have e : sameD (.tup cs) (.tup ds) = false := by
              cases z : sameD (.tup cs) (.tup ds) with
              | false => rfl
              | true =>
                simp only [sameD] at z
                rw [sameL_at z gc gd] at hb'
                cases hb'
            rw [take_all rfl, ← e]
            exact q
          · walk_at "st"
            refine' s_nil ?_
            refine ⟨_, rfl, rfl, fun j c d hj h1 h2 => ?_⟩
            by_cases cj : j < i
            · exact hI j c d cj h1 h2
            · have : j = i := by omega
              subst this
              rw [gc] at h1
              rw [gd] at h2
              cases h1
              cases h2
              simpa using hb
        case after =>
          obtain ⟨o, rfl, rfl, hI⟩ := hI
          rw [irange_len] at hI
          walk_at "st"
          show R _
          have e : sameD (.tup cs) (.tup ds) = true := by
            simp only [sameD]
            refine sameL_of heq fun i c d h1 h2 => hI i c d ?_ h1 h2
            have := (List.getElem?_eq_some_iff.mp h2).1
            omega
          rw [take_all rfl, ← e]
          exact q
    · have hl2 : isT "tuple" c = false := by simpa using hl
      walk_at "ifF"
      refine' s_if ?c (fun hb => ?_) (fun hb => ?_)
      case c => walk_at "go"
      · walk_at "st"
        show R _
        have e : sameD c (.tup ds) = false := by cases c <;> simp [sameD, isT] at hl2 ⊢
        rw [take_all rfl, ← e]
        exact q
      · exact absurd hb (by rw [hl2]; simp [isT])
  | obj _ _ => cases pd
end
end K02
namespace K02
open PySem PySem.Spec L2 Dv
section
variable {P : Program} {w : World} {K : PySem.W.Frag} {mg : Str → Option Value} {base : Heap} {f : Addr} {fd : FuncData} {scr : List Int}
/-! ### the law's gcd, low, start -/
def spGcd : Pre := fun ss ms R => ∃ a b : Int, ss = [.d (.int a), .d (.int b)] ∧ 0 ≤ a ∧ 0 ≤ b ∧ R (.ret (.int (Int.gcd a b : Int)) ms)
theorem use_gcd {a b : Int} {ms : Ms} (h : 0 ≤ a) (h2 : 0 ≤ b) : spGcd [.d (.int a), .d (.int b)] ms (fun o => o = .ret (.int (Int.gcd a b : Int)) ms) := ⟨a, b, rfl, h, h2, rfl⟩
theorem gcd_step {a b : Int} (ha : 0 ≤ a) (hb : 0 < b) : Int.gcd b (a % b) = Int.gcd a b := by
  obtain ⟨x, rfl⟩ := Int.eq_ofNat_of_zero_le ha
  obtain ⟨y, rfl⟩ := Int.eq_ofNat_of_zero_le (Int.le_of_lt hb)
  rw [← Int.natCast_emod]
  show Nat.gcd y (x % y) = Nat.gcd x y
  rw [Nat.gcd_comm x y, Nat.gcd_rec y x, Nat.gcd_comm]
theorem ok_gcd (B : Bi mg) (F : Fun K "_law_gcd" "_law_gcd" sLGcd f fd) : FnOk P w K mg base (L2.CX P w) 1 f fd ["_law_one", "_law_other"] (Pr K spGcd) := by
  refine body_ok F scLGcd (fun ss ms R h => ?_) (fun cdv A outer s H E X hX hr tk hpo ss ms R h => ?_)
  · obtain ⟨a, b, rfl, _⟩ := h
    rfl
  obtain ⟨a, b, rfl, ha, hb, q⟩ := h
  obtain ⟨mlen, mint, mabs, misi, mrange, mlist, mtuple, mbool, mstr⟩ := B
  have hN : X.N = nLGcd := by rw [hX]; rfl
  have nd := scLGcd.nd
  subst hX
  conv => arg 2; whnf
  show PSs _ _ (tS _ _ _ [some (.d (.int a)), some (.d (.int b)), none] _ _)
  refine' s_while (fun m es' ms' => ∃ (x y : Int) (o : Option Sv), es' = [some (.d (.int x)), some (.d (.int y)), o] ∧ ms' = ms ∧ 0 ≤ x ∧ 0 ≤ y ∧ Int.gcd x y = Int.gcd a b ∧ m = y.toNat) (m0 := b.toNat) ⟨a, b, none, rfl, rfl, ha, hb, rfl, rfl⟩ (fun m es' ms' h => ?_) hpo
  obtain ⟨x, y, o, rfl, rfl, hx, hy, hg, rfl⟩ := h
  refine' ⟨_, _, ?c, fun ht => ?_, fun ht => ?_⟩
  case c => walk_at "go"
  · have hy2 : 0 < y := by
      have : ¬ y = 0 := by simpa using ht
      omega
    walk_at "st"
    walk_at "st"
    walk_at "st"
    refine' s_nil ?_
    have h1 := Int.emod_nonneg x (show y ≠ 0 by omega)
    have h2 := Int.emod_lt_of_pos x hy2
    exact ⟨_, by omega, y, x % y, _, rfl, rfl, hy, h1, (gcd_step hx hy2).trans hg, rfl⟩
  · have hy2 : y = 0 := by simpa using ht
    subst hy2
    walk_at "st"
    show R _
    have : x = (Int.gcd a b : Int) := by
      rw [← hg, Int.gcd_zero_right]
      omega
    rw [take_all rfl, this]
    exact q
def spLLow : Pre := fun ss ms R => ∃ p q : Int, ss = [.d (.int p), .d (.int q)] ∧ 1 ≤ q ∧ q.natAbs < 2 ^ 9000 ∧ R (.ret (.tup [.int (low p q).1, .int (low p q).2]) ms)
theorem use_llow {p q : Int} {ms : Ms} (h : 1 ≤ q) (h2 : q.natAbs < 2 ^ 9000) : spLLow [.d (.int p), .d (.int q)] ms (fun o => o = .ret (.tup [.int (low p q).1, .int (low p q).2]) ms) := ⟨p, q, rfl, h, h2, rfl⟩
local macro_rules | `(tactic| walk_at "use") => `(tactic| (refine' use_gcd ?_ ?_ <;> first | assumption | omega))
theorem ok_llow (B : Bi mg) (cG : Callee P w K mg base "_law_gcd" 1 spGcd) (F : Fun K "_law_low" "_law_low" sLLow f fd) : FnOk P w K mg base (L2.CX P w) 2 f fd ["_law_top", "_law_bottom"] (Pr K spLLow) := by
  refine body_ok F scLLow (fun ss ms R h => ?_) (fun cdv A outer s H E X hX hr tk hpo ss ms R h => ?_)
  · obtain ⟨p, q, rfl, _⟩ := h
    rfl
  obtain ⟨p, q, rfl, h1, h2, k⟩ := h
  obtain ⟨mlen, mint, mabs, misi, mrange, mlist, mtuple, mbool, mstr⟩ := B
  have hN : X.N = nLLow := by rw [hX]; rfl
  have nd := scLLow.nd
  subst hX
  conv => arg 2; whnf
  show PSs _ _ (tS _ _ _ [some (.d (.int p)), some (.d (.int q)), none] _ _)
  obtain ⟨g1, g2⟩ := gcd_div h1 h2 (p := p)
  clear h2
  have eg : Int.gcd (p.natAbs : Int) q = Nat.gcd p.natAbs q.natAbs := by simp [Int.gcd]
  rw [← eg] at g1 g2
  refine' s_if ?c (fun hb => ?_) (fun hb => ?_)
  case c => walk_at "go"
  · have : q < 0 := by simpa using hb
    omega
  · walk_at "st"
    walk_at "st"
    walk_at "st"
    show R _
    rw [take_all rfl, eg]
    exact k
def spStart : Pre := fun ss ms R => ∃ scr : List Int, ss = [.d (.lst (scr.map Dt.int))] ∧ R (.nw (stD scr ⟨0, 0, 1234577⟩) ms)
theorem use_start {scr : List Int} {ms : Ms} : spStart [.d (.lst (scr.map Dt.int))] ms (fun o => o = .nw (stD scr ⟨0, 0, 1234577⟩) ms) := ⟨scr, rfl, rfl⟩
theorem ok_start (B : Bi mg) (F : Fun K "_law_start" "_law_start" sLStart f fd) : FnOk P w K mg base (L2.CX P w) 1 f fd ["_law_script"] (Pr K spStart) := by
  refine body_ok F scLStart (fun ss ms R h => ?_) (fun cdv A outer s H E X hX hr tk hpo ss ms R h => ?_)
  · obtain ⟨scr, rfl, _⟩ := h
    rfl
  obtain ⟨scr, rfl, q⟩ := h
  obtain ⟨mlen, mint, mabs, misi, mrange, mlist, mtuple, mbool, mstr⟩ := B
  have hN : X.N = nLStart := by rw [hX]; rfl
  have nd := scLStart.nd
  subst hX
  conv => arg 2; whnf
  show PSs _ _ (tS _ _ _ [some (.d (.lst (scr.map Dt.int)))] _ _)
  refine' s_retL (n_lst4 ?a) ?q
  case a =>
    refine' a_cons (d_ofN (n_list rfl (by assumption) ?x (.inl rfl))) ?r
    case x => walk_at "go"
    case r => walk_at "go"
  case q =>
    show _ ∧ R _
    rw [take_all rfl]
    exact ⟨Nat.le_refl _, q⟩
end
end K02
namespace K02
open PySem PySem.Spec L2 Dv
/-! ### big, integer, number -/
def bigL (scr : List Int) (r : Rng) : Nat → Int × Rng
  | 0 => (0, r)
  | n + 1 => ((bigL scr r n).1 * 100000007 + (pull scr (bigL scr r n).2 100000007).1, (pull scr (bigL scr r n).2 100000007).2)
theorem bigL_ok {scr : List Int} {r : Rng} (h : Ok scr r) : ∀ n : Nat, Ok scr (bigL scr r n).2 ∧ 0 ≤ (bigL scr r n).1 ∧ (bigL scr r n).1 < 100000007 ^ n
  | 0 => ⟨h, Int.le_refl 0, Int.zero_lt_one⟩
  | n + 1 => by
    obtain ⟨h1, h2, h3⟩ := bigL_ok h n
    obtain ⟨g1, g2, g3⟩ := h1.pull (many := 100000007) (by decide)
    refine ⟨g1, ?_, ?_⟩
    · show 0 ≤ (bigL scr r n).1 * 100000007 + (pull scr (bigL scr r n).2 100000007).1
      omega
    · show (bigL scr r n).1 * 100000007 + (pull scr (bigL scr r n).2 100000007).1 < 100000007 ^ (n + 1)
      rw [Int.pow_succ]
      omega
theorem pow_six : ∀ n : Nat, n < 6 → (100000007 : Int) ^ n < 2 ^ 200
  | 0, _ => by decide
  | 1, _ => by decide
  | 2, _ => by decide
  | 3, _ => by decide
  | 4, _ => by decide
  | 5, _ => by decide
  | n + 6, h => absurd h (by omega)
theorem bigL_mul {scr : List Int} {r : Rng} (h : Ok scr r) {n : Nat} (hn : n < 6) : CMulW (bigL scr r n).1 100000007 := by
  obtain ⟨h1, h2, h3⟩ := bigL_ok h n
  have h4 : (100000007 : Int) ^ n < 2 ^ 200 := pow_six n hn
  refine wide_mul (a := 200) (b := 64) ?_ (by decide) (by decide) (by decide) (by decide)
  have : (bigL scr r n).1 < 2 ^ 200 := Int.lt_trans h3 h4
  clear h3 h4
  omega
def big (scr : List Int) (r : Rng) (many : Int) : Int × Rng := ((bigL scr r 6).1 % many, (bigL scr r 6).2)
def spBig (scr : List Int) : Pre := fun ss ms R => ∃ k r many, ss = [.m k, .d (.int many)] ∧ ms[k]? = some (some (stD scr r)) ∧ Ok scr r ∧ 0 < many ∧ R (.ret (.int (big scr r many).1) (ms.set k (some (stD scr (big scr r many).2))))
theorem use_big {scr : List Int} {k : Nat} {r : Rng} {many : Int} {ms : Ms} (hk : ms[k]? = some (some (stD scr r))) (ok : Ok scr r) (h0 : 0 < many) :
    spBig scr [.m k, .d (.int many)] ms (fun o => o = .ret (.int (big scr r many).1) (ms.set k (some (stD scr (big scr r many).2)))) := ⟨k, r, many, rfl, hk, ok, h0, rfl⟩
theorem big_ok {scr : List Int} {r : Rng} {many : Int} (h : Ok scr r) (h0 : 0 < many) : Ok scr (big scr r many).2 ∧ 0 ≤ (big scr r many).1 ∧ (big scr r many).1 < many :=
  ⟨(bigL_ok h 6).1, Int.emod_nonneg _ (by omega), Int.emod_lt_of_pos _ h0⟩
def integer (scr : List Int) (r : Rng) : Int × Rng :=
  if (pull scr r 2).1 = 0 then ((pull scr (pull scr r 2).2 41).1 - 20, (pull scr (pull scr r 2).2 41).2)
  else ((big scr (pull scr r 2).2 (2 * 10 ^ 40 - 1)).1 - 10 ^ 40 + 1, (big scr (pull scr r 2).2 (2 * 10 ^ 40 - 1)).2)
theorem integer_ok {scr : List Int} {r : Rng} (h : Ok scr r) : Ok scr (integer scr r).2 ∧ -(10 ^ 40) < (integer scr r).1 ∧ (integer scr r).1 < 10 ^ 40 := by
  obtain ⟨g1, _⟩ := h.pull (many := 2) (by decide)
  unfold integer
  split
  · obtain ⟨f1, f2, f3⟩ := g1.pull (many := 41) (by decide)
    refine ⟨f1, ?_, ?_⟩ <;> dsimp only <;> omega
  · obtain ⟨f1, f2, f3⟩ := big_ok g1 (many := 2 * 10 ^ 40 - 1) (by decide)
    refine ⟨f1, ?_, ?_⟩ <;> dsimp only <;> omega
def spInteger (scr : List Int) : Pre := fun ss ms R => ∃ k r, ss = [.m k] ∧ ms[k]? = some (some (stD scr r)) ∧ Ok scr r ∧ R (.ret (.int (integer scr r).1) (ms.set k (some (stD scr (integer scr r).2))))
theorem use_integer {scr : List Int} {k : Nat} {r : Rng} {ms : Ms} (hk : ms[k]? = some (some (stD scr r))) (ok : Ok scr r) :
    spInteger scr [.m k] ms (fun o => o = .ret (.int (integer scr r).1) (ms.set k (some (stD scr (integer scr r).2)))) := ⟨k, r, rfl, hk, ok, rfl⟩
local macro_rules | `(tactic| walk_at "okr") => `(tactic| first | assumption | exact (Ok.pull (by assumption) (by decide)).1 | exact (Ok.pull (Ok.pull (by assumption) (by decide)).1 (by decide)).1)
local macro_rules | `(tactic| walk_at "use") => `(tactic| (refine' use_pull ?_ ?_ ?_ ?_ <;> first | (fail_if_success show (_ : Prop)) | walk_at "ms" | walk_at "okr" | decide | assumption))
section
variable {P : Program} {w : World} {K : PySem.W.Frag} {mg : Str → Option Value} {base : Heap} {f : Addr} {fd : FuncData} {scr : List Int}
theorem ok_big (B : Bi mg) (cP : Callee P w K mg base "_law_pull" 1 (spPull scr)) (F : Fun K "_law_big" "_law_big" sLBig f fd) : FnOk P w K mg base (L2.CX P w) 2 f fd ["_law_state", "_law_many"] (Pr K (spBig scr)) := by
  refine body_ok F scLBig (fun ss ms R h => ?_) (fun cdv A outer s H E X hX hr tk hpo ss ms R h => ?_)
  · obtain ⟨k, r, many, rfl, _⟩ := h
    rfl
  obtain ⟨k, r, many, rfl, hk, ok, h0, q⟩ := h
  obtain ⟨mlen, mint, mabs, misi, mrange, mlist, mtuple, mbool, mstr⟩ := B
  have hN : X.N = nLBig := by rw [hX]; rfl
  have nd := scLBig.nd
  subst hX
  conv => arg 2; whnf
  show PSs _ _ (tS _ _ _ [some (.m k), some (.d (.int many)), none, none] _ _)
  walk_at "st"
  refine' s_for (I := fun i es' ms' => ∃ o, es' = [some (.m k), some (.d (.int many)), some (.d (.int (bigL scr r i).1)), o] ∧ ms' = ms.set k (some (stD scr (bigL scr r i).2))) ?it ?tg ?h0 (fun i d es' ms' hd1 hI => ?turn) (fun es' ms' hI => ?after) hpo rfl
  case it => exact i_rng rfl (by assumption) d_int (by decide)
  case tg => exact tg_name hN nd (by decide)
  case h0 => exact ⟨_, rfl, (ms_same hk).symm⟩
  case turn =>
    obtain ⟨o, rfl, rfl⟩ := hI
    obtain ⟨hi, rfl⟩ := irange_at hd1
    have ok1 := (bigL_ok ok i).1
    have cm := bigL_mul ok (show i < 6 from hi)
    refine ⟨_, .there (.there (.there .here)), ?_⟩
    walk_at "st"
    refine' s_nil ?_
    refine ⟨_, rfl, ?_⟩
    rw [ms_twice]
    rfl
  case after =>
    obtain ⟨o, rfl, rfl⟩ := hI
    rw [irange_len]
    walk_at "st"
    show R _
    rw [take_all (by simp)]
    exact q
local macro_rules | `(tactic| walk_at "use") => `(tactic| (refine' use_big ?_ ?_ ?_ <;> first | (fail_if_success show (_ : Prop)) | walk_at "ms" | walk_at "okr" | decide | assumption))
theorem ok_integer (cP : Callee P w K mg base "_law_pull" 1 (spPull scr)) (cB : Callee P w K mg base "_law_big" 2 (spBig scr)) (F : Fun K "_law_integer" "_law_integer" sLInteger f fd) : FnOk P w K mg base (L2.CX P w) 3 f fd ["_law_state"] (Pr K (spInteger scr)) := by
  refine body_ok F scLInteger (fun ss ms R h => ?_) (fun cdv A outer s H E X hX hr tk hpo ss ms R h => ?_)
  · obtain ⟨k, r, rfl, _⟩ := h
    rfl
  obtain ⟨k, r, rfl, hk, ok, q⟩ := h
  have hN : X.N = nLInteger := by rw [hX]; rfl
  have nd := scLInteger.nd
  subst hX
  conv => arg 2; whnf
  show PSs _ _ (tS _ _ _ [some (.m k)] _ _)
  refine' s_if ?c (fun hb => ?_) (fun hb => ?_)
  case c => walk_at "go"
  · have hb' : (pull scr r 2).1 = 0 := by simpa using hb
    walk_at "st"
    show R _
    unfold integer at q
    rw [if_pos hb'] at q
    rw [take_all (by simp), ms_twice]
    exact q
  · have hb' : ¬ (pull scr r 2).1 = 0 := by simpa using hb
    unfold integer at q
    rw [if_neg hb'] at q
    have cm : CMulW 2 (10 ^ Int.toNat 40) := wide_mul (a := 3) (b := 140) (by decide) (by decide) (by decide) (by decide) (by decide)
    walk_at "st"
    walk_at "st"
    show R _
    rw [take_all (by simp), ms_twice]
    exact q
end
end K02
namespace K02
open PySem PySem.Spec L2 Dv
def inCls (s : Stmt) (i : Nat) : Stmt :=
  match s with
  | .ClassDef _ _ _ b _ _ _ _ _ _ _ => b.getD i (.Pass ⟨0, 0, 0, 0⟩)
  | _ => .Pass ⟨0, 0, 0, 0⟩
abbrev sIF : Stmt := inCls (top 3) 0
theorem scIF : FnScope ["self", "name"] ["self", "name"] (defScope sIF) := ⟨rfl, rfl, rfl, by decide +kernel, rfl, by decide +kernel, by decide +kernel⟩
section
variable {P : Program} {w : World} {K : PySem.W.Frag} {mg : Str → Option Value} {base : Heap} {f : Addr} {fd : FuncData} {C CB : Addr}
theorem ok_if (T : ExnC K C) (hn : PySem.W.findIn K (.ref C) "name" = some none) (hB : mg "ShareError" = some (.ref CB))
    (hga : PySem.W.specialIn K (.ref CB) "__getattribute__" = some (some (.builtin "type.__getattribute__"))) (hrd : PySem.W.readsIn K CB (.type "type") = true)
    (hfc : PySem.W.findCls K (.ref CB) (.type "type") "__init__" = some (.val (.builtin "ArithmeticError.__init__")))
    (F : Fun K "__init__" "InvalidFraction.__init__" sIF f fd) : FnOk P w K mg base (L2.CX P w) 2 f fd ["self", "name"] (spInit C ["name"] oneStr) := by
  refine FnOk.mono (j := 1) ?_ (by decide)
  refine F.okX scIF (fun vs H Q E h => ?_) (fun cdv A outer s H vs Q E hr h => ?_)
  · obtain ⟨a, xs, rfl, hl, _⟩ := h
    show xs.length + 1 = 2
    rw [hl]
    rfl
  obtain ⟨a, xs, rfl, hl, ⟨nm, rfl, hnm⟩, ha, q⟩ := h
  refine ⟨_, pss_cons (ps_expr (pe_base (by exact rfl) hB hga hrd hfc (by exact (pa_cons (pv 0) (pa_cons (pe_joined (.cons (pe_fmt (pv 1)) (.cons pe_str .nil))) pa_nil)))))
    (pss_one (ps_sto (pv 0) (pv 1))), ?_⟩
  have z : ∀ n : Nat, n ≤ 2000 → n ≤ sizeLine := fun n h => Nat.le_trans h (by decide)
  have e1 : (Str.empty).length = 0 := rfl
  have e2 : (" is not a fraction" : Str).length = 18 := by decide +kernel
  refine ⟨_, rfl, _, rfl, .inl ⟨_, rfl, z _ (by omega), _, rfl, ?l1, _, rfl, ?l2, ?_⟩⟩
  case l1 => exact z _ (by rw [Str.length_append]; omega)
  case l2 => exact z _ (by rw [Str.length_append, Str.length_append]; omega)
  refine ⟨a, C, _, rfl, ?_, T, ha, ?_⟩
  · exact (by decide : 1 ≤ 1000)
  refine ⟨_, rfl, _, rfl, a, C, rfl, T, hn, .inl ⟨ha, fun dx h1 h2 => ?_⟩⟩
  refine q dx _ h1 h2 upd_same ?_ fun b h3 h4 => ?_
  · rw [upd_ne h2, upd_same]
    rfl
  · rw [upd_ne h3, upd_ne h4]
end
end K02
namespace K02
open PySem PySem.Spec L2 Dv
structure Fits (b : Int) : Prop where
  out : b.natAbs < 2 ^ 9000
theorem fits_of {b : Int} (h0 : 0 ≤ b) (h : b < 10 ^ 40) : Fits b := ⟨Nat.lt_of_lt_of_le (show b.natAbs < 2 ^ 200 by
  have e : (10 : Int) ^ 40 < 2 ^ 200 := by decide
  omega) (Nat.pow_le_pow_right (by decide) (by decide))⟩
/-! ### number: a value and what it is due -/
def topOf (scr : List Int) (r : Rng) : Int := (integer scr r).1
def rng1 (scr : List Int) (r : Rng) : Rng := (integer scr r).2
def botOf (scr : List Int) (r : Rng) : Int := 1 + (integer scr (rng1 scr r)).1.natAbs / 2
def rng2 (scr : List Int) (r : Rng) : Rng := (integer scr (rng1 scr r)).2
def turnOf (scr : List Int) (r : Rng) : Int := (pull scr (rng2 scr r) 16).1
def rng3 (scr : List Int) (r : Rng) : Rng := (pull scr (rng2 scr r) 16).2
def odds (t b : Int) : List Dt := [.bl true, .tup [.int t, .int 0], .tup [.int t, .int (0 - b)], .lst [.int t, .int b], .tup [.int t, .int b, .int 1], .tup [.bl true, .int b], .non]
def numOf (t b turn : Int) : List Dt :=
  if turn < 4 then [.int t, .tup [.int t, .int 1]]
  else if turn < 9 then [.tup [.int t, .int b], .tup [.int (low t b).1, .int (low t b).2]]
  else [(odds t b).getD (turn - 9).toNat .non, .non]
def spNumber (scr : List Int) : Pre := fun ss ms R => ∃ k r, ss = [.m k] ∧ ms[k]? = some (some (stD scr r)) ∧ Ok scr r ∧
  R (.nw (numOf (topOf scr r) (botOf scr r) (turnOf scr r)) (ms.set k (some (stD scr (rng3 scr r)))))
theorem number_ok {scr : List Int} {r : Rng} (h : Ok scr r) : Ok scr (rng3 scr r) ∧ 1 ≤ botOf scr r ∧ botOf scr r < 10 ^ 40 ∧ 0 ≤ turnOf scr r ∧ turnOf scr r < 16 := by
  obtain ⟨g1, _⟩ := integer_ok h
  obtain ⟨g2, g3, g4⟩ := integer_ok g1
  obtain ⟨g5, g6, g7⟩ := g2.pull (many := 16) (by decide)
  refine ⟨g5, ?_, ?_, g6, g7⟩
  · unfold botOf
    omega
  · unfold botOf rng1
    omega
theorem use_number {scr : List Int} {k : Nat} {r : Rng} {ms : Ms} (hk : ms[k]? = some (some (stD scr r))) (ok : Ok scr r) :
    spNumber scr [.m k] ms (fun o => o = .nw (numOf (topOf scr r) (botOf scr r) (turnOf scr r)) (ms.set k (some (stD scr (rng3 scr r))))) := ⟨k, r, rfl, hk, ok, rfl⟩
local macro_rules | `(tactic| walk_at "okr") => `(tactic| first | assumption)
local macro_rules | `(tactic| walk_at "use") => `(tactic| (refine' use_integer ?_ ?_ <;> first | (fail_if_success show (_ : Prop)) | walk_at "ms" | walk_at "okr"))
local macro_rules | `(tactic| walk_at "use") => `(tactic| (refine' use_pull ?_ ?_ ?_ ?_ <;> first | (fail_if_success show (_ : Prop)) | walk_at "ms" | walk_at "okr" | decide | assumption))
local macro_rules | `(tactic| walk_at "use") => `(tactic| (refine' use_llow ?_ (Fits.out (by assumption)) <;> first | assumption | omega))
section
variable {P : Program} {w : World} {K : PySem.W.Frag} {mg : Str → Option Value} {base : Heap} {f : Addr} {fd : FuncData} {scr : List Int}
theorem ok_number (B : Bi mg) (cP : Callee P w K mg base "_law_pull" 1 (spPull scr)) (cI : Callee P w K mg base "_law_integer" 3 (spInteger scr)) (cL : Callee P w K mg base "_law_low" 2 spLLow)
    (F : Fun K "_law_number" "_law_number" sLNumber f fd) : FnOk P w K mg base (L2.CX P w) 4 f fd ["_law_state"] (Pr K (spNumber scr)) := by
  refine body_ok F scLNumber (fun ss ms R h => ?_) (fun cdv A outer s H E X hX hr tk hpo ss ms R h => ?_)
  · obtain ⟨k, r, rfl, _⟩ := h
    rfl
  obtain ⟨k, r, rfl, hk, ok, q⟩ := h
  obtain ⟨mlen, mint, mabs, misi, mrange, mlist, mtuple, mbool, mstr⟩ := B
  have hN : X.N = nLNumber := by rw [hX]; rfl
  have nd := scLNumber.nd
  have ok1 := (integer_ok ok).1
  have ok2 := (integer_ok ok1).1
  have ia := (integer_ok ok1).2
  obtain ⟨ok3, b1, b2, t0, t1⟩ := number_ok ok
  have cd : CDivW ((integer scr (integer scr r).2).1.natAbs : Int) 2 := cdivW (by decide) (by decide)
  have fb : Fits (1 + ((integer scr (integer scr r).2).1.natAbs : Int) / 2) := fits_of (by have : 1 ≤ 1 + ((integer scr (integer scr r).2).1.natAbs : Int) / 2 := b1; omega) b2
  clear ia b2
  subst hX
  conv => arg 2; whnf
  show PSs _ _ (tS _ _ _ [some (.m k), none, none, none, none] _ _)
  walk_at "st"
  walk_at "st"
  walk_at "st"
  clear ok ok1 ok2 ok3 hk cd
  change R (.nw (numOf (integer scr r).1 (1 + ((integer scr (integer scr r).2).1.natAbs : Int) / 2) (pull scr (integer scr (integer scr r).2).2 16).1) (ms.set k (some (stD scr (pull scr (integer scr (integer scr r).2).2 16).2)))) at q
  change 1 ≤ 1 + ((integer scr (integer scr r).2).1.natAbs : Int) / 2 at b1
  change 0 ≤ (pull scr (integer scr (integer scr r).2).2 16).1 at t0
  change (pull scr (integer scr (integer scr r).2).2 16).1 < 16 at t1
  rw [ms_twice, ms_twice]
  generalize (integer scr r).1 = t at *
  generalize 1 + ((integer scr (integer scr r).2).1.natAbs : Int) / 2 = b at *
  generalize (pull scr (integer scr (integer scr r).2).2 16).1 = u at *
  have hl : (ms.set k (some (stD scr (pull scr (integer scr (integer scr r).2).2 16).2))).length = ms.length := List.length_set
  generalize ms.set k (some (stD scr (pull scr (integer scr (integer scr r).2).2 16).2)) = ms2 at *
  refine' s_if ?c (fun hb => ?_) (fun hb => ?_)
  case c => walk_at "go"
  · have h1 : u < 4 := by simpa using hb
    unfold numOf at q
    rw [if_pos h1] at q
    refine' s_retL (n_lst2 ?a) ?q
    case a => walk_at "go"
    case q =>
      show _ ∧ R _
      rw [take_all hl]
      exact ⟨by rw [hl]; exact Nat.le_refl _, q⟩
  · have h1 : ¬ u < 4 := by
      have := of_decide_eq_false hb
      simpa using this
    walk_at "st"
    unfold numOf at q
    rw [if_neg h1] at q
    refine' s_if ?c (fun hb => ?_) (fun hb => ?_)
    case c => walk_at "go"
    · have h2 : u < 9 := by simpa using hb
      rw [if_pos h2] at q
      refine' s_retL (n_lst2 ?a) ?q
      case a => walk_at "go"
      case q =>
        show _ ∧ R _
        rw [take_all hl]
        exact ⟨by rw [hl]; exact Nat.le_refl _, q⟩
    · have h2 : ¬ u < 9 := by
        have := of_decide_eq_false hb
        simpa using this
      walk_at "st"
      rw [if_neg h2] at q
      have hx : L2.atI (odds t b) (u - 9) = some ((odds t b).getD (u - 9).toNat .non) := by
        have h7 : (u - 9).toNat < (odds t b).length := by
          show (u - 9).toNat < 7
          omega
        refine atI_ge (by omega) ?_
        rw [List.getD_eq_getElem?_getD, List.getElem?_eq_getElem h7]
        rfl
      unfold odds at hx q
      walk_at "st"
      refine' s_retL (n_lst2 ?a) ?q
      case a => walk_at "go"
      case q =>
        show _ ∧ R _
        rw [take_all hl]
        exact ⟨by rw [hl]; exact Nat.le_refl _, q⟩
end
end K02
namespace K02
open PySem PySem.Spec L2 Dv
/-! ### the mathematics -/
structure Mid (i : Int) : Prop where
  out : i.natAbs < 2 ^ 200
theorem mid_of {b : Int} (h0 : -(10 ^ 40) < b) (h : b < 10 ^ 40) : Mid b := ⟨by
  have e : (10 : Int) ^ 40 < 2 ^ 200 := by decide
  omega⟩
theorem Mid.mul {i j : Int} (h : Mid i) (h2 : Mid j) : CMulW i j := wide_mul h.out h2.out (by decide) (by decide) (by decide)
theorem Mid.fits {i j : Int} (h : Mid i) (h2 : Mid j) : Fits (i * j) := ⟨Nat.lt_of_lt_of_le (wide_lt h.out h2.out) (Nat.pow_le_pow_right (by decide) (by decide))⟩
theorem Mid.div {i g : Int} (h : Mid i) : Mid (i / g) := ⟨Nat.lt_of_le_of_lt (Int.natAbs_ediv_le_natAbs i g) h.out⟩
theorem low_is {p q : Int} (h : 1 ≤ q) : ∃ g : Int, 1 ≤ g ∧ p = g * (low p q).1 ∧ q = g * (low p q).2 ∧ 1 ≤ (low p q).2 := by
  have g0 : 0 < Int.gcd p q := Int.gcd_pos_of_ne_zero_right _ (by omega)
  refine ⟨(Int.gcd p q : Int), by omega, ?_, ?_, ?_⟩
  · exact (Int.mul_ediv_cancel' (Int.gcd_dvd_left p q)).symm
  · exact (Int.mul_ediv_cancel' (Int.gcd_dvd_right p q)).symm
  · have e : (Int.gcd p q : Int) * (low p q).2 = q := Int.mul_ediv_cancel' (Int.gcd_dvd_right p q)
    by_cases c : 1 ≤ (low p q).2
    · exact c
    · have : (Int.gcd p q : Int) * (low p q).2 ≤ 0 := Int.mul_nonpos_of_nonneg_of_nonpos (by omega) (by omega)
      omega
theorem low_scale {k p q : Int} (h : 1 ≤ k) : low (k * p) (k * q) = low p q := by
  have e : ((Int.gcd (k * p) (k * q) : Nat) : Int) = k * (Int.gcd p q : Int) := by
    rw [Int.gcd_mul_left]
    rw [Int.natCast_mul]
    congr 1
    omega
  unfold low
  rw [e, Int.mul_ediv_mul_of_pos _ _ (by omega), Int.mul_ediv_mul_of_pos _ _ (by omega)]
/-- the four operations on tops and bottoms -/
def opD (turn a b c d : Int) : Dt :=
  if turn = 0 then .tup [.int (low (a * d + c * b) (b * d)).1, .int (low (a * d + c * b) (b * d)).2]
  else if turn = 1 then .tup [.int (low (a * d - c * b) (b * d)).1, .int (low (a * d - c * b) (b * d)).2]
  else if turn = 2 then .tup [.int (low (a * c) (b * d)).1, .int (low (a * c) (b * d)).2]
  else .bl (decide (a * d < c * b))
theorem op_low {turn a b c d : Int} (hb : 1 ≤ b) (hd : 1 ≤ d) : opD turn a b c d = opD turn (low a b).1 (low a b).2 (low c d).1 (low c d).2 := by
  obtain ⟨g, hg, ea, eb, _⟩ := low_is (p := a) hb
  obtain ⟨k, hk, ec, ed, _⟩ := low_is (p := c) hd
  generalize (low a b).1 = a' at *
  generalize (low a b).2 = b' at *
  generalize (low c d).1 = c' at *
  generalize (low c d).2 = d' at *
  subst ea eb ec ed
  have hgk : 1 ≤ g * k := by
    have := Int.mul_le_mul hg hk (by omega) (by omega)
    omega
  have e1 : g * a' * (k * d') = g * k * (a' * d') := by ac_rfl
  have e2 : k * c' * (g * b') = g * k * (c' * b') := by ac_rfl
  have e3 : g * b' * (k * d') = g * k * (b' * d') := by ac_rfl
  have e4 : g * a' * (k * c') = g * k * (a' * c') := by ac_rfl
  unfold opD
  rw [e1, e2, e3, e4, ← Int.mul_add, ← Int.mul_sub, low_scale hgk, low_scale hgk, low_scale hgk]
  have e5 : (g * k * (a' * d') < g * k * (c' * b')) ↔ (a' * d' < c' * b') := by
    constructor
    · intro h
      exact Int.lt_of_mul_lt_mul_left h (by omega)
    · intro h
      exact Int.mul_lt_mul_of_pos_left h (by omega)
  simp only [e5]
/-! ### the program's four -/
/-- a value as it is asked: no object in it, its numbers of at most 40 digits -/
structure Val (d : Dt) : Prop where
  flat : flat2 d = true
  top : Mid (terms d).1
  bot : Mid (terms d).2
def spOp (C : Addr) (turn : Int) : Pre := fun ss ms R => ∃ a b, ss = [.d a, .d b] ∧ Val a ∧ Val b ∧
  (isFrac a = true → isFrac b = true → R (.ret (opD turn (terms a).1 (terms a).2 (terms b).1 (terms b).2) ms)) ∧
  (isFrac a = false → R (.exc ⟨C, [("name", .str "one")]⟩ ms)) ∧ (isFrac a = true → isFrac b = false → R (.exc ⟨C, [("name", .str "other")]⟩ ms))
theorem use_op {C : Addr} {turn : Int} {a b : Dt} {ms : Ms} (ha : Val a) (hb : Val b) (fa : isFrac a = true) (fb : isFrac b = true) :
    spOp C turn [.d a, .d b] ms (fun o => o = .ret (opD turn (terms a).1 (terms a).2 (terms b).1 (terms b).2) ms) :=
  ⟨a, b, rfl, ha, hb, fun _ _ => rfl, fun z => Bool.noConfusion (fa.symm.trans z), fun _ z => Bool.noConfusion (fb.symm.trans z)⟩
theorem use_opX {C : Addr} {turn : Int} {a b : Dt} {ms : Ms} (ha : Val a) (hb : Val b) (fa : isFrac a = false) :
    spOp C turn [.d a, .d b] ms (fun o => o = .exc ⟨C, [("name", .str "one")]⟩ ms) :=
  ⟨a, b, rfl, ha, hb, fun z => Bool.noConfusion (fa.symm.trans z), fun _ => rfl, fun z => Bool.noConfusion (fa.symm.trans z)⟩
theorem use_opY {C : Addr} {turn : Int} {a b : Dt} {ms : Ms} (ha : Val a) (hb : Val b) (fa : isFrac a = true) (fb : isFrac b = false) :
    spOp C turn [.d a, .d b] ms (fun o => o = .exc ⟨C, [("name", .str "other")]⟩ ms) :=
  ⟨a, b, rfl, ha, hb, fun _ z => Bool.noConfusion (fb.symm.trans z), fun z => Bool.noConfusion (fa.symm.trans z), fun _ _ => rfl⟩
local macro_rules | `(tactic| walk_at "use") => `(tactic| (refine' use_low ?_ (Fits.out (by assumption)) <;> first | assumption | omega))
local macro_rules | `(tactic| walk_at "use") => `(tactic| (refine' use_terms ?_ ?_ ?_ <;> first | assumption | decide))
section
variable {P : Program} {w : World} {K : PySem.W.Frag} {mg : Str → Option Value} {base : Heap} {f : Addr} {fd : FuncData} {C : Addr}
theorem ok_added (cT : Callee P w K mg base "_terms" 4 (spTerms C)) (cL : Callee P w K mg base "_lowest" 1 spLow) (F : Fun K "added" "added" sAdded f fd) : FnOk P w K mg base (L2.CX P w) 5 f fd ["one", "other"] (Pr K (spOp C 0)) := by
  refine body_ok F scAdded (fun ss ms R h => ?_) (fun cdv A outer s H E X hX hr tk hpo ss ms R h => ?_)
  · obtain ⟨a, b, rfl, _⟩ := h
    rfl
  obtain ⟨a, b, rfl, ha, hb, q1, q2, q3⟩ := h
  obtain ⟨a1, a2, a3⟩ := ha
  obtain ⟨b1, b2, b3⟩ := hb
  have hN : X.N = nAdded := by rw [hX]; rfl
  have nd := scAdded.nd
  subst hX
  conv => arg 2; whnf
  show PSs _ _ (tS _ _ _ [some (.d a), some (.d b), none, none, none, none] _ _)
  cases fa : isFrac a
  · have q := q2 fa
    clear q1 q2 q3
    refine' s_unpackX (d_fnX tk cT ⟨rfl, rfl, rfl, rfl, rfl⟩ hr (by decide) rfl ?a (use_termsX (s := "one") (by decide) a1 fa)) (tg_two hN nd (by decide) (by decide) rfl) ?q
    case a => walk_at "go"
    case q =>
      show R _
      rw [take_all rfl]
      exact q
  refine' s_unpack (d := .tup [.int (terms a).1, .int (terms a).2]) ?a (tg_two hN nd (by decide) (by decide) rfl) ⟨_, _, _, rfl, .there (.there .here), .there (.there (.there .here))⟩ ?k
  case a => walk_at "go"
  case k =>
    cases fb : isFrac b
    · have q := q3 fa fb
      clear q1 q2 q3
      refine' s_unpackX (d_fnX tk cT ⟨rfl, rfl, rfl, rfl, rfl⟩ hr (by decide) rfl ?a2 (use_termsX (s := "other") (by decide) b1 fb)) (tg_two hN nd (by decide) (by decide) rfl) ?q2
      case a2 => walk_at "go"
      case q2 =>
        show R _
        rw [take_all rfl]
        exact q
    · have q := q1 fa fb
      clear q1 q2 q3
      refine' s_unpack (d := .tup [.int (terms b).1, .int (terms b).2]) ?a2 (tg_two hN nd (by decide) (by decide) rfl) ⟨_, _, _, rfl, .there (.there (.there (.there .here))), .there (.there (.there (.there (.there .here))))⟩ ?k2
      case a2 => walk_at "go"
      case k2 =>
        have t1 := terms_ok fa
        have t2 := terms_ok fb
        have f1 := a3.fits b3
        have f2 : 1 ≤ (terms a).2 * (terms b).2 := by
          have := Int.mul_le_mul t1 t2 (by omega) (by omega)
          omega
        have c1 := a2.mul b3
        have c2 := b2.mul a3
        have c3 := a3.mul b3
        have c4 := a2.mul b2
        clear a2 a3 b2 b3
        generalize (terms a).1 = x at *
        generalize (terms a).2 = y at *
        generalize (terms b).1 = z at *
        generalize (terms b).2 = u at *
        walk_at "st"
        show R _
        rw [take_all rfl]
        exact q
theorem ok_subtracted (cT : Callee P w K mg base "_terms" 4 (spTerms C)) (cL : Callee P w K mg base "_lowest" 1 spLow) (F : Fun K "subtracted" "subtracted" sSubtracted f fd) : FnOk P w K mg base (L2.CX P w) 5 f fd ["one", "other"] (Pr K (spOp C 1)) := by
  refine body_ok F scSubtracted (fun ss ms R h => ?_) (fun cdv A outer s H E X hX hr tk hpo ss ms R h => ?_)
  · obtain ⟨a, b, rfl, _⟩ := h
    rfl
  obtain ⟨a, b, rfl, ha, hb, q1, q2, q3⟩ := h
  obtain ⟨a1, a2, a3⟩ := ha
  obtain ⟨b1, b2, b3⟩ := hb
  have hN : X.N = nSubtracted := by rw [hX]; rfl
  have nd := scSubtracted.nd
  subst hX
  conv => arg 2; whnf
  show PSs _ _ (tS _ _ _ [some (.d a), some (.d b), none, none, none, none] _ _)
  cases fa : isFrac a
  · have q := q2 fa
    clear q1 q2 q3
    refine' s_unpackX (d_fnX tk cT ⟨rfl, rfl, rfl, rfl, rfl⟩ hr (by decide) rfl ?a (use_termsX (s := "one") (by decide) a1 fa)) (tg_two hN nd (by decide) (by decide) rfl) ?q
    case a => walk_at "go"
    case q =>
      show R _
      rw [take_all rfl]
      exact q
  refine' s_unpack (d := .tup [.int (terms a).1, .int (terms a).2]) ?a (tg_two hN nd (by decide) (by decide) rfl) ⟨_, _, _, rfl, .there (.there .here), .there (.there (.there .here))⟩ ?k
  case a => walk_at "go"
  case k =>
    cases fb : isFrac b
    · have q := q3 fa fb
      clear q1 q2 q3
      refine' s_unpackX (d_fnX tk cT ⟨rfl, rfl, rfl, rfl, rfl⟩ hr (by decide) rfl ?a2 (use_termsX (s := "other") (by decide) b1 fb)) (tg_two hN nd (by decide) (by decide) rfl) ?q2
      case a2 => walk_at "go"
      case q2 =>
        show R _
        rw [take_all rfl]
        exact q
    · have q := q1 fa fb
      clear q1 q2 q3
      refine' s_unpack (d := .tup [.int (terms b).1, .int (terms b).2]) ?a2 (tg_two hN nd (by decide) (by decide) rfl) ⟨_, _, _, rfl, .there (.there (.there (.there .here))), .there (.there (.there (.there (.there .here))))⟩ ?k2
      case a2 => walk_at "go"
      case k2 =>
        have t1 := terms_ok fa
        have t2 := terms_ok fb
        have f1 := a3.fits b3
        have f2 : 1 ≤ (terms a).2 * (terms b).2 := by
          have := Int.mul_le_mul t1 t2 (by omega) (by omega)
          omega
        have c1 := a2.mul b3
        have c2 := b2.mul a3
        have c3 := a3.mul b3
        have c4 := a2.mul b2
        clear a2 a3 b2 b3
        generalize (terms a).1 = x at *
        generalize (terms a).2 = y at *
        generalize (terms b).1 = z at *
        generalize (terms b).2 = u at *
        walk_at "st"
        show R _
        rw [take_all rfl]
        exact q
theorem ok_multiplied (cT : Callee P w K mg base "_terms" 4 (spTerms C)) (cL : Callee P w K mg base "_lowest" 1 spLow) (F : Fun K "multiplied" "multiplied" sMultiplied f fd) : FnOk P w K mg base (L2.CX P w) 5 f fd ["one", "other"] (Pr K (spOp C 2)) := by
  refine body_ok F scMultiplied (fun ss ms R h => ?_) (fun cdv A outer s H E X hX hr tk hpo ss ms R h => ?_)
  · obtain ⟨a, b, rfl, _⟩ := h
    rfl
  obtain ⟨a, b, rfl, ha, hb, q1, q2, q3⟩ := h
  obtain ⟨a1, a2, a3⟩ := ha
  obtain ⟨b1, b2, b3⟩ := hb
  have hN : X.N = nMultiplied := by rw [hX]; rfl
  have nd := scMultiplied.nd
  subst hX
  conv => arg 2; whnf
  show PSs _ _ (tS _ _ _ [some (.d a), some (.d b), none, none, none, none] _ _)
  cases fa : isFrac a
  · have q := q2 fa
    clear q1 q2 q3
    refine' s_unpackX (d_fnX tk cT ⟨rfl, rfl, rfl, rfl, rfl⟩ hr (by decide) rfl ?a (use_termsX (s := "one") (by decide) a1 fa)) (tg_two hN nd (by decide) (by decide) rfl) ?q
    case a => walk_at "go"
    case q =>
      show R _
      rw [take_all rfl]
      exact q
  refine' s_unpack (d := .tup [.int (terms a).1, .int (terms a).2]) ?a (tg_two hN nd (by decide) (by decide) rfl) ⟨_, _, _, rfl, .there (.there .here), .there (.there (.there .here))⟩ ?k
  case a => walk_at "go"
  case k =>
    cases fb : isFrac b
    · have q := q3 fa fb
      clear q1 q2 q3
      refine' s_unpackX (d_fnX tk cT ⟨rfl, rfl, rfl, rfl, rfl⟩ hr (by decide) rfl ?a2 (use_termsX (s := "other") (by decide) b1 fb)) (tg_two hN nd (by decide) (by decide) rfl) ?q2
      case a2 => walk_at "go"
      case q2 =>
        show R _
        rw [take_all rfl]
        exact q
    · have q := q1 fa fb
      clear q1 q2 q3
      refine' s_unpack (d := .tup [.int (terms b).1, .int (terms b).2]) ?a2 (tg_two hN nd (by decide) (by decide) rfl) ⟨_, _, _, rfl, .there (.there (.there (.there .here))), .there (.there (.there (.there (.there .here))))⟩ ?k2
      case a2 => walk_at "go"
      case k2 =>
        have t1 := terms_ok fa
        have t2 := terms_ok fb
        have f1 := a3.fits b3
        have f2 : 1 ≤ (terms a).2 * (terms b).2 := by
          have := Int.mul_le_mul t1 t2 (by omega) (by omega)
          omega
        have c1 := a2.mul b3
        have c2 := b2.mul a3
        have c3 := a3.mul b3
        have c4 := a2.mul b2
        clear a2 a3 b2 b3
        generalize (terms a).1 = x at *
        generalize (terms a).2 = y at *
        generalize (terms b).1 = z at *
        generalize (terms b).2 = u at *
        walk_at "st"
        show R _
        rw [take_all rfl]
        exact q
theorem ok_is_less (cT : Callee P w K mg base "_terms" 4 (spTerms C)) (cL : Callee P w K mg base "_lowest" 1 spLow) (F : Fun K "is_less" "is_less" sIsLess f fd) : FnOk P w K mg base (L2.CX P w) 5 f fd ["one", "other"] (Pr K (spOp C 3)) := by
  refine body_ok F scIsLess (fun ss ms R h => ?_) (fun cdv A outer s H E X hX hr tk hpo ss ms R h => ?_)
  · obtain ⟨a, b, rfl, _⟩ := h
    rfl
  obtain ⟨a, b, rfl, ha, hb, q1, q2, q3⟩ := h
  obtain ⟨a1, a2, a3⟩ := ha
  obtain ⟨b1, b2, b3⟩ := hb
  have hN : X.N = nIsLess := by rw [hX]; rfl
  have nd := scIsLess.nd
  subst hX
  conv => arg 2; whnf
  show PSs _ _ (tS _ _ _ [some (.d a), some (.d b), none, none, none, none] _ _)
  cases fa : isFrac a
  · have q := q2 fa
    clear q1 q2 q3
    refine' s_unpackX (d_fnX tk cT ⟨rfl, rfl, rfl, rfl, rfl⟩ hr (by decide) rfl ?a (use_termsX (s := "one") (by decide) a1 fa)) (tg_two hN nd (by decide) (by decide) rfl) ?q
    case a => walk_at "go"
    case q =>
      show R _
      rw [take_all rfl]
      exact q
  refine' s_unpack (d := .tup [.int (terms a).1, .int (terms a).2]) ?a (tg_two hN nd (by decide) (by decide) rfl) ⟨_, _, _, rfl, .there (.there .here), .there (.there (.there .here))⟩ ?k
  case a => walk_at "go"
  case k =>
    cases fb : isFrac b
    · have q := q3 fa fb
      clear q1 q2 q3
      refine' s_unpackX (d_fnX tk cT ⟨rfl, rfl, rfl, rfl, rfl⟩ hr (by decide) rfl ?a2 (use_termsX (s := "other") (by decide) b1 fb)) (tg_two hN nd (by decide) (by decide) rfl) ?q2
      case a2 => walk_at "go"
      case q2 =>
        show R _
        rw [take_all rfl]
        exact q
    · have q := q1 fa fb
      clear q1 q2 q3
      refine' s_unpack (d := .tup [.int (terms b).1, .int (terms b).2]) ?a2 (tg_two hN nd (by decide) (by decide) rfl) ⟨_, _, _, rfl, .there (.there (.there (.there .here))), .there (.there (.there (.there (.there .here))))⟩ ?k2
      case a2 => walk_at "go"
      case k2 =>
        have t1 := terms_ok fa
        have t2 := terms_ok fb
        have f1 := a3.fits b3
        have f2 : 1 ≤ (terms a).2 * (terms b).2 := by
          have := Int.mul_le_mul t1 t2 (by omega) (by omega)
          omega
        have c1 := a2.mul b3
        have c2 := b2.mul a3
        have c3 := a3.mul b3
        have c4 := a2.mul b2
        clear a2 a3 b2 b3
        generalize (terms a).1 = x at *
        generalize (terms a).2 = y at *
        generalize (terms b).1 = z at *
        generalize (terms b).2 = u at *
        walk_at "st"
        show R _
        rw [take_all rfl]
        exact q
end
end K02
namespace K02
open PySem PySem.Spec L2 Dv
def fracD (d : Dt) : Dt := .tup [.int (low (terms d).1 (terms d).2).1, .int (low (terms d).1 (terms d).2).2]
structure Num (v w : Dt) : Prop where
  val : Val v
  due : (isFrac v = true ∧ w = fracD v) ∨ (isFrac v = false ∧ w = .non)
theorem mid0 : Mid 0 := mid_of (by decide) (by decide)
theorem mid1 : Mid 1 := mid_of (by decide) (by decide)
theorem Mid.neg {b : Int} (h : Mid b) : Mid (0 - b) := ⟨by rw [show (0 - b).natAbs = b.natAbs by omega]; exact h.out⟩
theorem num_ok {t b u : Int} (ht : Mid t) (hf : Mid b) (hb : 1 ≤ b) (h0 : 0 ≤ u) (h1 : u < 16) : ∃ v w, numOf t b u = [v, w] ∧ Num v w := by
  unfold numOf
  by_cases c1 : u < 4
  · rw [if_pos c1]
    refine ⟨_, _, rfl, ⟨rfl, ht, mid1⟩, .inl ⟨rfl, ?_⟩⟩
    simp [fracD, terms, low]
  rw [if_neg c1]
  by_cases c2 : u < 9
  · rw [if_pos c2]
    exact ⟨_, _, rfl, ⟨rfl, ht, hf⟩, .inl ⟨decide_eq_true hb, rfl⟩⟩
  rw [if_neg c2]
  refine ⟨_, .non, rfl, ?_⟩
  have h7 : (u - 9).toNat < 7 := by omega
  match (u - 9).toNat, h7 with
  | 0, _ => exact ⟨⟨rfl, mid0, mid1⟩, .inr ⟨rfl, rfl⟩⟩
  | 1, _ => exact ⟨⟨rfl, ht, mid0⟩, .inr ⟨rfl, rfl⟩⟩
  | 2, _ => exact ⟨⟨rfl, ht, hf.neg⟩, .inr ⟨decide_eq_false (by omega), rfl⟩⟩
  | 3, _ => exact ⟨⟨rfl, mid0, mid1⟩, .inr ⟨rfl, rfl⟩⟩
  | 4, _ => exact ⟨⟨rfl, mid0, mid1⟩, .inr ⟨rfl, rfl⟩⟩
  | 5, _ => exact ⟨⟨rfl, mid0, mid1⟩, .inr ⟨rfl, rfl⟩⟩
  | 6, _ => exact ⟨⟨rfl, mid0, mid1⟩, .inr ⟨rfl, rfl⟩⟩
  | n + 7, h => exact absurd h (by omega)
/-- what is told of two values -/
def askO (turn : Int) (a b : Dt) : Dt :=
  if isFrac a then (if isFrac b then .tup [.str "told", opD turn (terms a).1 (terms a).2 (terms b).1 (terms b).2] else .tup [.str "refused", .str "other"]) else .tup [.str "refused", .str "one"]
theorem ask_deep {turn : Int} {a b : Dt} : deepP (askO turn a b) = true ∧ depth (askO turn a b) < 4 := by
  unfold askO opD
  (repeat' split) <;> exact ⟨by simp [deepP, deepL], by simp [depth, depthL]⟩
def spAsked (C : Addr) : Pre := fun ss ms R => ∃ turn a b, ss = [.d (.int turn), .d a, .d b] ∧ 0 ≤ turn ∧ turn < 4 ∧ Val a ∧ Val b ∧ R (.ret (askO turn a b) ms)
theorem use_asked {C : Addr} {turn : Int} {a b : Dt} {ms : Ms} (h0 : 0 ≤ turn) (h1 : turn < 4) (ha : Val a) (hb : Val b) : spAsked C [.d (.int turn), .d a, .d b] ms (fun o => o = .ret (askO turn a b) ms) := ⟨turn, a, b, rfl, h0, h1, ha, hb, rfl⟩
def spDue : Pre := fun ss ms R => ∃ turn v1 w1 v2 w2, ss = [.d (.int turn), .d w1, .d w2] ∧ 0 ≤ turn ∧ turn < 4 ∧ Num v1 w1 ∧ Num v2 w2 ∧ R (.ret (askO turn v1 v2) ms)
theorem use_due {turn : Int} {v1 w1 v2 w2 : Dt} {ms : Ms} (h0 : 0 ≤ turn) (h1 : turn < 4) (ha : Num v1 w1) (hb : Num v2 w2) : spDue [.d (.int turn), .d w1, .d w2] ms (fun o => o = .ret (askO turn v1 v2) ms) := ⟨turn, v1, w1, v2, w2, rfl, h0, h1, ha, hb, rfl⟩
def spTwo (turn : Int) : Pre := fun ss ms R => ∃ a b c d : Int, ss = [.d (.tup [.int a, .int b]), .d (.tup [.int c, .int d])] ∧ 1 ≤ b ∧ 1 ≤ d ∧ Mid a ∧ Mid b ∧ Mid c ∧ Mid d ∧ R (.ret (opD turn a b c d) ms)
theorem use_two {turn a b c d : Int} {ms : Ms} (hb : 1 ≤ b) (hd : 1 ≤ d) (m1 : Mid a) (m2 : Mid b) (m3 : Mid c) (m4 : Mid d) :
    spTwo turn [.d (.tup [.int a, .int b]), .d (.tup [.int c, .int d])] ms (fun o => o = .ret (opD turn a b c d) ms) := ⟨a, b, c, d, rfl, hb, hd, m1, m2, m3, m4, rfl⟩
theorem four {t : Int} (h0 : 0 ≤ t) (h1 : t < 4) : t = 0 ∨ t = 1 ∨ t = 2 ∨ t = 3 := by omega
local macro_rules | `(tactic| walk_at "use") => `(tactic| (refine' use_llow ?_ (Fits.out (by assumption)) <;> first | assumption | omega))
section
variable {P : Program} {w : World} {K : PySem.W.Frag} {mg : Str → Option Value} {base : Heap} {f : Addr} {fd : FuncData} {C : Addr}
theorem ok_plus (cL : Callee P w K mg base "_law_low" 2 spLLow) (F : Fun K "_law_plus" "_law_plus" sLPlus f fd) : FnOk P w K mg base (L2.CX P w) 3 f fd ["_law_one", "_law_other"] (Pr K (spTwo 0)) := by
  refine body_ok F scLPlus (fun ss ms R h => ?_) (fun cdv A outer s H E X hX hr tk hpo ss ms R h => ?_)
  · obtain ⟨a, b, c, d, rfl, _⟩ := h
    rfl
  obtain ⟨a, b, c, d, rfl, hb, hd, ma, mb, mc, md, q⟩ := h
  have hN : X.N = nLPlus := by rw [hX]; rfl
  have nd := scLPlus.nd
  have c1 := ma.mul md
  have c2 := mc.mul mb
  have c3 := mb.mul md
  have c4 := ma.mul mc
  have f1 := mb.fits md
  have f2 : 1 ≤ b * d := by
    have := Int.mul_le_mul hb hd (by omega) (by omega)
    omega
  clear ma mb mc md
  subst hX
  conv => arg 2; whnf
  show PSs _ _ (tS _ _ _ [some (.d (.tup [.int a, .int b])), some (.d (.tup [.int c, .int d]))] _ _)
  walk_at "st"
  show R _
  rw [take_all rfl]
  exact q
theorem ok_minus (cL : Callee P w K mg base "_law_low" 2 spLLow) (F : Fun K "_law_minus" "_law_minus" sLMinus f fd) : FnOk P w K mg base (L2.CX P w) 3 f fd ["_law_one", "_law_other"] (Pr K (spTwo 1)) := by
  refine body_ok F scLMinus (fun ss ms R h => ?_) (fun cdv A outer s H E X hX hr tk hpo ss ms R h => ?_)
  · obtain ⟨a, b, c, d, rfl, _⟩ := h
    rfl
  obtain ⟨a, b, c, d, rfl, hb, hd, ma, mb, mc, md, q⟩ := h
  have hN : X.N = nLMinus := by rw [hX]; rfl
  have nd := scLMinus.nd
  have c1 := ma.mul md
  have c2 := mc.mul mb
  have c3 := mb.mul md
  have c4 := ma.mul mc
  have f1 := mb.fits md
  have f2 : 1 ≤ b * d := by
    have := Int.mul_le_mul hb hd (by omega) (by omega)
    omega
  clear ma mb mc md
  subst hX
  conv => arg 2; whnf
  show PSs _ _ (tS _ _ _ [some (.d (.tup [.int a, .int b])), some (.d (.tup [.int c, .int d]))] _ _)
  walk_at "st"
  show R _
  rw [take_all rfl]
  exact q
theorem ok_times (cL : Callee P w K mg base "_law_low" 2 spLLow) (F : Fun K "_law_times" "_law_times" sLTimes f fd) : FnOk P w K mg base (L2.CX P w) 3 f fd ["_law_one", "_law_other"] (Pr K (spTwo 2)) := by
  refine body_ok F scLTimes (fun ss ms R h => ?_) (fun cdv A outer s H E X hX hr tk hpo ss ms R h => ?_)
  · obtain ⟨a, b, c, d, rfl, _⟩ := h
    rfl
  obtain ⟨a, b, c, d, rfl, hb, hd, ma, mb, mc, md, q⟩ := h
  have hN : X.N = nLTimes := by rw [hX]; rfl
  have nd := scLTimes.nd
  have c1 := ma.mul md
  have c2 := mc.mul mb
  have c3 := mb.mul md
  have c4 := ma.mul mc
  have f1 := mb.fits md
  have f2 : 1 ≤ b * d := by
    have := Int.mul_le_mul hb hd (by omega) (by omega)
    omega
  clear ma mb mc md
  subst hX
  conv => arg 2; whnf
  show PSs _ _ (tS _ _ _ [some (.d (.tup [.int a, .int b])), some (.d (.tup [.int c, .int d]))] _ _)
  walk_at "st"
  show R _
  rw [take_all rfl]
  exact q
end
end K02
namespace K02
open PySem PySem.Spec L2 Dv
local macro_rules | `(tactic| walk_at "use") => `(tactic| (refine' use_two ?_ ?_ ?_ ?_ ?_ ?_ <;> assumption))
theorem op3 {turn a b c d : Int} (h0 : 0 ≤ turn) (h : ¬ turn = 0) (h1 : ¬ turn = 1) (h2 : ¬ turn = 2) : opD turn a b c d = .bl (decide (a * d < c * b)) := by
  unfold opD
  rw [if_neg h, if_neg h1, if_neg h2]
section
variable {P : Program} {w : World} {K : PySem.W.Frag} {mg : Str → Option Value} {base : Heap} {f : Addr} {fd : FuncData} {C : Addr}
theorem ok_asked (gC : mg "InvalidFraction" = some (.ref C)) (te : PySem.W.exmOne K (.ref C) (.ref C) = some true) (xf : XfC K C) (hn : PySem.W.findIn K (.ref C) "name" = some none)
    (cA : Callee P w K mg base "added" 5 (spOp C 0)) (cB : Callee P w K mg base "subtracted" 5 (spOp C 1)) (cM : Callee P w K mg base "multiplied" 5 (spOp C 2)) (cL : Callee P w K mg base "is_less" 5 (spOp C 3))
    (F : Fun K "_law_asked" "_law_asked" sLAsked f fd) : FnOk P w K mg base (L2.CX P w) 6 f fd ["_law_turn", "_law_one", "_law_other"] (Pr K (spAsked C)) := by
  refine body_ok F scLAsked (fun ss ms R h => ?_) (fun cdv A outer s H E X hX hr tk hpo ss ms R h => ?_)
  · obtain ⟨t, a, b, rfl, _⟩ := h
    rfl
  obtain ⟨turn, a, b, rfl, h0, h1, ha, hb, q⟩ := h
  have hN : X.N = nLAsked := by rw [hX]; rfl
  have nd := scLAsked.nd
  subst hX
  conv => arg 2; whnf
  show PSs _ _ (tS _ _ _ [some (.d (.int turn)), some (.d a), some (.d b), none] _ _)
  refine' s_try (i := 3) (hp' := ⟨0, 0, 0, 0⟩) (cv := .ref C) (Pb := fun o => (isFrac a = true ∧ isFrac b = true ∧ o = .rt (.tup [.str "told", opD turn (terms a).1 (terms a).2 (terms b).1 (terms b).2]) ms) ∨ (isFrac a = false ∧ o = .rs ⟨C, [("name", .str "one")]⟩ [some (.d (.int turn)), some (.d a), some (.d b), none] ms) ∨
    (isFrac a = true ∧ isFrac b = false ∧ o = .rs ⟨C, [("name", .str "other")]⟩ [some (.d (.int turn)), some (.d a), some (.d b), none] ms)) hN nd rfl rfl rfl rfl ⟨rfl, by decide, Or.inl gC⟩ tk (fun W' pn xe tk' hp' => ?b) (fun o ho => ?e)
  case b =>
    clear q
    rcases four h0 h1 with rfl | rfl | rfl | rfl
    · walk_at "ifT"
      cases fa : isFrac a
      · refine' s_retX (dx_tup (ax_next d_str (ax_here (d_fnX tk' cA ⟨rfl, rfl, rfl, rfl, rfl⟩ hr (by decide) rfl ?a (use_opX ha hb fa))))) (.inr (.inl ⟨rfl, rfl⟩))
        case a => walk_at "go"
      · cases fb : isFrac b
        · refine' s_retX (dx_tup (ax_next d_str (ax_here (d_fnX tk' cA ⟨rfl, rfl, rfl, rfl, rfl⟩ hr (by decide) rfl ?a (use_opY ha hb fa fb))))) (.inr (.inr ⟨rfl, rfl, rfl⟩))
          case a => walk_at "go"
        · refine' s_ret (d_tup2 (a_cons d_str (a_cons (d_fn cA ⟨rfl, rfl, rfl, rfl, rfl⟩ hr (by decide) rfl ?a (use_op ha hb fa fb)) a_nil))) (.inl ⟨rfl, rfl, rfl⟩)
          case a => walk_at "go"
    · walk_at "ifF"
      walk_at "ifT"
      cases fa : isFrac a
      · refine' s_retX (dx_tup (ax_next d_str (ax_here (d_fnX tk' cB ⟨rfl, rfl, rfl, rfl, rfl⟩ hr (by decide) rfl ?a (use_opX ha hb fa))))) (.inr (.inl ⟨rfl, rfl⟩))
        case a => walk_at "go"
      · cases fb : isFrac b
        · refine' s_retX (dx_tup (ax_next d_str (ax_here (d_fnX tk' cB ⟨rfl, rfl, rfl, rfl, rfl⟩ hr (by decide) rfl ?a (use_opY ha hb fa fb))))) (.inr (.inr ⟨rfl, rfl, rfl⟩))
          case a => walk_at "go"
        · refine' s_ret (d_tup2 (a_cons d_str (a_cons (d_fn cB ⟨rfl, rfl, rfl, rfl, rfl⟩ hr (by decide) rfl ?a (use_op ha hb fa fb)) a_nil))) (.inl ⟨rfl, rfl, rfl⟩)
          case a => walk_at "go"
    · walk_at "ifF"
      walk_at "ifF"
      walk_at "ifT"
      cases fa : isFrac a
      · refine' s_retX (dx_tup (ax_next d_str (ax_here (d_fnX tk' cM ⟨rfl, rfl, rfl, rfl, rfl⟩ hr (by decide) rfl ?a (use_opX ha hb fa))))) (.inr (.inl ⟨rfl, rfl⟩))
        case a => walk_at "go"
      · cases fb : isFrac b
        · refine' s_retX (dx_tup (ax_next d_str (ax_here (d_fnX tk' cM ⟨rfl, rfl, rfl, rfl, rfl⟩ hr (by decide) rfl ?a (use_opY ha hb fa fb))))) (.inr (.inr ⟨rfl, rfl, rfl⟩))
          case a => walk_at "go"
        · refine' s_ret (d_tup2 (a_cons d_str (a_cons (d_fn cM ⟨rfl, rfl, rfl, rfl, rfl⟩ hr (by decide) rfl ?a (use_op ha hb fa fb)) a_nil))) (.inl ⟨rfl, rfl, rfl⟩)
          case a => walk_at "go"
    · walk_at "ifF"
      walk_at "ifF"
      walk_at "ifF"
      cases fa : isFrac a
      · refine' s_retX (dx_tup (ax_next d_str (ax_here (d_fnX tk' cL ⟨rfl, rfl, rfl, rfl, rfl⟩ hr (by decide) rfl ?a (use_opX ha hb fa))))) (.inr (.inl ⟨rfl, rfl⟩))
        case a => walk_at "go"
      · cases fb : isFrac b
        · refine' s_retX (dx_tup (ax_next d_str (ax_here (d_fnX tk' cL ⟨rfl, rfl, rfl, rfl, rfl⟩ hr (by decide) rfl ?a (use_opY ha hb fa fb))))) (.inr (.inr ⟨rfl, rfl, rfl⟩))
          case a => walk_at "go"
        · refine' s_ret (d_tup2 (a_cons d_str (a_cons (d_fn cL ⟨rfl, rfl, rfl, rfl, rfl⟩ hr (by decide) rfl ?a (use_op ha hb fa fb)) a_nil))) (.inl ⟨rfl, rfl, rfl⟩)
          case a => walk_at "go"
  case e =>
    rcases ho with ⟨fa, fb, rfl⟩ | ⟨fa, rfl⟩ | ⟨fa, fb, rfl⟩
    · have e : askO turn a b = .tup [.str "told", opD turn (terms a).1 (terms a).2 (terms b).1 (terms b).2] := by unfold askO; rw [if_pos fa, if_pos fb]
      show R _
      rw [take_all rfl, ← e]
      exact q
    · refine ⟨true, te, fun z => Bool.noConfusion z, fun _ a0 dd => ⟨_, .there (.there (.there .here)), fun oe pn hz hv => ?_⟩⟩
      have e : askO turn a b = .tup [.str "refused", .str "one"] := by unfold askO; rw [if_neg (by rw [fa]; exact Bool.false_ne_true)]
      refine' s_ret (d_tup2 (a_cons d_str (a_cons (d_xf (x := ⟨C, [("name", .str "one")]⟩) xf hn hz hv ?v rfl) a_nil))) ?q
      case v => walk_at "go"
      case q =>
        show R _
        rw [take_all rfl, ← e]
        exact q
    · refine ⟨true, te, fun z => Bool.noConfusion z, fun _ a0 dd => ⟨_, .there (.there (.there .here)), fun oe pn hz hv => ?_⟩⟩
      have e : askO turn a b = .tup [.str "refused", .str "other"] := by unfold askO; rw [if_pos fa, if_neg (by rw [fb]; exact Bool.false_ne_true)]
      refine' s_ret (d_tup2 (a_cons d_str (a_cons (d_xf (x := ⟨C, [("name", .str "other")]⟩) xf hn hz hv ?v rfl) a_nil))) ?q
      case v => walk_at "go"
      case q =>
        show R _
        rw [take_all rfl, ← e]
        exact q
theorem ok_due (c0 : Callee P w K mg base "_law_plus" 3 (spTwo 0)) (c1 : Callee P w K mg base "_law_minus" 3 (spTwo 1)) (c2 : Callee P w K mg base "_law_times" 3 (spTwo 2))
    (F : Fun K "_law_due" "_law_due" sLDue f fd) : FnOk P w K mg base (L2.CX P w) 4 f fd ["_law_turn", "_law_one", "_law_other"] (Pr K spDue) := by
  refine body_ok F scLDue (fun ss ms R h => ?_) (fun cdv A outer s H E X hX hr tk hpo ss ms R h => ?_)
  · obtain ⟨t, v1, w1, v2, w2, rfl, _⟩ := h
    rfl
  obtain ⟨turn, v1, w1, v2, w2, rfl, h0, h1, ⟨⟨_, t1, b1⟩, d1⟩, ⟨⟨_, t2, b2⟩, d2⟩, q⟩ := h
  have hN : X.N = nLDue := by rw [hX]; rfl
  have nd := scLDue.nd
  subst hX
  conv => arg 2; whnf
  show PSs _ _ (tS _ _ _ [some (.d (.int turn)), some (.d w1), some (.d w2)] _ _)
  unfold askO at q
  rcases d1 with ⟨f1, rfl⟩ | ⟨f1, rfl⟩
  · rw [if_pos f1] at q
    have l1 := terms_ok f1
    unfold fracD
    refine' s_if ?c (fun hb => ?_) (fun hb => ?_)
    case c => walk_at "go"
    · cases hb
    walk_at "st"
    rcases d2 with ⟨f2, rfl⟩ | ⟨f2, rfl⟩
    · rw [if_pos f2] at q
      have l2 := terms_ok f2
      unfold fracD
      rw [op_low l1 l2] at q
      obtain ⟨_, _, _, _, p1⟩ := low_is (p := (terms v1).1) l1
      obtain ⟨_, _, _, _, p2⟩ := low_is (p := (terms v2).1) l2
      have m1 : Mid (low (terms v1).1 (terms v1).2).1 := t1.div
      have m2 : Mid (low (terms v1).1 (terms v1).2).2 := b1.div
      have m3 : Mid (low (terms v2).1 (terms v2).2).1 := t2.div
      have m4 : Mid (low (terms v2).1 (terms v2).2).2 := b2.div
      have x1 := m1.mul m4
      have x2 := m3.mul m2
      clear t1 b1 t2 b2 l1 l2 f1 f2
      generalize (low (terms v1).1 (terms v1).2).1 = x at *
      generalize (low (terms v1).1 (terms v1).2).2 = y at *
      generalize (low (terms v2).1 (terms v2).2).1 = z at *
      generalize (low (terms v2).1 (terms v2).2).2 = u at *
      refine' s_if ?c (fun hb => ?_) (fun hb => ?_)
      case c => walk_at "go"
      · cases hb
      walk_at "st"
      rcases four h0 h1 with rfl | rfl | rfl | rfl
      · walk_at "ifT"
        walk_at "st"
        show R _
        rw [take_all rfl]
        exact q
      · walk_at "ifF"
        walk_at "ifT"
        walk_at "st"
        show R _
        rw [take_all rfl]
        exact q
      · walk_at "ifF"
        walk_at "ifF"
        walk_at "ifT"
        walk_at "st"
        show R _
        rw [take_all rfl]
        exact q
      · walk_at "ifF"
        walk_at "ifF"
        walk_at "ifF"
        walk_at "st"
        show R _
        rw [take_all rfl]
        exact q
    · rw [if_neg (by rw [f2]; exact Bool.false_ne_true)] at q
      refine' s_if ?c (fun hb => ?_) (fun hb => ?_)
      case c => walk_at "go"
      · walk_at "st"
        show R _
        rw [take_all rfl]
        exact q
      · cases hb
  · rw [if_neg (by rw [f1]; exact Bool.false_ne_true)] at q
    refine' s_if ?c (fun hb => ?_) (fun hb => ?_)
    case c => walk_at "go"
    · walk_at "st"
      show R _
      rw [take_all rfl]
      exact q
    · cases hb
end
end K02
namespace K02
open PySem PySem.Spec L2 Dv
def spLaw : Pre := fun ss _ R => ∃ scr : List Int, ss = [.d (.lst (scr.map Dt.int))] ∧ ∀ ms', R (.ret (.bl true) ms')
theorem rng0 {scr : List Int} : Ok scr ⟨0, 0, 1234577⟩ := ⟨Nat.zero_le _, Int.le_refl 0, by decide, by decide⟩
theorem num_of {scr : List Int} {r : Rng} (ok : Ok scr r) : Ok scr (rng3 scr r) ∧ ∃ v w, numOf (topOf scr r) (botOf scr r) (turnOf scr r) = [v, w] ∧ Num v w := by
  obtain ⟨ok3, b1, b2, t0, t1⟩ := number_ok ok
  obtain ⟨_, i1, i2⟩ := integer_ok ok
  exact ⟨ok3, num_ok (mid_of i1 i2) (mid_of (by omega) b2) b1 t0 t1⟩
section
variable {P : Program} {w : World} {K : PySem.W.Frag} {mg : Str → Option Value} {base : Heap} {f : Addr} {fd : FuncData} {C : Addr}
theorem none_same : FnOk P w K mg base (L2.CX P w) 1 f fd ["_law_told", "_law_due_here"] (Pr K (spSame 0)) := by
  have no : ∀ vs H Q E, ¬ Pr K (spSame 0) vs H Q E := fun vs H Q E h => by
    obtain ⟨as, ss, ms, R, _, _, ⟨c, d, _, _, _, h0, _⟩, _⟩ := h
    omega
  exact ⟨fun vs H Q E h => absurd h (no vs H Q E), fun A outer s H args us vs Q E _ _ _ _ h => absurd h (no vs H Q E)⟩
theorem all_same (B : Bi mg) (cI : Callee P w K mg base "_law_is_int" 1 spIsInt) (F : Fun K "_law_same" "_law_same" sLSame f fd) (hm : mg "_law_same" = some (.ref f)) (hb : Binds K fd ["_law_told", "_law_due_here"] []) :
    ∀ n : Nat, FnOk P w K mg base (L2.CX P w) (n + 1) f fd ["_law_told", "_law_due_here"] (Pr K (spSame n))
  | 0 => none_same
  | n + 1 => ok_same B cI ⟨f, fd, _, all_same B cI F hm hb n, hm, F.kp, hb⟩ F
local macro_rules | `(tactic| walk_at "okr") => `(tactic| first | assumption)
local macro_rules | `(tactic| walk_at "use") => `(tactic| (refine' use_pull ?_ ?_ ?_ ?_ <;> first | (fail_if_success show (_ : Prop)) | walk_at "ms" | walk_at "okr" | decide | assumption))
local macro_rules | `(tactic| walk_at "use") => `(tactic| (refine' use_asked ?_ ?_ ?_ ?_ <;> first | assumption | exact (Num.val (by assumption))))
local macro_rules | `(tactic| walk_at "use") => `(tactic| (refine' use_due ?_ ?_ ?_ ?_ <;> first | (fail_if_success show (_ : Prop)) | assumption))
local macro_rules | `(tactic| walk_at "use") => `(tactic| (refine' use_same ?_ ?_ ?_ <;> first | exact ask_deep.1 | exact ask_deep.2))
theorem ok_law (B : Bi mg) (cS : Callee P w K mg base "_law_start" 1 spStart) (cN : ∀ scr, Callee P w K mg base "_law_number" 4 (spNumber scr)) (cP : ∀ scr, Callee P w K mg base "_law_pull" 1 (spPull scr)) (cE : Callee P w K mg base "_law_same" 5 (spSame 4))
    (cD : Callee P w K mg base "_law_due" 4 spDue) (cA : Callee P w K mg base "_law_asked" 6 (spAsked C))
    (F : Fun K "law" "law" sLaw f fd) : FnOk P w K mg base (L2.CX P w) 7 f fd ["_law_script"] (Pr K spLaw) := by
  refine body_ok F scLaw (fun ss ms R h => ?_) (fun cdv A outer s H E X hX hr tk hpo ss ms R h => ?_)
  · obtain ⟨scr, rfl, _⟩ := h
    rfl
  obtain ⟨scr, rfl, q⟩ := h
  obtain ⟨mlen, mint, mabs, misi, mrange, mlist, mtuple, mbool, mstr⟩ := B
  have hN : X.N = nLaw := by rw [hX]; rfl
  have nd := scLaw.nd
  replace cN := cN scr
  replace cP := cP scr
  subst hX
  conv => arg 2; whnf
  show PSs _ _ (tS _ _ _ [some (.d (.lst (scr.map Dt.int))), none, none, none, none, none] _ _)
  refine' s_asgN hN nd (n_fn cS ⟨rfl, rfl, rfl, rfl, rfl⟩ hr (by decide) rfl ?a use_start) (.there .here) ?k
  case a => walk_at "go"
  refine' s_for (I := fun i es' ms' => ∃ r o1 o2 o3 o4, es' = [some (.d (.lst (scr.map Dt.int))), some (.m ms.length), o1, o2, o3, o4] ∧ ms'[ms.length]? = some (some (stD scr r)) ∧ Ok scr r) ?it ?tg ?h0 (fun i d es' ms' hd1 hI => ?turn) (fun es' ms' hI => ?after) hpo rfl
  case it => exact i_rng rfl (by assumption) d_int (by decide)
  case tg => exact tg_name hN nd (by decide)
  case h0 => exact ⟨_, _, _, _, _, rfl, ms_new, rng0⟩
  case after =>
    obtain ⟨r, o1, o2, o3, o4, rfl, hk, ok⟩ := hI
    walk_at "st"
    exact q _
  case turn =>
    obtain ⟨r, o1, o2, o3, o4, rfl, hk, ok⟩ := hI
    refine ⟨_, .there (.there .here), ?_⟩
    obtain ⟨ok1, v1, w1, e1, n1⟩ := num_of ok
    refine' s_asgN hN nd (n_fn cN ⟨rfl, rfl, rfl, rfl, rfl⟩ hr (by decide) rfl ?a2 (use_number hk ok)) (.there (.there (.there .here))) ?k2
    case a2 => walk_at "go"
    rw [e1]
    have k1 := ms_set (z := some (stD scr (rng3 scr r))) hk
    clear e1 hk ok
    generalize ms'.set ms.length (some (stD scr (rng3 scr r))) = ms1 at *
    generalize rng3 scr r = r1 at *
    have lt1 : ms.length < ms1.length := (List.getElem?_eq_some_iff.mp k1).1
    obtain ⟨ok2, v2, w2, e2, n2⟩ := num_of ok1
    refine' s_asgN hN nd (n_fn cN ⟨rfl, rfl, rfl, rfl, rfl⟩ hr (by decide) rfl ?a3 (use_number (ms_app k1) ok1)) (.there (.there (.there (.there .here)))) ?k3
    case a3 => walk_at "go"
    rw [e2]
    have k2 := ms_set (z := some (stD scr (rng3 scr r1))) (ms_app (ns := [some [v1, w1]]) k1)
    have j2 : ((ms1 ++ [some [v1, w1]]).set ms.length (some (stD scr (rng3 scr r1))))[ms1.length]? = some (some [v1, w1]) := ms_ne ms_new (by omega)
    clear e2 k1 ok1
    generalize (ms1 ++ [some [v1, w1]]).set ms.length (some (stD scr (rng3 scr r1))) = ms2 at *
    generalize rng3 scr r1 = r2 at *
    have lt2 : ms.length < ms2.length := (List.getElem?_eq_some_iff.mp k2).1
    refine' s_ifM (fun es' ms3 => ∃ j v3 w3 r3, es' = [some (.d (.lst (scr.map Dt.int))), some (.m ms.length), some (.d d), some (.m ms1.length), some (.m j), o4] ∧ ms3[ms.length]? = some (some (stD scr r3)) ∧ Ok scr r3 ∧ ms3[ms1.length]? = some (some [v1, w1]) ∧ ms3[j]? = some (some [v3, w3]) ∧ Num v3 w3) ?c (fun hb => ?t) (fun hb => ?f) (fun es' ms3 h => ?r)
    case c =>
      have k2' := ms_app (ns := [some [v2, w2]]) k2
      walk_at "go"
    case t =>
      walk_at "st"
      refine' s_nil ?_
      exact ⟨_, _, _, _, rfl, ms_set (ms_app k2), (ok2.pull (by decide)).1, ms_ne (ms_app j2) (by omega), ms_ne (ms_app j2) (by omega), n1⟩
    case f =>
      refine' s_nil ?_
      exact ⟨_, _, _, _, rfl, ms_set (ms_app k2), (ok2.pull (by decide)).1, ms_ne (ms_app j2) (by omega), ms_ne ms_new (by omega), n2⟩
    case r =>
      obtain ⟨j, v3, w3, r3, rfl, k3, ok3, j3, j4, n3⟩ := h
      refine' s_for (I := fun i es' ms' => ∃ o5, es' = [some (.d (.lst (scr.map Dt.int))), some (.m ms.length), some (.d d), some (.m ms1.length), some (.m j), o5] ∧ ms' = ms3) ?it2 ?tg2 ?h02 (fun i2 d2 es' ms' hd2 hI => ?turn2) (fun es' ms' hI => ?after2) hpo rfl
      case it2 => exact i_rng rfl (by assumption) d_int (by decide)
      case tg2 => exact tg_name hN nd (by decide)
      case h02 => exact ⟨_, rfl, rfl⟩
      case after2 =>
        obtain ⟨o5, rfl, rfl⟩ := hI
        refine' s_nil ?_
        exact ⟨_, _, _, _, _, rfl, k3, ok3⟩
      case turn2 =>
        obtain ⟨o5, rfl, rfl⟩ := hI
        obtain ⟨hi, rfl⟩ := irange_at hd2
        have hi4' : i2 < 4 := hi
        have hi0 : (0 : Int) ≤ 0 + i2 := by omega
        have hi4 : 0 + (i2 : Int) < 4 := by omega
        refine ⟨_, .there (.there (.there (.there (.there .here)))), ?_⟩
        clear k2 j2 lt1 lt2 hd1 hd2 hi ok2
        refine' s_if ?c2 (fun hb => ?t2) (fun hb => ?f2)
        case c2 => walk_at "go"
        case t2 => 
          rw [same_refl _ ask_deep.1] at hb
          cases hb
        case f2 =>
          walk_at "st"
          refine' s_nil ?_
          exact ⟨_, rfl, rfl⟩
end
end K02
namespace K02
open PySem PySem.Spec L2 Dv
theorem rows_of : ∀ {K : PySem.W.Frag} {H : Hp} (ns : List Int), RpA K H (ns.map V.int) (ns.map Dt.int)
  | _, _, [] => .nil
  | _, _, _ :: ns => .cons (.int _) (rows_of ns)
theorem law_ask {K : PySem.W.Frag} {H : Hp} {a : Addr} {ns : List Int} (h : SqL K H a (ns.map V.int)) : Pr K spLaw [V.ref a] H (fun v _ => v = .bl true) (fun _ _ _ => False) := by
  have e : hid [] H = H := by
    funext b
    unfold hid
    rw [if_neg (by simp)]
  refine ⟨[], [.d (.lst (ns.map Dt.int))], [], fun o => ∃ m, o = .ret (.bl true) m, ⟨rfl, fun i j b hi => by simp at hi, fun i b hi => by simp at hi⟩, .cons (show Rp K (hid [] H) (.ref a) _ by rw [e]; exact .lst h (rows_of ns)) .nil, ⟨ns, rfl, fun m => ⟨m, rfl⟩⟩, fun d m v H' ⟨m2, q⟩ _ _ r => ?_, fun x m cls dd H' h _ _ _ => (by obtain ⟨m2, q⟩ := h; cases q), fun ds m p H' h _ _ _ => (by obtain ⟨m2, q⟩ := h; cases q)⟩
  cases q
  cases r
  rfl
theorem exm_one {K : PySem.W.Frag} {S : Addr} (h1 : PySem.W.subIn K (.ref S) (.type "BaseException") = some true) (h2 : PySem.W.isClsIn K S = true) (h3 : PySem.W.typeIn K (.ref S) = some (.type "type")) (h4 : PySem.W.subIn K (.ref S) (.ref S) = some true) :
    PySem.W.exmOne K (.ref S) (.ref S) = some true := by
  have h2' : (PySem.W.clsIn K S).isSome = true := h2
  simp [PySem.W.exmOne, PySem.W.kitCls, h1, h2', h3, h4]
theorem all_mk {l : PySem.W.OpenLaw} {w : World} {K : PySem.W.Frag} {h : Heap} {mg : Str → Option Value} {fa C CB N fI f0 f1 f2 f3 f4 f5 f6 f7 f8 f9 f10 f11 f12 f13 f14 f15 f16 f17 f18 f19 f20 f21 f22 f23 : Addr} (X : K.In h) (G : h.Ns mainGlobals mg) (hfa : mg "law" = some (.ref fa))
    {nm q : Str} {bs bm : List Value} {sn : List Str} {sub : List Value} {ab : Bool} {col : Option Bool} {dd : Option Addr} {m0 m1 m2 m3 m5 : Option Value}
    {odI anI od0 an0 od1 an1 od2 an2 od3 an3 od4 an4 od5 an5 od6 an6 od7 an7 od8 an8 od9 an9 od10 an10 od11 an11 od12 an12 od13 an13 od14 an14 od15 an15 od16 an16 od17 an17 od18 an18 od19 an19 od20 an20 od21 an21 od22 an22 od23 an23 : Option Addr} {slI sl0 sl1 sl2 sl3 sl4 sl5 sl6 sl7 sl8 sl9 sl10 sl11 sl12 sl13 sl14 sl15 sl16 sl17 sl18 sl19 sl20 sl21 sl22 sl23 : Array (Option Value)} {ocI kVI dcI pmI cdI ctI oc0 kV0 dc0 pm0 cd0 ct0 oc1 kV1 dc1 pm1 cd1 ct1 oc2 kV2 dc2 pm2 cd2 ct2 oc3 kV3 dc3 pm3 cd3 ct3 oc4 kV4 dc4 pm4 cd4 ct4 oc5 kV5 dc5 pm5 cd5 ct5 oc6 kV6 dc6 pm6 cd6 ct6 oc7 kV7 dc7 pm7 cd7 ct7 oc8 kV8 dc8 pm8 cd8 ct8 oc9 kV9 dc9 pm9 cd9 ct9 oc10 kV10 dc10 pm10 cd10 ct10 oc11 kV11 dc11 pm11 cd11 ct11 oc12 kV12 dc12 pm12 cd12 ct12 oc13 kV13 dc13 pm13 cd13 ct13 oc14 kV14 dc14 pm14 cd14 ct14 oc15 kV15 dc15 pm15 cd15 ct15 oc16 kV16 dc16 pm16 cd16 ct16 oc17 kV17 dc17 pm17 cd17 ct17 oc18 kV18 dc18 pm18 cd18 ct18 oc19 kV19 dc19 pm19 cd19 ct19 oc20 kV20 dc20 pm20 cd20 ct20 oc21 kV21 dc21 pm21 cd21 ct21 oc22 kV22 dc22 pm22 cd22 ct22 oc23 kV23 dc23 pm23 cd23 ct23 : Value}
    (aC : PySem.W.nsIn K mainGlobals "InvalidFraction" = some (some (.ref C)))
    (aB : PySem.W.nsIn K mainGlobals "ShareError" = some (some (.ref CB)))
    (xL : K.lookup C = some (excClassObj nm q C N bs bm true sn sub ab col dd m0 m1 m2 m3 m5 "ArithmeticError.__new__"))
    (xT : PySem.W.excTail PySem.Exn.amro bm = true)
    (sa : PySem.W.findIn K (.ref C) "__setattr__" = some (some (.builtin "object.__setattr__")))
    (ga : PySem.W.findIn K (.ref C) "__getattribute__" = some (some (.builtin "BaseException.__getattribute__")))
    (gg : PySem.W.findIn K (.ref C) "__getattr__" = some none)
    (nn : PySem.W.findIn K (.ref C) "name" = some none)
    (eC : PySem.W.subIn K (.ref C) (.type "BaseException") = some true)
    (tC : PySem.W.typeIn K (.ref C) = some (.type "type"))
    (kC : PySem.W.keepIn K (.ref C) = true)
    (hC : PySem.W.hasDictIn K C = true)
    (iC : PySem.W.isClsIn K C = true)
    (sC : PySem.W.subIn K (.ref C) (.ref C) = some true)
    (bg : PySem.W.specialIn K (.ref CB) "__getattribute__" = some (some (.builtin "type.__getattribute__")))
    (br : PySem.W.readsIn K CB (.type "type") = true)
    (bi : PySem.W.findCls K (.ref CB) (.type "type") "__init__" = some (.val (.builtin "ArithmeticError.__init__")))
    (aI : PySem.W.findIn K (.ref C) "__init__" = some (some (.ref fI)))
    (tI : PySem.W.typeIn K (.ref fI) = some (.type "function"))
    (lI : K.lookup fI = some ⟨ocI, odI, .func (PySem.W.fnOf "__init__" "InvalidFraction.__init__" (defArgs sIF) (defBody sIF) (defScope sIF) .none kVI dcI pmI anI cdI ctI), slI⟩)
    (cI : PySem.W.codeIn K cdI "InvalidFraction.__init__" = true)
    (kI : PySem.W.keepIn K (.ref fI) = true)
    (gG : PySem.W.nsIn K mainGlobals "gcd" = some (some (.builtin "math.gcd")))
    (a0 : PySem.W.nsIn K mainGlobals "is_integer" = some (some (.ref f0)))
    (l0 : K.lookup f0 = some ⟨oc0, od0, .func (PySem.W.fnOf "is_integer" "is_integer" (defArgs sIsInteger) (defBody sIsInteger) (defScope sIsInteger) .none kV0 dc0 pm0 an0 cd0 ct0), sl0⟩)
    (c0 : PySem.W.codeIn K cd0 "is_integer" = true)
    (k0 : PySem.W.keepIn K (.ref f0) = true)
    (a1 : PySem.W.nsIn K mainGlobals "is_pair" = some (some (.ref f1)))
    (l1 : K.lookup f1 = some ⟨oc1, od1, .func (PySem.W.fnOf "is_pair" "is_pair" (defArgs sIsPair) (defBody sIsPair) (defScope sIsPair) .none kV1 dc1 pm1 an1 cd1 ct1), sl1⟩)
    (c1 : PySem.W.codeIn K cd1 "is_pair" = true)
    (k1 : PySem.W.keepIn K (.ref f1) = true)
    (a2 : PySem.W.nsIn K mainGlobals "is_fraction" = some (some (.ref f2)))
    (l2 : K.lookup f2 = some ⟨oc2, od2, .func (PySem.W.fnOf "is_fraction" "is_fraction" (defArgs sIsFraction) (defBody sIsFraction) (defScope sIsFraction) .none kV2 dc2 pm2 an2 cd2 ct2), sl2⟩)
    (c2 : PySem.W.codeIn K cd2 "is_fraction" = true)
    (k2 : PySem.W.keepIn K (.ref f2) = true)
    (a3 : PySem.W.nsIn K mainGlobals "added" = some (some (.ref f3)))
    (l3 : K.lookup f3 = some ⟨oc3, od3, .func (PySem.W.fnOf "added" "added" (defArgs sAdded) (defBody sAdded) (defScope sAdded) .none kV3 dc3 pm3 an3 cd3 ct3), sl3⟩)
    (c3 : PySem.W.codeIn K cd3 "added" = true)
    (k3 : PySem.W.keepIn K (.ref f3) = true)
    (a4 : PySem.W.nsIn K mainGlobals "subtracted" = some (some (.ref f4)))
    (l4 : K.lookup f4 = some ⟨oc4, od4, .func (PySem.W.fnOf "subtracted" "subtracted" (defArgs sSubtracted) (defBody sSubtracted) (defScope sSubtracted) .none kV4 dc4 pm4 an4 cd4 ct4), sl4⟩)
    (c4 : PySem.W.codeIn K cd4 "subtracted" = true)
    (k4 : PySem.W.keepIn K (.ref f4) = true)
    (a5 : PySem.W.nsIn K mainGlobals "multiplied" = some (some (.ref f5)))
    (l5 : K.lookup f5 = some ⟨oc5, od5, .func (PySem.W.fnOf "multiplied" "multiplied" (defArgs sMultiplied) (defBody sMultiplied) (defScope sMultiplied) .none kV5 dc5 pm5 an5 cd5 ct5), sl5⟩)
    (c5 : PySem.W.codeIn K cd5 "multiplied" = true)
    (k5 : PySem.W.keepIn K (.ref f5) = true)
    (a6 : PySem.W.nsIn K mainGlobals "is_less" = some (some (.ref f6)))
    (l6 : K.lookup f6 = some ⟨oc6, od6, .func (PySem.W.fnOf "is_less" "is_less" (defArgs sIsLess) (defBody sIsLess) (defScope sIsLess) .none kV6 dc6 pm6 an6 cd6 ct6), sl6⟩)
    (c6 : PySem.W.codeIn K cd6 "is_less" = true)
    (k6 : PySem.W.keepIn K (.ref f6) = true)
    (a7 : PySem.W.nsIn K mainGlobals "_terms" = some (some (.ref f7)))
    (l7 : K.lookup f7 = some ⟨oc7, od7, .func (PySem.W.fnOf "_terms" "_terms" (defArgs sTerms) (defBody sTerms) (defScope sTerms) .none kV7 dc7 pm7 an7 cd7 ct7), sl7⟩)
    (c7 : PySem.W.codeIn K cd7 "_terms" = true)
    (k7 : PySem.W.keepIn K (.ref f7) = true)
    (a8 : PySem.W.nsIn K mainGlobals "_lowest" = some (some (.ref f8)))
    (l8 : K.lookup f8 = some ⟨oc8, od8, .func (PySem.W.fnOf "_lowest" "_lowest" (defArgs sLowest) (defBody sLowest) (defScope sLowest) .none kV8 dc8 pm8 an8 cd8 ct8), sl8⟩)
    (c8 : PySem.W.codeIn K cd8 "_lowest" = true)
    (k8 : PySem.W.keepIn K (.ref f8) = true)
    (a9 : PySem.W.nsIn K mainGlobals "_law_is_int" = some (some (.ref f9)))
    (l9 : K.lookup f9 = some ⟨oc9, od9, .func (PySem.W.fnOf "_law_is_int" "_law_is_int" (defArgs sLIsInt) (defBody sLIsInt) (defScope sLIsInt) .none kV9 dc9 pm9 an9 cd9 ct9), sl9⟩)
    (c9 : PySem.W.codeIn K cd9 "_law_is_int" = true)
    (k9 : PySem.W.keepIn K (.ref f9) = true)
    (a10 : PySem.W.nsIn K mainGlobals "_law_same" = some (some (.ref f10)))
    (l10 : K.lookup f10 = some ⟨oc10, od10, .func (PySem.W.fnOf "_law_same" "_law_same" (defArgs sLSame) (defBody sLSame) (defScope sLSame) .none kV10 dc10 pm10 an10 cd10 ct10), sl10⟩)
    (c10 : PySem.W.codeIn K cd10 "_law_same" = true)
    (k10 : PySem.W.keepIn K (.ref f10) = true)
    (a11 : PySem.W.nsIn K mainGlobals "_law_gcd" = some (some (.ref f11)))
    (l11 : K.lookup f11 = some ⟨oc11, od11, .func (PySem.W.fnOf "_law_gcd" "_law_gcd" (defArgs sLGcd) (defBody sLGcd) (defScope sLGcd) .none kV11 dc11 pm11 an11 cd11 ct11), sl11⟩)
    (c11 : PySem.W.codeIn K cd11 "_law_gcd" = true)
    (k11 : PySem.W.keepIn K (.ref f11) = true)
    (a12 : PySem.W.nsIn K mainGlobals "_law_low" = some (some (.ref f12)))
    (l12 : K.lookup f12 = some ⟨oc12, od12, .func (PySem.W.fnOf "_law_low" "_law_low" (defArgs sLLow) (defBody sLLow) (defScope sLLow) .none kV12 dc12 pm12 an12 cd12 ct12), sl12⟩)
    (c12 : PySem.W.codeIn K cd12 "_law_low" = true)
    (k12 : PySem.W.keepIn K (.ref f12) = true)
    (a13 : PySem.W.nsIn K mainGlobals "_law_plus" = some (some (.ref f13)))
    (l13 : K.lookup f13 = some ⟨oc13, od13, .func (PySem.W.fnOf "_law_plus" "_law_plus" (defArgs sLPlus) (defBody sLPlus) (defScope sLPlus) .none kV13 dc13 pm13 an13 cd13 ct13), sl13⟩)
    (c13 : PySem.W.codeIn K cd13 "_law_plus" = true)
    (k13 : PySem.W.keepIn K (.ref f13) = true)
    (a14 : PySem.W.nsIn K mainGlobals "_law_minus" = some (some (.ref f14)))
    (l14 : K.lookup f14 = some ⟨oc14, od14, .func (PySem.W.fnOf "_law_minus" "_law_minus" (defArgs sLMinus) (defBody sLMinus) (defScope sLMinus) .none kV14 dc14 pm14 an14 cd14 ct14), sl14⟩)
    (c14 : PySem.W.codeIn K cd14 "_law_minus" = true)
    (k14 : PySem.W.keepIn K (.ref f14) = true)
    (a15 : PySem.W.nsIn K mainGlobals "_law_times" = some (some (.ref f15)))
    (l15 : K.lookup f15 = some ⟨oc15, od15, .func (PySem.W.fnOf "_law_times" "_law_times" (defArgs sLTimes) (defBody sLTimes) (defScope sLTimes) .none kV15 dc15 pm15 an15 cd15 ct15), sl15⟩)
    (c15 : PySem.W.codeIn K cd15 "_law_times" = true)
    (k15 : PySem.W.keepIn K (.ref f15) = true)
    (a16 : PySem.W.nsIn K mainGlobals "_law_start" = some (some (.ref f16)))
    (l16 : K.lookup f16 = some ⟨oc16, od16, .func (PySem.W.fnOf "_law_start" "_law_start" (defArgs sLStart) (defBody sLStart) (defScope sLStart) .none kV16 dc16 pm16 an16 cd16 ct16), sl16⟩)
    (c16 : PySem.W.codeIn K cd16 "_law_start" = true)
    (k16 : PySem.W.keepIn K (.ref f16) = true)
    (a17 : PySem.W.nsIn K mainGlobals "_law_pull" = some (some (.ref f17)))
    (l17 : K.lookup f17 = some ⟨oc17, od17, .func (PySem.W.fnOf "_law_pull" "_law_pull" (defArgs sLPull) (defBody sLPull) (defScope sLPull) .none kV17 dc17 pm17 an17 cd17 ct17), sl17⟩)
    (c17 : PySem.W.codeIn K cd17 "_law_pull" = true)
    (k17 : PySem.W.keepIn K (.ref f17) = true)
    (a18 : PySem.W.nsIn K mainGlobals "_law_big" = some (some (.ref f18)))
    (l18 : K.lookup f18 = some ⟨oc18, od18, .func (PySem.W.fnOf "_law_big" "_law_big" (defArgs sLBig) (defBody sLBig) (defScope sLBig) .none kV18 dc18 pm18 an18 cd18 ct18), sl18⟩)
    (c18 : PySem.W.codeIn K cd18 "_law_big" = true)
    (k18 : PySem.W.keepIn K (.ref f18) = true)
    (a19 : PySem.W.nsIn K mainGlobals "_law_integer" = some (some (.ref f19)))
    (l19 : K.lookup f19 = some ⟨oc19, od19, .func (PySem.W.fnOf "_law_integer" "_law_integer" (defArgs sLInteger) (defBody sLInteger) (defScope sLInteger) .none kV19 dc19 pm19 an19 cd19 ct19), sl19⟩)
    (c19 : PySem.W.codeIn K cd19 "_law_integer" = true)
    (k19 : PySem.W.keepIn K (.ref f19) = true)
    (a20 : PySem.W.nsIn K mainGlobals "_law_number" = some (some (.ref f20)))
    (l20 : K.lookup f20 = some ⟨oc20, od20, .func (PySem.W.fnOf "_law_number" "_law_number" (defArgs sLNumber) (defBody sLNumber) (defScope sLNumber) .none kV20 dc20 pm20 an20 cd20 ct20), sl20⟩)
    (c20 : PySem.W.codeIn K cd20 "_law_number" = true)
    (k20 : PySem.W.keepIn K (.ref f20) = true)
    (a21 : PySem.W.nsIn K mainGlobals "_law_asked" = some (some (.ref f21)))
    (l21 : K.lookup f21 = some ⟨oc21, od21, .func (PySem.W.fnOf "_law_asked" "_law_asked" (defArgs sLAsked) (defBody sLAsked) (defScope sLAsked) .none kV21 dc21 pm21 an21 cd21 ct21), sl21⟩)
    (c21 : PySem.W.codeIn K cd21 "_law_asked" = true)
    (k21 : PySem.W.keepIn K (.ref f21) = true)
    (a22 : PySem.W.nsIn K mainGlobals "_law_due" = some (some (.ref f22)))
    (l22 : K.lookup f22 = some ⟨oc22, od22, .func (PySem.W.fnOf "_law_due" "_law_due" (defArgs sLDue) (defBody sLDue) (defScope sLDue) .none kV22 dc22 pm22 an22 cd22 ct22), sl22⟩)
    (c22 : PySem.W.codeIn K cd22 "_law_due" = true)
    (k22 : PySem.W.keepIn K (.ref f22) = true)
    (a23 : PySem.W.nsIn K mainGlobals "law" = some (some (.ref f23)))
    (l23 : K.lookup f23 = some ⟨oc23, od23, .func (PySem.W.fnOf "law" "law" (defArgs sLaw) (defBody sLaw) (defScope sLaw) .none kV23 dc23 pm23 an23 cd23 ct23), sl23⟩)
    (c23 : PySem.W.codeIn K cd23 "law" = true)
    (k23 : PySem.W.keepIn K (.ref f23) = true)
    (z_len : PySem.W.nsIn K mainGlobals "len" = some none)
    (z_int : PySem.W.nsIn K mainGlobals "int" = some none)
    (z_abs : PySem.W.nsIn K mainGlobals "abs" = some none)
    (z_isinstance : PySem.W.nsIn K mainGlobals "isinstance" = some none)
    (z_range : PySem.W.nsIn K mainGlobals "range" = some none)
    (z_list : PySem.W.nsIn K mainGlobals "list" = some none)
    (z_tuple : PySem.W.nsIn K mainGlobals "tuple" = some none)
    (z_bool : PySem.W.nsIn K mainGlobals "bool" = some none)
    (z_str : PySem.W.nsIn K mainGlobals "str" = some none)
    : ∃ fd : FuncData, (∀ (s : Shared) (v : Value), BindsTo s fd ⟨[v], []⟩ [("_law_script", v)]) ∧ ∀ base : Heap, K.In base → base.Ns mainGlobals mg → FnOk l.prog w K mg base (L2.CX l.prog w) 7 fa fd ["_law_script"] (Pr K spLaw) := by
  have e := hfa.symm.trans (PySem.W.mg_of X G a23)
  cases e
  have F0 := fun_mk (st := sIsInteger) l0 c0 k0
  have b0 := F0.binds (ps := ["value"]) fun _ _ _ _ _ _ us hl => match us, hl with | [_], _ => rfl
  have g0 := PySem.W.mg_of X G a0
  have F1 := fun_mk (st := sIsPair) l1 c1 k1
  have b1 := F1.binds (ps := ["value"]) fun _ _ _ _ _ _ us hl => match us, hl with | [_], _ => rfl
  have g1 := PySem.W.mg_of X G a1
  have F2 := fun_mk (st := sIsFraction) l2 c2 k2
  have b2 := F2.binds (ps := ["value"]) fun _ _ _ _ _ _ us hl => match us, hl with | [_], _ => rfl
  have g2 := PySem.W.mg_of X G a2
  have F3 := fun_mk (st := sAdded) l3 c3 k3
  have b3 := F3.binds (ps := ["one", "other"]) fun _ _ _ _ _ _ us hl => match us, hl with | [_, _], _ => rfl
  have g3 := PySem.W.mg_of X G a3
  have F4 := fun_mk (st := sSubtracted) l4 c4 k4
  have b4 := F4.binds (ps := ["one", "other"]) fun _ _ _ _ _ _ us hl => match us, hl with | [_, _], _ => rfl
  have g4 := PySem.W.mg_of X G a4
  have F5 := fun_mk (st := sMultiplied) l5 c5 k5
  have b5 := F5.binds (ps := ["one", "other"]) fun _ _ _ _ _ _ us hl => match us, hl with | [_, _], _ => rfl
  have g5 := PySem.W.mg_of X G a5
  have F6 := fun_mk (st := sIsLess) l6 c6 k6
  have b6 := F6.binds (ps := ["one", "other"]) fun _ _ _ _ _ _ us hl => match us, hl with | [_, _], _ => rfl
  have g6 := PySem.W.mg_of X G a6
  have F7 := fun_mk (st := sTerms) l7 c7 k7
  have b7 := F7.binds (ps := ["value", "name"]) fun _ _ _ _ _ _ us hl => match us, hl with | [_, _], _ => rfl
  have g7 := PySem.W.mg_of X G a7
  have F8 := fun_mk (st := sLowest) l8 c8 k8
  have b8 := F8.binds (ps := ["above", "below"]) fun _ _ _ _ _ _ us hl => match us, hl with | [_, _], _ => rfl
  have g8 := PySem.W.mg_of X G a8
  have F9 := fun_mk (st := sLIsInt) l9 c9 k9
  have b9 := F9.binds (ps := ["_law_told"]) fun _ _ _ _ _ _ us hl => match us, hl with | [_], _ => rfl
  have g9 := PySem.W.mg_of X G a9
  have F10 := fun_mk (st := sLSame) l10 c10 k10
  have b10 := F10.binds (ps := ["_law_told", "_law_due_here"]) fun _ _ _ _ _ _ us hl => match us, hl with | [_, _], _ => rfl
  have g10 := PySem.W.mg_of X G a10
  have F11 := fun_mk (st := sLGcd) l11 c11 k11
  have b11 := F11.binds (ps := ["_law_one", "_law_other"]) fun _ _ _ _ _ _ us hl => match us, hl with | [_, _], _ => rfl
  have g11 := PySem.W.mg_of X G a11
  have F12 := fun_mk (st := sLLow) l12 c12 k12
  have b12 := F12.binds (ps := ["_law_top", "_law_bottom"]) fun _ _ _ _ _ _ us hl => match us, hl with | [_, _], _ => rfl
  have g12 := PySem.W.mg_of X G a12
  have F13 := fun_mk (st := sLPlus) l13 c13 k13
  have b13 := F13.binds (ps := ["_law_one", "_law_other"]) fun _ _ _ _ _ _ us hl => match us, hl with | [_, _], _ => rfl
  have g13 := PySem.W.mg_of X G a13
  have F14 := fun_mk (st := sLMinus) l14 c14 k14
  have b14 := F14.binds (ps := ["_law_one", "_law_other"]) fun _ _ _ _ _ _ us hl => match us, hl with | [_, _], _ => rfl
  have g14 := PySem.W.mg_of X G a14
  have F15 := fun_mk (st := sLTimes) l15 c15 k15
  have b15 := F15.binds (ps := ["_law_one", "_law_other"]) fun _ _ _ _ _ _ us hl => match us, hl with | [_, _], _ => rfl
  have g15 := PySem.W.mg_of X G a15
  have F16 := fun_mk (st := sLStart) l16 c16 k16
  have b16 := F16.binds (ps := ["_law_script"]) fun _ _ _ _ _ _ us hl => match us, hl with | [_], _ => rfl
  have g16 := PySem.W.mg_of X G a16
  have F17 := fun_mk (st := sLPull) l17 c17 k17
  have b17 := F17.binds (ps := ["_law_state", "_law_many"]) fun _ _ _ _ _ _ us hl => match us, hl with | [_, _], _ => rfl
  have g17 := PySem.W.mg_of X G a17
  have F18 := fun_mk (st := sLBig) l18 c18 k18
  have b18 := F18.binds (ps := ["_law_state", "_law_many"]) fun _ _ _ _ _ _ us hl => match us, hl with | [_, _], _ => rfl
  have g18 := PySem.W.mg_of X G a18
  have F19 := fun_mk (st := sLInteger) l19 c19 k19
  have b19 := F19.binds (ps := ["_law_state"]) fun _ _ _ _ _ _ us hl => match us, hl with | [_], _ => rfl
  have g19 := PySem.W.mg_of X G a19
  have F20 := fun_mk (st := sLNumber) l20 c20 k20
  have b20 := F20.binds (ps := ["_law_state"]) fun _ _ _ _ _ _ us hl => match us, hl with | [_], _ => rfl
  have g20 := PySem.W.mg_of X G a20
  have F21 := fun_mk (st := sLAsked) l21 c21 k21
  have b21 := F21.binds (ps := ["_law_turn", "_law_one", "_law_other"]) fun _ _ _ _ _ _ us hl => match us, hl with | [_, _, _], _ => rfl
  have g21 := PySem.W.mg_of X G a21
  have F22 := fun_mk (st := sLDue) l22 c22 k22
  have b22 := F22.binds (ps := ["_law_turn", "_law_one", "_law_other"]) fun _ _ _ _ _ _ us hl => match us, hl with | [_, _, _], _ => rfl
  have g22 := PySem.W.mg_of X G a22
  have F23 := fun_mk (st := sLaw) l23 c23 k23
  have b23 := F23.binds (ps := ["_law_script"]) fun _ _ _ _ _ _ us hl => match us, hl with | [_], _ => rfl
  have g23 := PySem.W.mg_of X G a23
  have FI := fun_mk (st := sIF) lI cI kI
  have bI := FI.binds (ps := ["self", "name"]) fun _ _ _ _ _ _ us hl => match us, hl with | [_, _], _ => rfl
  have B : Bi mg := ⟨PySem.W.mg_none_of X G z_len, PySem.W.mg_none_of X G z_int, PySem.W.mg_none_of X G z_abs, PySem.W.mg_none_of X G z_isinstance, PySem.W.mg_none_of X G z_range, PySem.W.mg_none_of X G z_list, PySem.W.mg_none_of X G z_tuple, PySem.W.mg_none_of X G z_bool, PySem.W.mg_none_of X G z_str⟩
  have T : ExnC K C := ⟨⟨nm, q, N, bs, bm, sn, sub, ab, col, dd, m0, m1, m2, m3, m5, xL, xT⟩, sa, eC, tC, kC⟩
  refine ⟨PySem.W.fnOf "law" "law" (defArgs sLaw) (defBody sLaw) (defScope sLaw) .none kV23 dc23 pm23 an23 cd23 ct23, fun s v => .of_eq rfl, fun base _ _ => ?_⟩
  have E1 : Err l.prog w K mg base "InvalidFraction" C ["name"] oneStr := ⟨T, ⟨fI, _, _, aI, tI, ok_if T nn (PySem.W.mg_of X G aB) bg br bi FI, bI⟩, PySem.W.mg_of X G aC⟩
  have cInt : Callee l.prog w K mg base "is_integer" 1 spIsInt := ⟨f0, _, _, ok_isInt B F0, g0, k0, b0⟩
  have cPair : Callee l.prog w K mg base "is_pair" 1 spIsPair := ⟨f1, _, _, ok_isPair B F1, g1, k1, b1⟩
  have cFrac : Callee l.prog w K mg base "is_fraction" 2 spIsFrac := ⟨f2, _, _, ok_isFrac B cPair cInt F2, g2, k2, b2⟩
  have cTerms : Callee l.prog w K mg base "_terms" 4 (spTerms C) := ⟨f7, _, _, ok_terms E1 cFrac cInt F7, g7, k7, b7⟩
  have cLow : Callee l.prog w K mg base "_lowest" 1 spLow := ⟨f8, _, _, ok_low (PySem.W.mg_of X G gG) F8, g8, k8, b8⟩
  have cAdd : Callee l.prog w K mg base "added" 5 (spOp C 0) := ⟨f3, _, _, ok_added cTerms cLow F3, g3, k3, b3⟩
  have cSub : Callee l.prog w K mg base "subtracted" 5 (spOp C 1) := ⟨f4, _, _, ok_subtracted cTerms cLow F4, g4, k4, b4⟩
  have cMul : Callee l.prog w K mg base "multiplied" 5 (spOp C 2) := ⟨f5, _, _, ok_multiplied cTerms cLow F5, g5, k5, b5⟩
  have cLess : Callee l.prog w K mg base "is_less" 5 (spOp C 3) := ⟨f6, _, _, ok_is_less cTerms cLow F6, g6, k6, b6⟩
  have cLI : Callee l.prog w K mg base "_law_is_int" 1 spIsInt := ⟨f9, _, _, ok_lisInt B F9, g9, k9, b9⟩
  have cSame : Callee l.prog w K mg base "_law_same" 5 (spSame 4) := ⟨f10, _, _, all_same B cLI F10 g10 b10 4, g10, k10, b10⟩
  have cGcd : Callee l.prog w K mg base "_law_gcd" 1 spGcd := ⟨f11, _, _, ok_gcd B F11, g11, k11, b11⟩
  have cLL : Callee l.prog w K mg base "_law_low" 2 spLLow := ⟨f12, _, _, ok_llow B cGcd F12, g12, k12, b12⟩
  have cP0 : Callee l.prog w K mg base "_law_plus" 3 (spTwo 0) := ⟨f13, _, _, ok_plus cLL F13, g13, k13, b13⟩
  have cP1 : Callee l.prog w K mg base "_law_minus" 3 (spTwo 1) := ⟨f14, _, _, ok_minus cLL F14, g14, k14, b14⟩
  have cP2 : Callee l.prog w K mg base "_law_times" 3 (spTwo 2) := ⟨f15, _, _, ok_times cLL F15, g15, k15, b15⟩
  have cStart : Callee l.prog w K mg base "_law_start" 1 spStart := ⟨f16, _, _, ok_start B F16, g16, k16, b16⟩
  have cPull (scr : List Int) : Callee l.prog w K mg base "_law_pull" 1 (spPull scr) := ⟨f17, _, _, ok_pull B F17, g17, k17, b17⟩
  have cBig (scr : List Int) : Callee l.prog w K mg base "_law_big" 2 (spBig scr) := ⟨f18, _, _, ok_big B (cPull scr) F18, g18, k18, b18⟩
  have cInteger (scr : List Int) : Callee l.prog w K mg base "_law_integer" 3 (spInteger scr) := ⟨f19, _, _, ok_integer (cPull scr) (cBig scr) F19, g19, k19, b19⟩
  have cNumber (scr : List Int) : Callee l.prog w K mg base "_law_number" 4 (spNumber scr) := ⟨f20, _, _, ok_number B (cPull scr) (cInteger scr) cLL F20, g20, k20, b20⟩
  have cAsked : Callee l.prog w K mg base "_law_asked" 6 (spAsked C) := ⟨f21, _, _, ok_asked (PySem.W.mg_of X G aC) (exm_one eC iC tC sC) ⟨ga, gg, eC, hC⟩ nn cAdd cSub cMul cLess F21, g21, k21, b21⟩
  have cDue : Callee l.prog w K mg base "_law_due" 4 spDue := ⟨f22, _, _, ok_due cP0 cP1 cP2 F22, g22, k22, b22⟩
  exact ok_law B cStart cNumber cPull cSame cDue cAsked F23
theorem walk {l : PySem.W.OpenLaw} {q : Program} {loose : List Str} {XP : (Str → Option Value) → Heap → Prop} {YP : World → Heap → Prop} {d : DefRec} {K : Params → PySem.W.Frag} (hn : l.most = some 63) (hdf : d.params.defaults = [])
    (hY : ∀ (w : World) (h : Heap), YP w h → (K w.params).In h)
    (F : ∀ (w : World) (mg : Str → Option Value) (fa : Addr) (h : Heap), (K w.params).In h → h.Ns mainGlobals mg → mg d.name = some (.ref fa) →
      ∃ fd : FuncData, (∀ (s : Shared) (u : Value), BindsTo s fd ⟨[u], []⟩ [("_law_script", u)]) ∧ ∀ base : Heap, (K w.params).In base → base.Ns mainGlobals mg → FnOk l.prog w (K w.params) mg base (L2.CX l.prog w) 7 fa fd ["_law_script"] (Pr (K w.params) spLaw)) :
    PySem.W.WalkO q loose XP YP l.row.toRowW d [] (fun f vs => PySem.call f vs) :=
  L2.walk_of (n := 63) (k := 7) (x := "_law_script") (CX := fun w => L2.CX l.prog w) (sp := fun w => Pr (K w.params) spLaw) hn (by decide) hdf ⟨rfl, by decide, by decide⟩ hY F (fun _ _ a ns hl _ hS => law_ask hS) fun _ _ _ _ _ z => by
    obtain ⟨_, _, _, _, _, _, _, _, _, _, _, _, h⟩ := z
    exact h
end K02
open PySem PySem.W PyProof.Rows
set_option maxRecDepth 100000 in
set_option maxHeartbeats 0 in
theorem PySem.Challenge.cw_pageshares_k02_sums_products_and_order_holds : PySem.Challenge.rw_pageshares_k02_sums_products_and_order.Holds := by
  w_on; o_law; k_head; (case hw => w_witness2)
  k_fill
  refine K02.walk (l := PySem.Challenge.rw_pageshares_k02_sums_products_and_order) rfl rfl (fun w h Y => PySem.W.kIn_of Y) ?F
  case F =>
    intro w mg fa h KX G hmg
    refine' K02.all_mk KX G hmg ?aC ?aB ?xL ?xT ?sa ?ga ?gg ?nn ?eC ?tC ?kC ?hC ?iC ?sC ?bg ?br ?bi ?aI ?tI ?lI ?cI ?kI ?gG ?a0 ?l0 ?c0 ?k0 ?a1 ?l1 ?c1 ?k1 ?a2 ?l2 ?c2 ?k2 ?a3 ?l3 ?c3 ?k3 ?a4 ?l4 ?c4 ?k4 ?a5 ?l5 ?c5 ?k5 ?a6 ?l6 ?c6 ?k6 ?a7 ?l7 ?c7 ?k7 ?a8 ?l8 ?c8 ?k8 ?a9 ?l9 ?c9 ?k9 ?a10 ?l10 ?c10 ?k10 ?a11 ?l11 ?c11 ?k11 ?a12 ?l12 ?c12 ?k12 ?a13 ?l13 ?c13 ?k13 ?a14 ?l14 ?c14 ?k14 ?a15 ?l15 ?c15 ?k15 ?a16 ?l16 ?c16 ?k16 ?a17 ?l17 ?c17 ?k17 ?a18 ?l18 ?c18 ?k18 ?a19 ?l19 ?c19 ?k19 ?a20 ?l20 ?c20 ?k20 ?a21 ?l21 ?c21 ?k21 ?a22 ?l22 ?c22 ?k22 ?a23 ?l23 ?c23 ?k23 ?z_len ?z_int ?z_abs ?z_isinstance ?z_range ?z_list ?z_tuple ?z_bool ?z_str
    (case aC => first | k_is | rfl)
    (case aB => first | k_is | rfl)
    (case xL => first | k_is | rfl)
    (case xT => first | rfl | decide +kernel)
    (case sa => first | k_is | rfl)
    (case ga => first | k_is | rfl)
    (case gg => first | k_is | rfl)
    (case nn => first | k_is | rfl)
    (case eC => first | k_is | rfl)
    (case tC => first | k_is | rfl)
    (case kC => first | k_is | rfl)
    (case hC => first | k_is | rfl)
    (case iC => first | k_is | rfl)
    (case sC => first | k_is | rfl)
    (case bg => first | k_is | rfl)
    (case br => first | k_is | rfl)
    (case bi => first | k_is | rfl)
    (case aI => first | k_is | rfl)
    (case tI => first | k_is | rfl)
    (case lI => first | k_is | rfl)
    (case cI => first | k_is | rfl)
    (case kI => first | k_is | rfl)
    (case gG => first | k_is | rfl)
    (case a0 => first | k_is | rfl)
    (case l0 => first | k_is | rfl)
    (case c0 => first | k_is | rfl)
    (case k0 => first | k_is | rfl)
    (case a1 => first | k_is | rfl)
    (case l1 => first | k_is | rfl)
    (case c1 => first | k_is | rfl)
    (case k1 => first | k_is | rfl)
    (case a2 => first | k_is | rfl)
    (case l2 => first | k_is | rfl)
    (case c2 => first | k_is | rfl)
    (case k2 => first | k_is | rfl)
    (case a3 => first | k_is | rfl)
    (case l3 => first | k_is | rfl)
    (case c3 => first | k_is | rfl)
    (case k3 => first | k_is | rfl)
    (case a4 => first | k_is | rfl)
    (case l4 => first | k_is | rfl)
    (case c4 => first | k_is | rfl)
    (case k4 => first | k_is | rfl)
    (case a5 => first | k_is | rfl)
    (case l5 => first | k_is | rfl)
    (case c5 => first | k_is | rfl)
    (case k5 => first | k_is | rfl)
    (case a6 => first | k_is | rfl)
    (case l6 => first | k_is | rfl)
    (case c6 => first | k_is | rfl)
    (case k6 => first | k_is | rfl)
    (case a7 => first | k_is | rfl)
    (case l7 => first | k_is | rfl)
    (case c7 => first | k_is | rfl)
    (case k7 => first | k_is | rfl)
    (case a8 => first | k_is | rfl)
    (case l8 => first | k_is | rfl)
    (case c8 => first | k_is | rfl)
    (case k8 => first | k_is | rfl)
    (case a9 => first | k_is | rfl)
    (case l9 => first | k_is | rfl)
    (case c9 => first | k_is | rfl)
    (case k9 => first | k_is | rfl)
    (case a10 => first | k_is | rfl)
    (case l10 => first | k_is | rfl)
    (case c10 => first | k_is | rfl)
    (case k10 => first | k_is | rfl)
    (case a11 => first | k_is | rfl)
    (case l11 => first | k_is | rfl)
    (case c11 => first | k_is | rfl)
    (case k11 => first | k_is | rfl)
    (case a12 => first | k_is | rfl)
    (case l12 => first | k_is | rfl)
    (case c12 => first | k_is | rfl)
    (case k12 => first | k_is | rfl)
    (case a13 => first | k_is | rfl)
    (case l13 => first | k_is | rfl)
    (case c13 => first | k_is | rfl)
    (case k13 => first | k_is | rfl)
    (case a14 => first | k_is | rfl)
    (case l14 => first | k_is | rfl)
    (case c14 => first | k_is | rfl)
    (case k14 => first | k_is | rfl)
    (case a15 => first | k_is | rfl)
    (case l15 => first | k_is | rfl)
    (case c15 => first | k_is | rfl)
    (case k15 => first | k_is | rfl)
    (case a16 => first | k_is | rfl)
    (case l16 => first | k_is | rfl)
    (case c16 => first | k_is | rfl)
    (case k16 => first | k_is | rfl)
    (case a17 => first | k_is | rfl)
    (case l17 => first | k_is | rfl)
    (case c17 => first | k_is | rfl)
    (case k17 => first | k_is | rfl)
    (case a18 => first | k_is | rfl)
    (case l18 => first | k_is | rfl)
    (case c18 => first | k_is | rfl)
    (case k18 => first | k_is | rfl)
    (case a19 => first | k_is | rfl)
    (case l19 => first | k_is | rfl)
    (case c19 => first | k_is | rfl)
    (case k19 => first | k_is | rfl)
    (case a20 => first | k_is | rfl)
    (case l20 => first | k_is | rfl)
    (case c20 => first | k_is | rfl)
    (case k20 => first | k_is | rfl)
    (case a21 => first | k_is | rfl)
    (case l21 => first | k_is | rfl)
    (case c21 => first | k_is | rfl)
    (case k21 => first | k_is | rfl)
    (case a22 => first | k_is | rfl)
    (case l22 => first | k_is | rfl)
    (case c22 => first | k_is | rfl)
    (case k22 => first | k_is | rfl)
    (case a23 => first | k_is | rfl)
    (case l23 => first | k_is | rfl)
    (case c23 => first | k_is | rfl)
    (case k23 => first | k_is | rfl)
    (case z_len => first | k_is | rfl)
    (case z_int => first | k_is | rfl)
    (case z_abs => first | k_is | rfl)
    (case z_isinstance => first | k_is | rfl)
    (case z_range => first | k_is | rfl)
    (case z_list => first | k_is | rfl)
    (case z_tuple => first | k_is | rfl)
    (case z_bool => first | k_is | rfl)
    (case z_str => first | k_is | rfl)

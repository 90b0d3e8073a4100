import PyProof.Rows.All
import Wide.All
import OpenK.AllK
import Wide.FinOn
import HandS.Lambda
import HandS.EndTab
import HandS.NestedK
import KE.SortKeyHeap
import HandS.ForMost
import HandS.Gcd
import HandS.IsInst
import HandS.Wide
import HandS.Style
import HandS.Walk
import HandS.EndBits
import HandS.TryOnly
import HandS.ExcOwn
import PyProof.ReprRoads
import KE.KStateDown
import HandS.More
import HandS.WordsExc
import HandS.Defaults
import HandS.Head0
import HandS.Head1
import HandS.Head2
import HandS.HeadEnd
import HandS.HeadHook1
import HandS.HeadHook2
import HandS.TupAny
import HandS.Flt
import PyProof.ExcBaseAll.ValueError
import HandS.Deep
import KE.DataCmp
import HandS.Zip
import KE.KDictZip
import HandS.MapObj
import HandS.DictTup
import HandS.ExcValue
import HandS.Conv
import KE.SortCalls
import KE.KSortKey
import PyProof.TupleIter
import HandS.Nested
import HandS.SortKw
import KE.DataMinMax
import HandS.NoneIn
import PySem.Challenge.RW_plateheaps_k18_insides_of_plates
set_option exponentiation.threshold 2000
set_option Elab.async false
set_option linter.all false
set_option maxRecDepth 100000
set_option maxHeartbeats 0
/-! The tables of code objects that the program's defs fill: each with the name that its code objects bear. -/
namespace PH
open PySem
def lamTabs : List (Addr × Str) := [(60, "ascending.<locals>.<lambda>")]
end PH

/-! Data in the place of heaps: what a value stands for (Dq), a frame's slots as data (Ev), readings over data and how they come from the layer's readings. -/
namespace PH
open PySem PySem.Spec PyProof.Rows L2

abbrev D := PyData
abbrev Sr := Option (Addr × Addr)
/-- the source of drawn numbers, as a datum -/
abbrev SRC : D := .dict [(.none, .none)]

mutual
inductive Dq (S : Sr) (M : Addr → Prop) (H : Hp) : V → D → Prop
  | non : Dq S M H .non .none
  | bl (b : Bool) : Dq S M H (.bl b) (.bool b)
  | int (i : Int) : Dq S M H (.int i) (.int i)
  | str (x : Str) : Dq S M H (.str x) (.str x)
  | lst {a : Addr} {xs : List V} {ds : List D} : ¬ M a → H a = some (.lst xs) → Dqs S M H xs ds → Dq S M H (.ref a) (.list ds)
  | tup {a : Addr} {xs : List V} {ds : List D} : ¬ M a → H a = some (.tup xs) → Dqs S M H xs ds → Dq S M H (.ref a) (.tuple ds)
  | dic {a : Addr} : ¬ M a → H a = some (.dK []) → Dq S M H (.ref a) (.dict [])
  | src {p c : Addr} : S = some (p, c) → Dq S M H (.ref p) SRC
inductive Dqs (S : Sr) (M : Addr → Prop) (H : Hp) : List V → List D → Prop
  | nil : Dqs S M H [] []
  | cons {v : V} {vs : List V} {d : D} {ds : List D} : Dq S M H v d → Dqs S M H vs ds → Dqs S M H (v :: vs) (d :: ds)
end

section
variable {S : Sr} {M M' : Addr → Prop} {H H' : Hp}
mutual
theorem Dq.go (g : ∀ a o, ¬ M a → H a = some o → ¬ M' a ∧ H' a = some o) : ∀ {v : V} {d : D}, Dq S M H v d → Dq S M' H' v d
  | _, _, .non => .non
  | _, _, .bl b => .bl b
  | _, _, .int i => .int i
  | _, _, .str x => .str x
  | _, _, .lst n e r => .lst (g _ _ n e).1 (g _ _ n e).2 (Dqs.go g r)
  | _, _, .tup n e r => .tup (g _ _ n e).1 (g _ _ n e).2 (Dqs.go g r)
  | _, _, .dic n e => .dic (g _ _ n e).1 (g _ _ n e).2
  | _, _, .src e => .src e
theorem Dqs.go (g : ∀ a o, ¬ M a → H a = some o → ¬ M' a ∧ H' a = some o) : ∀ {vs : List V} {ds : List D}, Dqs S M H vs ds → Dqs S M' H' vs ds
  | _, _, .nil => .nil
  | _, _, .cons a b => .cons (Dq.go g a) (Dqs.go g b)
end
mutual
theorem Dq.goT (g : ∀ a o, ¬ M a → H a = some o → ¬ M' a ∧ (H' a = some o ∨ ∃ ps ps', o = .tbl ps ∧ H' a = some (.tbl ps'))) : ∀ {v : V} {d : D}, Dq S M H v d → Dq S M' H' v d
  | _, _, .non => .non
  | _, _, .bl b => .bl b
  | _, _, .int i => .int i
  | _, _, .str x => .str x
  | _, _, .lst n e r => .lst (g _ _ n e).1 ((g _ _ n e).2.resolve_right fun ⟨_, _, z, _⟩ => nomatch z) (Dqs.goT g r)
  | _, _, .tup n e r => .tup (g _ _ n e).1 ((g _ _ n e).2.resolve_right fun ⟨_, _, z, _⟩ => nomatch z) (Dqs.goT g r)
  | _, _, .dic n e => .dic (g _ _ n e).1 ((g _ _ n e).2.resolve_right fun ⟨_, _, z, _⟩ => nomatch z)
  | _, _, .src e => .src e
theorem Dqs.goT (g : ∀ a o, ¬ M a → H a = some o → ¬ M' a ∧ (H' a = some o ∨ ∃ ps ps', o = .tbl ps ∧ H' a = some (.tbl ps'))) : ∀ {vs : List V} {ds : List D}, Dqs S M H vs ds → Dqs S M' H' vs ds
  | _, _, .nil => .nil
  | _, _, .cons a b => .cons (Dq.goT g a) (Dqs.goT g b)
end
theorem Dqs.length : ∀ {vs : List V} {ds : List D}, Dqs S M H vs ds → vs.length = ds.length
  | _, _, .nil => rfl
  | _, _, .cons _ r => by simp [Dqs.length r]
theorem Dqs.get : ∀ {vs : List V} {ds : List D} {i : Nat} {d : D}, Dqs S M H vs ds → ds[i]? = some d → ∃ v, vs[i]? = some v ∧ Dq S M H v d
  | _, _, _, _, .nil, e => by simp at e
  | _, _, 0, _, .cons r _, e => by simp at e; subst e; exact ⟨_, rfl, r⟩
  | _, _, i + 1, d, .cons _ t, e => by
    obtain ⟨u, h1, h2⟩ := Dqs.get (i := i) (d := d) t (by simpa using e)
    exact ⟨u, by simpa using h1, h2⟩
theorem Dqs.getV : ∀ {vs : List V} {ds : List D} {i : Nat} {v : V}, Dqs S M H vs ds → vs[i]? = some v → ∃ d, ds[i]? = some d ∧ Dq S M H v d
  | _, _, _, _, .nil, e => by simp at e
  | _, _, 0, _, .cons r _, e => by simp at e; subst e; exact ⟨_, rfl, r⟩
  | _, _, i + 1, v, .cons _ t, e => by
    obtain ⟨u, h1, h2⟩ := Dqs.getV (i := i) (v := v) t (by simpa using e)
    exact ⟨u, by simpa using h1, h2⟩
theorem Dqs.append : ∀ {vs ws : List V} {ds es : List D}, Dqs S M H vs ds → Dqs S M H ws es → Dqs S M H (vs ++ ws) (ds ++ es)
  | _, _, _, _, .nil, s => s
  | _, _, _, _, .cons a b, s => .cons a (Dqs.append b s)
theorem Dqs.take : ∀ {vs : List V} {ds : List D} (n : Nat), Dqs S M H vs ds → Dqs S M H (vs.take n) (ds.take n)
  | _, _, 0, _ => .nil
  | _, _, _ + 1, .nil => .nil
  | _, _, n + 1, .cons r t => .cons r (Dqs.take n t)
theorem Dqs.drop : ∀ {vs : List V} {ds : List D} (n : Nat), Dqs S M H vs ds → Dqs S M H (vs.drop n) (ds.drop n)
  | _, _, 0, r => r
  | _, _, _ + 1, .nil => .nil
  | _, _, n + 1, .cons _ t => Dqs.drop n t
theorem Dqs.rev {vs : List V} {ds : List D} (h : Dqs S M H vs ds) : Dqs S M H vs.reverse ds.reverse := by
  induction vs generalizing ds with
  | nil => cases h; exact .nil
  | cons v r ih =>
    cases h with
    | cons a b => rw [List.reverse_cons, List.reverse_cons]; exact (ih b).append (.cons a .nil)
theorem Dqs.rep {v : V} {d : D} (h : Dq S M H v d) : ∀ n, Dqs S M H (List.replicate n v) (List.replicate n d)
  | 0 => .nil
  | n + 1 => .cons h (Dqs.rep h n)
end

/-- the source stands as it should -/
def srcKvs (c : Addr) (l m t : Int) : List (Key × V) := [(.inr "cells", .ref c), (.inr "left", .int l), (.inr "mixed", .int m), (.inr "turn", .int t)]
structure SrcOk (S : Sr) (M : Addr → Prop) (H : Hp) : Prop where
  go : ∀ p c, S = some (p, c) → M p ∧ M c ∧ p ≠ c ∧ ∃ (ns : List Int) (l m t : Int), H c = some (.lst (ns.map V.int)) ∧ H p = some (.dK (srcKvs c l m t))
  tab : LamX.Tabs lamTabs H
theorem SrcOk.at {S : Sr} {M M' : Addr → Prop} {H H' : Hp} (x : SrcOk S M H) (y : SrcOk S M' H') : SrcOk S M H' := ⟨fun p c e => let ⟨a, b, _⟩ := x.go p c e; let ⟨_, _, r⟩ := y.go p c e; ⟨a, b, r⟩, y.tab⟩
theorem SrcOk.more {S : Sr} {M M' : Addr → Prop} {H : Hp} (x : SrcOk S M H) (h : ∀ a, M a → M' a) : SrcOk S M' H := ⟨fun p c e => let ⟨a, b, r⟩ := x.go p c e; ⟨h _ a, h _ b, r⟩, x.tab⟩
/-- all but the source is kept; tables stay tables -/
def KeepS (S : Sr) (H H' : Hp) : Prop := ∀ a o, H a = some o → (∀ p c, S = some (p, c) → a ≠ p ∧ a ≠ c) → H' a = some o ∨ ∃ ps ps', o = .tbl ps ∧ H' a = some (.tbl ps')
theorem KeepS.k {S : Sr} {H H' : Hp} (k : KeepS S H H') (a : Addr) (o : HO) (e : H a = some o) (n : ∀ p c, S = some (p, c) → a ≠ p ∧ a ≠ c) (h : ∀ ps, o ≠ .tbl ps := by intro _ z; cases z) : H' a = some o := (k a o e n).resolve_right fun ⟨ps, _, z, _⟩ => h ps z
theorem KeepS.nn {S : Sr} {H H' : Hp} (k : KeepS S H H') {a : Addr} (e : H a ≠ none) (n : ∀ p c, S = some (p, c) → a ≠ p ∧ a ≠ c) : H' a ≠ none := by
  cases z : H a with
  | none => exact absurd z e
  | some o =>
    rcases k a o z n with q | ⟨_, _, _, q⟩ <;> rw [q] <;> exact fun y => nomatch y
theorem KeepS.refl {S : Sr} {H : Hp} : KeepS S H H := fun _ _ e _ => .inl e
theorem KeepS.trans {S : Sr} {H H1 H2 : Hp} (a : KeepS S H H1) (b : KeepS S H1 H2) : KeepS S H H2 := fun c o e n => by
  rcases a c o e n with q | ⟨ps, ps', q1, q2⟩
  · exact b c o q n
  · rcases b c _ q2 n with q | ⟨_, qs, _, q⟩
    · exact .inr ⟨ps, ps', q1, q⟩
    · exact .inr ⟨ps, qs, q1, q⟩
theorem KeepS.of {S : Sr} {H H' : Hp} (h : Same H H') : KeepS S H H' := fun a o e _ => .inl (h a o e)
theorem SrcOk.same {S : Sr} {M : Addr → Prop} {H H' : Hp} (x : SrcOk S M H) (h : Same H H') : SrcOk S M H' := ⟨fun p c e => by
  obtain ⟨a, b, n, ns, l, m, t, h1, h2⟩ := x.go p c e
  exact ⟨a, b, n, ns, l, m, t, h _ _ h1, h _ _ h2⟩, x.tab.ext h⟩
/-- a list's object written: the tables stay -/
theorem tabs_upd {H : Hp} {a : Addr} {o u : HO} (T : LamX.Tabs lamTabs H) (e : H a = some o) (h1 : ∀ ps, o ≠ .tbl ps := by intro _ z; cases z) (h2 : ∀ c q, o ≠ LamX.CodeO c q := by intro _ _ z; cases z) : LamX.Tabs lamTabs (upd H a u) := fun p hp => by
  obtain ⟨ps, t1, t2, t3⟩ := T p hp
  refine ⟨ps, ?_, t2, fun pos cv hc => ?_⟩
  · rw [upd_ne fun z => h1 ps ?_]
    · exact t1
    · rw [z, e] at t1; exact Option.some.inj t1
  · obtain ⟨c, c1, c2⟩ := t3 pos cv hc
    refine ⟨c, c1, ?_⟩
    have n : c ≠ a := fun z => by
      have w : H a = H c := by rw [z]
      exact h2 c p.2 (Option.some.inj (e.symm.trans (w.trans c2)))
    rw [upd_ne n]; exact c2
theorem Same.upd {H : Hp} {p : Addr} {o : HO} (h : H p = none) : Same H (upd H p o) := fun b u e => by
  rw [upd_ne (ne_of_none e h)]; exact e

/-! ### slots -/
inductive Sl where
  | emp | val (d : D) | own (a : Addr) (ds : List D)
abbrev DSt := List Sl
def MO (M : Addr → Prop) (σd : DSt) : Addr → Prop := fun a => M a ∨ ∃ ds, Sl.own a ds ∈ σd
def SlR (S : Sr) (M : Addr → Prop) (H : Hp) (o : Option V) : Sl → Prop
  | .emp => True
  | .val d => ∃ v, o = some v ∧ Dq S M H v d
  | .own a ds => o = some (.ref a) ∧ ∃ xs, H a = some (.lst xs) ∧ Dqs S M H xs ds
structure Ev (S : Sr) (M : Addr → Prop) (H0 H : Hp) (σ : L2.St) (σd : DSt) : Prop where
  len : σd.length = σ.length
  sl : ∀ (i : Nat) (o : Option V) (s : Sl), σ[i]? = some o → σd[i]? = some s → SlR S (MO M σd) H o s
  uni : ∀ (i j : Nat) (a : Addr) (ds es : List D), σd[i]? = some (.own a ds) → σd[j]? = some (.own a es) → i = j
  new : ∀ a ds, Sl.own a ds ∈ σd → H0 a = none
  src : SrcOk S M H
  src0 : ∀ p c, S = some (p, c) → H0 p ≠ none ∧ H0 c ≠ none
  keep : KeepS S H0 H
  mt : ∀ a, M a → H a ≠ none
  mt0 : ∀ a, M a → H0 a ≠ none
section
variable {S : Sr} {M : Addr → Prop} {H0 H H' : Hp} {σ : L2.St} {σd : DSt}
theorem Ev.kp (E : Ev S M H0 H σ σd) (k : KeepS S H H') : ∀ a o, ¬ MO M σd a → H a = some o → ¬ MO M σd a ∧ (H' a = some o ∨ ∃ ps ps', o = .tbl ps ∧ H' a = some (.tbl ps')) := fun a o n e =>
  ⟨n, k a o e fun p c q => by
    obtain ⟨hp, hc, _⟩ := E.src.go p c q
    exact ⟨fun z => n (.inl (z ▸ hp)), fun z => n (.inl (z ▸ hc))⟩⟩
theorem Ev.dq (E : Ev S M H0 H σ σd) (k : KeepS S H H') {v : V} {d : D} (h : Dq S (MO M σd) H v d) : Dq S (MO M σd) H' v d := h.goT (E.kp k)
theorem Ev.dqs (E : Ev S M H0 H σ σd) (k : KeepS S H H') {vs : List V} {ds : List D} (h : Dqs S (MO M σd) H vs ds) : Dqs S (MO M σd) H' vs ds := h.goT (E.kp k)
theorem Ev.slot (E : Ev S M H0 H σ σd) {i : Nat} {s : Sl} (h : σd[i]? = some s) : ∃ o, σ[i]? = some o ∧ SlR S (MO M σd) H o s := by
  have hi : i < σ.length := by rw [← E.len]; exact (List.getElem?_eq_some_iff.mp h).1
  exact ⟨σ[i], List.getElem?_eq_getElem hi, E.sl i _ s (List.getElem?_eq_getElem hi) h⟩
theorem Ev.ownNe (E : Ev S M H0 H σ σd) {a : Addr} {ds : List D} (h : Sl.own a ds ∈ σd) : ∀ p c, S = some (p, c) → a ≠ p ∧ a ≠ c := fun p c q =>
  ⟨fun z => (E.src0 p c q).1 (z ▸ E.new a ds h), fun z => (E.src0 p c q).2 (z ▸ E.new a ds h)⟩
theorem Ev.mtO (E : Ev S M H0 H σ σd) : ∀ a, MO M σd a → H a ≠ none := fun a h => by
  rcases h with h | ⟨ds, h⟩
  · exact E.mt a h
  · obtain ⟨i, hi⟩ := List.getElem?_of_mem h
    obtain ⟨o, _, _, xs, e, _⟩ := E.slot hi
    rw [e]; exact fun z => nomatch z
/-- the heap grows, the source may change -/
theorem Ev.ext (E : Ev S M H0 H σ σd) (k : KeepS S H H') (s : SrcOk S M H') : Ev S M H0 H' σ σd where
  len := E.len
  sl := fun i o sl h1 h2 => by
    have q := E.sl i o sl h1 h2
    cases sl with
    | emp => trivial
    | val d => obtain ⟨v, e, q⟩ := q; exact ⟨v, e, E.dq k q⟩
    | own a ds =>
      obtain ⟨e, xs, h, q⟩ := q
      exact ⟨e, xs, k.k a _ h (E.ownNe (List.mem_of_getElem? h2)), E.dqs k q⟩
  uni := E.uni
  new := E.new
  src := s
  src0 := E.src0
  keep := E.keep.trans k
  mt := fun a h => by
    by_cases z : ∃ p c, S = some (p, c) ∧ (a = p ∨ a = c)
    · obtain ⟨p, c, q, z⟩ := z
      obtain ⟨_, _, _, ns, l, m, t, h1, h2⟩ := s.go p c q
      rcases z with z | z
      · rw [z, h2]; exact fun z => nomatch z
      · rw [z, h1]; exact fun z => nomatch z
    · exact k.nn (E.mt a h) fun p c q => ⟨fun y => z ⟨p, c, q, .inl y⟩, fun y => z ⟨p, c, q, .inr y⟩⟩
  mt0 := E.mt0
theorem Ev.same (E : Ev S M H0 H σ σd) (k : Same H H') : Ev S M H0 H' σ σd := E.ext (.of k) (E.src.same k)
/-- a slot is set to a datum -/
theorem Ev.put (E : Ev S M H0 H σ σd) {i : Nat} {v : V} {d : D} (q : Dq S (MO M σd) H v d) : Ev S M H0 H (σ.set i (some v)) (σd.set i (.val d)) := by
  have sub : ∀ a, MO M (σd.set i (.val d)) a → MO M σd a := fun a h => by
    rcases h with h | ⟨ds, h⟩
    · exact .inl h
    · rcases List.mem_or_eq_of_mem_set h with h | h
      · exact .inr ⟨ds, h⟩
      · cases h
  have g : ∀ a o, ¬ MO M σd a → H a = some o → ¬ MO M (σd.set i (.val d)) a ∧ H a = some o := fun a o n e => ⟨fun z => n (sub a z), e⟩
  have ow : ∀ {j : Nat} {a : Addr} {ds : List D}, (σd.set i (.val d))[j]? = some (Sl.own a ds) → σd[j]? = some (Sl.own a ds) := fun {j a ds} h => by
    rw [List.getElem?_set] at h
    split at h
    · first
        | cases h
        | (split at h <;> cases h)
    · exact h
  refine ⟨by rw [List.length_set, List.length_set]; exact E.len, fun j o s h1 h2 => ?_, fun j k a ds es h1 h2 => E.uni j k a ds es (ow h1) (ow h2), fun a ds h => ?_, E.src, E.src0, E.keep, E.mt, E.mt0⟩
  · rw [List.getElem?_set] at h1 h2
    by_cases hj : i = j
    · rw [if_pos hj] at h1 h2
      split at h1
      · split at h2
        · cases h1; cases h2
          exact ⟨v, rfl, q.go g⟩
        · cases h2
      · cases h1
    · rw [if_neg hj] at h1 h2
      have z := E.sl j o s h1 h2
      cases s with
      | emp => trivial
      | val d => obtain ⟨w, e, q⟩ := z; exact ⟨w, e, q.go g⟩
      | own a ds => obtain ⟨e, xs, h, q⟩ := z; exact ⟨e, xs, h, q.go g⟩
  · rcases List.mem_or_eq_of_mem_set h with h | h
    · exact E.new a ds h
    · cases h
/-- an own list is given away: from now on it never changes -/
theorem Ev.frz (E : Ev S M H0 H σ σd) {i : Nat} {a : Addr} {ds : List D} (h : σd[i]? = some (.own a ds)) : Ev S M H0 H σ (σd.set i (.val (.list ds))) := by
  have hi : i < σd.length := (List.getElem?_eq_some_iff.mp h).1
  have sub : ∀ b, MO M (σd.set i (.val (.list ds))) b → MO M σd b := fun b h => by
    rcases h with h | ⟨ds, h⟩
    · exact .inl h
    · rcases List.mem_or_eq_of_mem_set h with h | h
      · exact .inr ⟨ds, h⟩
      · cases h
  have g : ∀ b o, ¬ MO M σd b → H b = some o → ¬ MO M (σd.set i (.val (.list ds))) b ∧ H b = some o := fun a o n e => ⟨fun z => n (sub a z), e⟩
  have ow : ∀ {j : Nat} {a : Addr} {es : List D}, (σd.set i (.val (.list ds)))[j]? = some (Sl.own a es) → σd[j]? = some (Sl.own a es) ∧ i ≠ j := fun {j a es} h => by
    rw [List.getElem?_set] at h
    split at h
    · first
        | cases h
        | (split at h <;> cases h)
    · rename_i q; exact ⟨h, q⟩
  have na : ¬ MO M (σd.set i (.val (.list ds))) a := fun z => by
    rcases z with z | ⟨es, z⟩
    · exact E.mt0 a z (E.new a ds (List.mem_of_getElem? h))
    · obtain ⟨j, hj⟩ := List.getElem?_of_mem z
      obtain ⟨h1, h2⟩ := ow hj
      exact h2 (E.uni i j a ds es h h1)
  refine ⟨by rw [List.length_set]; exact E.len, fun j o s h1 h2 => ?_, fun j k a ds es h1 h2 => E.uni j k a ds es (ow h1).1 (ow h2).1, fun b es q => ?_, E.src, E.src0, E.keep, E.mt, E.mt0⟩
  · rw [List.getElem?_set] at h2
    by_cases hj : i = j
    · rw [if_pos hj, if_pos (hj ▸ hi)] at h2
      cases h2
      subst hj
      obtain ⟨e, xs, h3, q⟩ := E.sl i o _ h1 h
      exact ⟨.ref a, e, .lst na h3 (q.go g)⟩
    · rw [if_neg hj] at h2
      have z := E.sl j o s h1 h2
      cases s with
      | emp => trivial
      | val d => obtain ⟨w, e, q⟩ := z; exact ⟨w, e, q.go g⟩
      | own a ds => obtain ⟨e, xs, h, q⟩ := z; exact ⟨e, xs, h, q.go g⟩
  · rcases List.mem_or_eq_of_mem_set q with h | h
    · exact E.new b es h
    · cases h
end
end PH

/-! Readings over data, and how the layer's readings give them. -/
namespace PH
open PySem PySem.Spec L2

abbrev DE := DSt → (D → Prop) → Prop
abbrev DT := DSt → (Bool → Prop) → Prop
abbrev DA := DSt → (List D → Prop) → Prop
structure DEnds where
  nx : DSt → Prop
  rt : D → Prop
  bk : DSt → Prop := fun _ => False
  ct : DSt → Prop := fun _ => False
  rx : Value → DSt → Prop := fun _ _ => False
abbrev DS := DEnds → DSt → Prop

def LE (t : TE) (m : DE) : Prop := ∀ (S : Sr) (M : Addr → Prop) (H0 H : Hp) (σ : L2.St) (σd : DSt) (Qd : D → Prop) (Q : VK), Ev S M H0 H σ σd → m σd Qd →
  (∀ d v H', Qd d → Ev S M H0 H' σ σd → KeepS S H H' → Dq S (MO M σd) H' v d → Q v H') → t σ H Q
def LT (t : TT) (m : DT) : Prop := ∀ (S : Sr) (M : Addr → Prop) (H0 H : Hp) (σ : L2.St) (σd : DSt) (Qd : Bool → Prop) (Q : Bool → Hp → Prop), Ev S M H0 H σ σd → m σd Qd →
  (∀ b H', Qd b → Ev S M H0 H' σ σd → KeepS S H H' → Q b H') → t σ H Q
def LA (n : Nat) (t : TA) (m : DA) : Prop := ∀ (S : Sr) (M : Addr → Prop) (H0 H : Hp) (σ : L2.St) (σd : DSt) (Qd : List D → Prop) (Q : List V → Hp → Prop), Ev S M H0 H σ σd → m σd Qd →
  (∀ ds vs H', Qd ds → Ev S M H0 H' σ σd → KeepS S H H' → Dqs S (MO M σd) H' vs ds → vs.length = n → Q vs H') → t σ H Q
/-- a new list -/
def LN (t : TE) (m : DA) : Prop := ∀ (S : Sr) (M : Addr → Prop) (H0 H : Hp) (σ : L2.St) (σd : DSt) (Qd : List D → Prop) (Q : VK), Ev S M H0 H σ σd → m σd Qd →
  (∀ (ds : List D) (p : Addr) (xs : List V) (H' : Hp), Qd ds → Ev S M H0 H' σ σd → KeepS S H H' → H p = none → H' p = some (.lst xs) → Dqs S (fun a => MO M σd a ∨ a = p) H' xs ds → Q (.ref p) H') → t σ H Q

def PD (X : Cx) (e : Expr) (m : DE) : Prop := ∃ t, PE X e t ∧ LE t m
def PDT (X : Cx) (e : Expr) (m : DT) : Prop := ∃ t, PT X e t ∧ LT t m
def PDW (X : Cx) (e : Expr) (m : DT) : Prop := ∃ t, PW X e t ∧ LT t m
def PDA (X : Cx) (es : List Expr) (n : Nat) (m : DA) : Prop := ∃ t, PA X es t ∧ LA n t m
def PDN (X : Cx) (e : Expr) (m : DA) : Prop := ∃ t, PE X e t ∧ LN t m

/-! ### names and constants -/
def dVar (i : Nat) : DE := fun σd Q => match σd[i]? with
  | some (.val d) => Q d
  | _ => False
theorem le_var (i : Nat) : LE (tVar i) (dVar i) := by
  intro S M H0 H σ σd Qd Q E h k
  unfold dVar at h
  split at h
  · rename_i d e
    obtain ⟨o, e2, v, rfl, q⟩ := E.slot e
    exact ⟨v, e2, k d v H h E .refl q⟩
  · exact h.elim
def dC (d : D) : DE := fun _ Q => Q d
theorem le_c {v : V} {d : D} (h : ∀ S M H, Dq S M H v d) : LE (tC v) (dC d) := fun S M H0 H σ σd Qd Q E q k => k d v H q E .refl (h _ _ _)
section
variable {X : Cx} {e a b c : Expr} {es : List Expr} {pos : Pos}
theorem pd_var (i : Nat) {x : Str} {pos : Pos} (hN : X.N[i]? = some x := by rfl) (hv : Vis X.env.scope x := by first | exact Or.inl rfl | exact Or.inr (Or.inl rfl) | exact Or.inr (Or.inr rfl)) (hd : (x == ("__debug__" : Str)) = false := by decide)
    (hcd : (x == ("__classdict__" : Str)) = false := by decide) : PD X (.Name x pos) (dVar i) := ⟨_, pe_var hN hv hd hcd, le_var i⟩
theorem pd_int {i j pos} : PD X (.Constant (.int i) j pos) (dC (.int i)) := ⟨_, pe_int, le_c fun _ _ _ => .int i⟩
theorem pd_bl {b j pos} : PD X (.Constant (.bool b) j pos) (dC (.bool b)) := ⟨_, pe_bl, le_c fun _ _ _ => .bl b⟩
theorem pd_non {j pos} : PD X (.Constant .none j pos) (dC .none) := ⟨_, pe_non, le_c fun _ _ _ => .non⟩
theorem pd_str {x j pos} : PD X (.Constant (.str x) j pos) (dC (.str x)) := ⟨_, pe_str, le_c fun _ _ _ => .str x⟩
end

/-! ### operations -/
abbrev DR2 := D → D → (D → Prop) → Prop
def LR (r : R2) (dr : DR2) : Prop := ∀ (S : Sr) (M : Addr → Prop) (H : Hp) (x y : V) (dx dy : D) (Qd : D → Prop) (Q : VK), (∀ a, M a → H a ≠ none) → Dq S M H x dx → Dq S M H y dy → dr dx dy Qd →
  (∀ d v H', Qd d → Same H H' → Dq S M H' v d → Q v H') → r x y H Q
def dOp (dr : DR2) (ma mb : DE) : DE := fun σd Q => ma σd fun x => mb σd fun y => dr x y Q
theorem le_op {r : R2} {dr : DR2} {ta tb : TE} {ma mb : DE} (l : LR r dr) (ha : LE ta ma) (hb : LE tb mb) : LE (tOp r ta tb) (dOp dr ma mb) := by
  intro S M H0 H σ σd Qd Q E h k
  refine ha S M H0 H σ σd _ _ E h fun x v H1 q E1 k1 r1 => ?_
  refine hb S M H0 H1 σ σd _ _ E1 q fun y u H2 q E2 k2 r2 => ?_
  exact l S (MO M σd) H2 v u x y _ _ E2.mtO (E1.dq k2 r1) r2 q fun d w H3 q s r3 => k d w H3 q (E2.same s) (k1.trans (k2.trans (.of s))) r3
def dI (C : Int → Int → Prop) (f : Int → Int → Int) : DR2 := fun x y Q => match x, y with
  | .int i, .int j => C i j ∧ Q (.int (f i j))
  | _, _ => False
def dI0 (f : Int → Int → Int) : DR2 := fun x y Q => match x, y with
  | .int i, .int j => Q (.int (f i j))
  | _, _ => False
def dB0 (f : Int → Int → Bool) : DR2 := fun x y Q => match x, y with
  | .int i, .int j => Q (.bool (f i j))
  | _, _ => False
theorem lr_I {C : Int → Int → Prop} {f : Int → Int → Int} : LR (rI C fun i j => .int (f i j)) (dI C f) := by
  intro S M H x y dx dy Qd Q hm rx ry h k
  cases rx <;> first | exact h.elim | skip
  cases ry <;> first | exact h.elim | skip
  exact ⟨_, _, rfl, rfl, h.1, k _ _ H h.2 (Same.refl _) (.int _)⟩
theorem lr_I0 {f : Int → Int → Int} : LR (rI0 fun i j => .int (f i j)) (dI0 f) := by
  intro S M H x y dx dy Qd Q hm rx ry h k
  cases rx <;> first | exact h.elim | skip
  cases ry <;> first | exact h.elim | skip
  exact ⟨_, _, rfl, rfl, k _ _ H h (Same.refl _) (.int _)⟩
theorem lr_B0 {f : Int → Int → Bool} : LR (rI0 fun i j => .bl (f i j)) (dB0 f) := by
  intro S M H x y dx dy Qd Q hm rx ry h k
  cases rx <;> first | exact h.elim | skip
  cases ry <;> first | exact h.elim | skip
  exact ⟨_, _, rfl, rfl, k _ _ H h (Same.refl _) (.bl _)⟩

theorem mo_sub {M : Addr → Prop} {σd : DSt} {p : Addr} {H : Hp} (hp : H p = none) : ∀ a o, ¬ MO M σd a → H a = some o → ¬ (MO M σd a ∨ a = p) ∧ H a = some o := fun a o n e =>
  ⟨fun z => z.elim n fun y => ne_of_none e hp y, e⟩
/-- the reading of a new list, as a value -/
theorem LN.le {t : TE} {m : DA} (h : LN t m) : LE t (fun σd Q => m σd fun ds => Q (.list ds)) := by
  intro S M H0 H σ σd Qd Q E hm k
  refine h S M H0 H σ σd _ Q E hm fun ds p xs H' q E' k1 hp e r => ?_
  have np : ¬ MO M σd p := fun z => E.mtO p z hp
  exact k _ _ H' q E' k1 (.lst np e (r.go fun a o n e => ⟨fun z => n (.inl z), e⟩))
theorem la_nil : LA 0 tNil (fun _ Q => Q []) := fun S M H0 H σ σd Qd Q E h k => k [] [] H h E .refl .nil rfl
theorem la_cons {n : Nat} {ta : TE} {tr : TA} {ma : DE} {mr : DA} (ha : LE ta ma) (hr : LA n tr mr) : LA (n + 1) (tCons ta tr) (fun σd Q => ma σd fun d => mr σd fun ds => Q (d :: ds)) := by
  intro S M H0 H σ σd Qd Q E h k
  refine ha S M H0 H σ σd _ _ E h fun d v H1 q E1 k1 r1 => ?_
  refine hr S M H0 H1 σ σd _ _ E1 q fun ds vs H2 q E2 k2 r2 hl => ?_
  exact k _ _ H2 q E2 (k1.trans k2) (.cons (E1.dq k2 r1) r2) (by simp [hl])
theorem le_tup {n : Nat} {t : TA} {m : DA} (h : LA n t m) (hn : n ≤ 100000 := by decide) : LE (tTup t) (fun σd Q => m σd fun ds => Q (.tuple ds)) := by
  intro S M H0 H σ σd Qd Q E hm k
  refine h S M H0 H σ σd _ _ E hm fun ds vs H1 q E1 k1 r1 hl => ⟨by rw [hl, sizeLine_eq]; omega, fun p hp => ?_⟩
  have s : Same H1 (upd H1 p (.tup vs)) := Same.upd hp
  have E2 := E1.same s
  exact k _ _ _ q E2 (k1.trans (.of s)) (.tup (fun z => E1.mtO p z hp) upd_same (E1.dqs (.of s) r1))
theorem ln_lst {n : Nat} {t : TA} {m : DA} (h : LA n t m) (hn : n ≤ 100000 := by decide) : LN (tLst t) m := by
  intro S M H0 H σ σd Qd Q E hm k
  refine h S M H0 H σ σd _ _ E hm fun ds vs H1 q E1 k1 r1 hl => ⟨by rw [hl, sizeLine_eq]; omega, fun p hp => ?_⟩
  have s : Same H1 (upd H1 p (.lst vs)) := Same.upd hp
  have E2 := E1.same s
  refine k ds p vs _ q E2 (k1.trans (.of s)) ?_ upd_same (r1.go fun a o n e => ⟨(mo_sub hp a o n e).1, s a o e⟩)
  cases z : H p with
  | none => rfl
  | some o =>
    by_cases w : ∃ p' c', S = some (p', c') ∧ (p = p' ∨ p = c')
    · obtain ⟨p', c', q1, q2⟩ := w
      obtain ⟨_, _, _, ns, l, mm, tt, h1, h2⟩ := E1.src.go p' c' q1
      rcases q2 with q2 | q2
      · rw [← q2, hp] at h2; cases h2
      · rw [← q2, hp] at h1; cases h1
    · exact absurd hp (k1.nn (by rw [z]; exact fun y => nomatch y) fun p' c' q1 => ⟨fun y => w ⟨p', c', q1, .inl y⟩, fun y => w ⟨p', c', q1, .inr y⟩⟩)
/-! ### tests -/
theorem lt_of {t : TE} {m : DE} (h : LE t m) : LT (tTest t) (fun σd Q => m σd fun d => match d with | .bool b => Q b | _ => False) := by
  intro S M H0 H σ σd Qd Q E hm k
  refine h S M H0 H σ σd _ _ E hm fun d v H1 q E1 k1 r1 => ?_
  cases r1 <;> first | exact q.elim | skip
  exact ⟨_, rfl, k _ H1 q E1 k1⟩
theorem lt_ofB {t : TE} {m : DE} (h : LE t m) : LT (tB t) (fun σd Q => m σd fun d => match d with | .bool b => Q b | _ => False) := lt_of h
theorem lt_and {t u : TT} {m n : DT} (ha : LT t m) (hb : LT u n) : LT (tAnd t u) (fun σd Q => m σd fun b => if b = true then n σd Q else Q false) := by
  intro S M H0 H σ σd Qd Q E h k
  refine ha S M H0 H σ σd _ _ E h fun b H1 q E1 k1 => ?_
  cases b with
  | true => exact hb S M H0 H1 σ σd _ _ E1 (by simpa using q) fun b H2 q E2 k2 => k b H2 q E2 (k1.trans k2)
  | false => exact k false H1 (by simpa using q) E1 k1
theorem lt_or {t u : TT} {m n : DT} (ha : LT t m) (hb : LT u n) : LT (tOr t u) (fun σd Q => m σd fun b => if b = true then Q true else n σd Q) := by
  intro S M H0 H σ σd Qd Q E h k
  refine ha S M H0 H σ σd _ _ E h fun b H1 q E1 k1 => ?_
  cases b with
  | false => exact hb S M H0 H1 σ σd _ _ E1 (by simpa using q) fun b H2 q E2 k2 => k b H2 q E2 (k1.trans k2)
  | true => exact k true H1 (by simpa using q) E1 k1
theorem lt_not {t : TT} {m : DT} (ha : LT t m) : LT (tNot t) (fun σd Q => m σd fun b => Q (!b)) := by
  intro S M H0 H σ σd Qd Q E h k
  exact ha S M H0 H σ σd _ _ E h fun b H1 q E1 k1 => k _ H1 q E1 k1
theorem le_andV {t u : TE} {m n : DE} (ha : LE t m) (hb : LE u n) : LE (tAndV t u) (fun σd Q => m σd fun d => match d with | .bool b => (if b = true then n σd Q else Q (.bool false)) | _ => False) := by
  intro S M H0 H σ σd Qd Q E h k
  refine ha S M H0 H σ σd _ _ E h fun d v H1 q E1 k1 r1 => ?_
  cases r1 <;> first | exact q.elim | skip
  rename_i b
  refine ⟨b, rfl, ?_⟩
  cases b with
  | true => exact hb S M H0 H1 σ σd _ _ E1 (by simpa using q) fun d v H2 q E2 k2 r2 => k d v H2 q E2 (k1.trans k2) r2
  | false => exact k _ _ H1 (by simpa using q) E1 k1 (.bl false)
theorem le_orV {t u : TE} {m n : DE} (ha : LE t m) (hb : LE u n) : LE (tOrV t u) (fun σd Q => m σd fun d => match d with | .bool b => (if b = true then Q (.bool true) else n σd Q) | _ => False) := by
  intro S M H0 H σ σd Qd Q E h k
  refine ha S M H0 H σ σd _ _ E h fun d v H1 q E1 k1 r1 => ?_
  cases r1 <;> first | exact q.elim | skip
  rename_i b
  refine ⟨b, rfl, ?_⟩
  cases b with
  | false => exact hb S M H0 H1 σ σd _ _ E1 (by simpa using q) fun d v H2 q E2 k2 r2 => k d v H2 q E2 (k1.trans k2) r2
  | true => exact k _ _ H1 (by simpa using q) E1 k1 (.bl true)
theorem le_notV {t : TE} {m : DE} (ha : LE t m) : LE (tNotV t) (fun σd Q => m σd fun d => match d with | .bool b => Q (.bool (!b)) | _ => False) := by
  intro S M H0 H σ σd Qd Q E h k
  refine ha S M H0 H σ σd _ _ E h fun d v H1 q E1 k1 r1 => ?_
  cases r1 <;> first | exact q.elim | skip
  exact ⟨_, rfl, k _ _ H1 q E1 k1 (.bl _)⟩
theorem le_if {t : TT} {ta tb : TE} {m : DT} {ma mb : DE} (hc : LT t m) (ha : LE ta ma) (hb : LE tb mb) : LE (tIf t ta tb) (fun σd Q => m σd fun b => if b = true then ma σd Q else mb σd Q) := by
  intro S M H0 H σ σd Qd Q E h k
  refine hc S M H0 H σ σd _ _ E h fun b H1 q E1 k1 => ?_
  cases b with
  | true => exact ha S M H0 H1 σ σd _ _ E1 (by simpa using q) fun d v H2 q E2 k2 r2 => k d v H2 q E2 (k1.trans k2) r2
  | false => exact hb S M H0 H1 σ σd _ _ E1 (by simpa using q) fun d v H2 q E2 k2 r2 => k d v H2 q E2 (k1.trans k2) r2
theorem le_un {r : V → Hp → VK → Prop} {dr : D → (D → Prop) → Prop} {ta : TE} {ma : DE} (l : ∀ (S : Sr) (M : Addr → Prop) (H : Hp) (x : V) (dx : D) (Qd : D → Prop) (Q : VK), Dq S M H x dx → dr dx Qd → (∀ d v, Qd d → Dq S M H v d → Q v H) → r x H Q) (ha : LE ta ma) :
    LE (tUn r ta) (fun σd Q => ma σd fun x => dr x Q) := by
  intro S M H0 H σ σd Qd Q E h k
  refine ha S M H0 H σ σd _ _ E h fun x v H1 q E1 k1 r1 => ?_
  exact l S (MO M σd) H1 v x _ _ r1 q fun d w q r => k d w H1 q E1 k1 r
/-! ### calls of built-ins by values -/
abbrev DRC := List D → (D → Prop) → Prop
def LC (r : List V → Hp → VK → Prop) (dr : DRC) : Prop := ∀ (S : Sr) (M : Addr → Prop) (H : Hp) (xs : List V) (ds : List D) (Qd : D → Prop) (Q : VK), (∀ a, M a → H a ≠ none) → Dqs S M H xs ds → dr ds Qd →
  (∀ d v H', Qd d → Same H H' → Dq S M H' v d → Q v H') → r xs H Q
theorem le_cb {n : Nat} {r : List V → Hp → VK → Prop} {dr : DRC} {t : TA} {m : DA} (l : LC r dr) (h : LA n t m) : LE (tCB r t) (fun σd Q => m σd fun ds => dr ds Q) := by
  intro S M H0 H σ σd Qd Q E hm k
  refine h S M H0 H σ σd _ _ E hm fun ds vs H1 q E1 k1 r1 hl => ?_
  exact l S (MO M σd) H1 vs ds _ _ E1.mtO r1 q fun d v H2 q s r => k d v H2 q (E1.same s) (k1.trans (.of s)) r

/-! ### statements -/
variable {Wx : WX}
/-- nothing is let out -/
def W0 : WX := fun _ _ _ _ => False
def ER (Wx : WX) (S : Sr) (M : Addr → Prop) (H0 : Hp) (Dd : DEnds) (Dn : Ends) : Prop :=
  (∀ σd σ H, Dd.nx σd → Ev S M H0 H σ σd → Dn.nx σ H) ∧ (∀ d v H, Dd.rt d → KeepS S H0 H → SrcOk S M H → (∀ a, M a → H a ≠ none) → Dq S M H v d → Dn.rt v H) ∧
  (∀ σd σ H, Dd.bk σd → Ev S M H0 H σ σd → Dn.bk σ H) ∧ (∀ σd σ H, Dd.ct σd → Ev S M H0 H σ σd → Dn.ct σ H) ∧ (∀ cls σd σ H, Dd.rx cls σd → Ev S M H0 H σ σd → Wx cls none σ H)
def LS (Wx : WX) (t : TS) (m : DS) : Prop := ∀ (S : Sr) (M : Addr → Prop) (H0 H : Hp) (σ : L2.St) (σd : DSt) (Dd : DEnds) (Dn : Ends), Ev S M H0 H σ σd → m Dd σd → ER Wx S M H0 Dd Dn → t Dn σ H
def PDS (Wx : WX) (X : Cx) (st : Stmt) (m : DS) : Prop := ∃ t, PS X st t ∧ LS Wx t m
def PDSs (Wx : WX) (X : Cx) (st : List Stmt) (m : DS) : Prop := ∃ t, PSs X st t ∧ LS Wx t m
def dSeq (m n : DS) : DS := fun Dd σd => m { Dd with nx := n Dd } σd
theorem ls_seq {t u : TS} {m n : DS} (h1 : LS Wx t m) (h2 : LS Wx u n) : LS Wx (tSeq t u) (dSeq m n) := fun S M H0 H σ σd Dd Dn E h r =>
  h1 S M H0 H σ σd _ _ E h ⟨fun σd' σ' H' q E' => h2 S M H0 H' σ' σd' _ _ E' q r, r.2.1, r.2.2.1, r.2.2.2⟩
def dNext : DS := fun Dd σd => Dd.nx σd
theorem ls_next : LS Wx tNext dNext := fun S M H0 H σ σd Dd Dn E h r => r.1 σd σ H h E
theorem ls_break : LS Wx tBreak (fun Dd σd => Dd.bk σd) := fun S M H0 H σ σd Dd Dn E h r => r.2.2.1 σd σ H h E
theorem ls_cont : LS Wx tCont (fun Dd σd => Dd.ct σd) := fun S M H0 H σ σd Dd Dn E h r => r.2.2.2.1 σd σ H h E
def dRet (m : DE) : DS := fun Dd σd => m σd Dd.rt
theorem ls_ret {t : TE} {m : DE} (h : LE t m) : LS Wx (tRet t) (dRet m) := fun S M H0 H σ σd Dd Dn E hm r =>
  h S M H0 H σ σd _ _ E hm fun d v H' q E' k r' => r.2.1 d v H' q E'.keep E'.src E'.mt (r'.go fun a o n e => ⟨fun z => n (.inl z), e⟩)
theorem ls_retN : LS Wx tRetN (fun Dd _ => Dd.rt .none) := fun S M H0 H σ σd Dd Dn E hm r => r.2.1 _ _ H hm E.keep E.src E.mt .non
def dIf (c : DT) (m n : DS) : DS := fun Dd σd => c σd fun b => if b = true then m Dd σd else n Dd σd
theorem ls_if {c : TT} {t u : TS} {dc : DT} {m n : DS} (hc : LT c dc) (h1 : LS Wx t m) (h2 : LS Wx u n) : LS Wx (tIfS c t u) (dIf dc m n) := by
  intro S M H0 H σ σd Dd Dn E h r
  refine hc S M H0 H σ σd _ _ E h fun b H1 q E1 k1 => ?_
  cases b with
  | true => exact h1 S M H0 H1 σ σd _ _ E1 (by simpa using q) r
  | false => exact h2 S M H0 H1 σ σd _ _ E1 (by simpa using q) r
def dDrop (m : DE) : DS := fun Dd σd => m σd fun _ => Dd.nx σd
theorem ls_drop {t : TE} {m : DE} (h : LE t m) : LS Wx (tDrop t) (dDrop m) := fun S M H0 H σ σd Dd Dn E hm r =>
  h S M H0 H σ σd _ _ E hm fun d v H' q E' k _ => r.1 σd σ H' q E'
theorem ls_never : LS Wx tNever (fun _ _ => False) := fun S M H0 H σ σd Dd Dn E hm r => hm.elim
/-! targets -/
abbrev DG := D → DSt → (DSt → Prop) → Prop
abbrev DGs := List D → DSt → (DSt → Prop) → Prop
def LG (g : TG) (dg : DG) : Prop := ∀ (S : Sr) (M : Addr → Prop) (H0 H : Hp) (σ : L2.St) (σd : DSt) (v : V) (d : D) (Qd : DSt → Prop) (Q : L2.St → Hp → Prop), Ev S M H0 H σ σd → Dq S (MO M σd) H v d → dg d σd Qd →
  (∀ σd' σ', Qd σd' → Ev S M H0 H σ' σd' → Q σ' H) → g v σ H Q
def LGs (g : TGs) (dg : DGs) : Prop := ∀ (S : Sr) (M : Addr → Prop) (H0 H : Hp) (σ : L2.St) (σd : DSt) (vs : List V) (ds : List D) (Qd : DSt → Prop) (Q : L2.St → Hp → Prop), Ev S M H0 H σ σd → Dqs S (MO M σd) H vs ds → dg ds σd Qd →
  (∀ σd' σ', Qd σd' → Ev S M H0 H σ' σd' → Q σ' H) → g vs σ H Q
def dgName (i : Nat) : DG := fun d σd Q => Q (σd.set i (.val d))
theorem lg_name (i : Nat) : LG (gName i) (dgName i) := fun S M H0 H σ σd v d Qd Q E r h k => k _ _ h (E.put r)
def dgNil : DGs := fun ds σd Q => match ds with | [] => Q σd | _ => False
theorem lgs_nil : LGs gNil dgNil := by
  intro S M H0 H σ σd vs ds Qd Q E r h k
  cases r with
  | nil => exact ⟨rfl, k _ _ h E⟩
  | cons a b => exact h.elim
def dgCons (g : DG) (gs : DGs) : DGs := fun ds σd Q => match ds with | d :: r => g d σd fun σd' => gs r σd' Q | [] => False
theorem MOset {M : Addr → Prop} {σd : DSt} {i : Nat} {d : D} {a : Addr} (h : MO M (σd.set i (.val d)) a) : MO M σd a := by
  rcases h with h | ⟨ds, h⟩
  · exact .inl h
  · rcases List.mem_or_eq_of_mem_set h with h | h
    · exact .inr ⟨ds, h⟩
    · cases h
theorem lgs_cons {i : Nat} {gs : TGs} {dgs : DGs} (h2 : LGs gs dgs) : LGs (gCons (gName i) gs) (dgCons (dgName i) dgs) := by
  intro S M H0 H σ σd vs ds Qd Q E r h k
  cases r with
  | nil => exact h.elim
  | cons a b =>
    refine ⟨_, _, rfl, ?_⟩
    exact h2 S M H0 H _ _ _ _ _ _ (E.put a) (b.go fun a o n e => ⟨fun z => n (MOset z), e⟩) h k
def dgTup (gs : DGs) : DG := fun d σd Q => match d with | .tuple ds => gs ds σd Q | _ => False
theorem lg_tup {K : PySem.W.Frag} {n : Nat} {gs : TGs} {dgs : DGs} (hg : LGs gs dgs) (hn : ∀ ds σd Q, dgs ds σd Q → ds.length = n) : LG (gTup K n gs) (dgTup dgs) := by
  intro S M H0 H σ σd v d Qd Q E r h k
  cases r <;> first | exact h.elim | skip
  rename_i a xs ds na e r
  exact ⟨a, xs, rfl, .inl (.inl e), by rw [r.length]; exact hn _ _ _ h, hg S M H0 H σ σd xs ds Qd Q E r h k⟩
def dAsg (m : DE) (g : DG) : DS := fun Dd σd => m σd fun d => g d σd Dd.nx
theorem ls_asg {t : TE} {m : DE} {g : TG} {dg : DG} (h : LE t m) (hg : LG g dg) : LS Wx (tAsg t g) (dAsg m dg) := fun S M H0 H σ σd Dd Dn E hm r =>
  h S M H0 H σ σd _ _ E hm fun d v H' q E' k r' => hg S M H0 H' σ σd v d _ _ E' r' q fun σd' σ' q' E2 => r.1 σd' σ' H' q' E2
/-- a new list that will be changed -/
def dOwn (i : Nat) (m : DA) : DS := fun Dd σd => m σd fun ds => ∀ p, Dd.nx (σd.set i (Sl.own p ds))
end PH

/-! Defs whose callers stand in no repr (FnG), their promises over data, and a law's end. -/
namespace PH
open PySem PySem.Spec L2
open PyProof.Rows (envOfC)

/-- a def's promise where no repr runs around -/
structure FnG (P : Program) (w : World) (K : PySem.W.Frag) (mg : Str → Option Value) (base : Heap) (k : Nat) (f : Addr) (fd : FuncData) (ps : List Str) (sp : Sp) : Prop where
  len : ∀ vs H Q E, sp vs H Q E → vs.length = ps.length
  go : ∀ (A : Around) (outer : List Env) (s : Shared) (H : Hp) (args : Args) (us : List Value) (vs : List V) (Q : VK), Room k A → A.guards = some [] →
    Env0 P w K mg base A outer s H → BindsTo s fd args (ps.zip us) → Vals vs us → sp vs H Q E0 → codeAny (model P w) A (.call (.ref f) args) (CR CX0 outer P w H s Q E0) s
section
variable {P : Program} {w : World} {K : PySem.W.Frag} {mg : Str → Option Value} {base : Heap} {k : Nat} {f : Addr} {fd : FuncData} {ps : List Str} {sp : Sp}
theorem FnG.of (F : FnOk P w K mg base CX0 k f fd ps sp) : FnG P w K mg base k f fd ps sp := ⟨F.len, fun A outer s H args us vs Q hr _ e hb hv h => F.run A outer s H args us vs Q E0 hr e hb hv h⟩
theorem FnG.up {j : Nat} (F : FnG P w K mg base j f fd ps sp) (h : j ≤ k) : FnG P w K mg base k f fd ps sp := ⟨F.len, fun A outer s H args us vs Q hr => F.go A outer s H args us vs Q (hr.mono h)⟩
theorem FnG.imp {sp' : Sp} (F : FnG P w K mg base k f fd ps sp) (h : ∀ vs H Q E, sp' vs H Q E → sp vs H Q E) : FnG P w K mg base k f fd ps sp' :=
  ⟨fun vs H Q E q => F.len vs H Q E (h _ _ _ _ q), fun A outer s H args us vs Q hr hg e hb hv hs => F.go A outer s H args us vs Q hr hg e hb hv (h _ _ _ _ hs)⟩
theorem guards_deeper {A : Around} {env : Env} (h : A.guards = some []) : (A.deeper env).guards = some [] := h
/-- a def by its body, its code's object told -/
theorem fnG_bodyC {x qual : Str} {st : Stmt} {N : List Str} (F : Fun K x qual st f fd) (S : FnScope N ps (defScope st)) (len : ∀ vs H Q E, sp vs H Q E → vs.length = ps.length)
    (hb : ∀ (cdv : Value) (A : Around) (outer : List Env) (s : Shared) (H : Hp) (vs : List V) (Q : VK), fd.code = cdv → Room k (A.deeper (envOfC qual (defScope st) s.heap.objs.size f cdv)) → A.guards = some [] → sp vs H Q E0 →
      ∃ t, PSs (cxOf CX0 P w K mg base N qual (defScope st) f cdv A outer s H E0).nox (defBody st) t ∧ t { nx := fun _ H' => Q .non H', rt := Q } (L2.start N vs) H) :
    FnG P w K mg base (k + 1) f fd ps sp := by
  obtain ⟨oc, od, kV, doc, pm, an, cdv, ct, osl, rfl, lk, hcd⟩ := F.ex
  refine ⟨len, ?_⟩
  intro A outer s H args us vs Q hr hg e0 hbind rv hsp
  have lv := len _ _ _ _ hsp
  have inK : K.In s.heap := e0.mod.kin.keeps (fun b o e => (e0.bs b o e).1)
  have noL : s.heap.NoLimit := e0.mod.nolimit.keeps (fun b o e => (e0.bs b o e).1)
  have kinds : ∀ y ∈ ps.zip us, (defScope st).names.lookup y.1 = some .local ∨
      ((defScope st).names.lookup y.1 = some .cell ∧ ((cellsFrom (s.heap.objs.size + 1) (defScope st).names []).lookup y.1).isSome = true) := by
    rintro ⟨n, v⟩ hy
    rcases S.par n (List.of_mem_zip hy).1 with q | q
    · exact .inl q
    · exact .inr ⟨q, PySem.W.cellsFrom_some _ _ _ (.inl q)⟩
  refine codeAny_call_function hr.depth (inK _ _ lk) rfl S.co S.gen rfl (PySem.W.codeRec_of inK hcd) (hbind _ _ _ _ ?_)
  refine wpAny_newFunctionEnv_cells S.kind kinds ?_
  intro env he s1 xc
  subst he
  refine ⟨noL.keeps xc.toInCall.keep, codeAny_func ?_⟩
  obtain ⟨t, ht, hq⟩ := hb cdv A outer s H vs Q rfl (hr.deeper _) hg hsp
  have J0 : Inv (cxOf CX0 P w K mg base N qual (defScope st) f cdv A outer s H E0) [] (L2.start N vs) H s1 := inv_start S hr.hd e0 lv rv xc
  refine wpAny_mono (ht.nox.run [] s1 (L2.start N vs) H _ J0 hq) (fun fl s' hs => ?_) (fun e s' hs => hs)
  cases fl with
  | ret u =>
    obtain ⟨v, σ', H', J, rr, q⟩ := hs
    exact ⟨v, H', J.os, J.bare, J.base, J.hok, rr, q⟩
  | next =>
    obtain ⟨σ', H', J, q⟩ := hs
    exact ⟨V.non, H', J.os, J.bare, J.base, J.hok, rfl, q⟩
  | brk => obtain ⟨_, _, _, q⟩ := hs; exact False.elim q
  | cont => obtain ⟨_, _, _, q⟩ := hs; exact False.elim q
/-- a def by its body -/
theorem fnG_body {x qual : Str} {st : Stmt} {N : List Str} (F : Fun K x qual st f fd) (S : FnScope N ps (defScope st)) (len : ∀ vs H Q E, sp vs H Q E → vs.length = ps.length)
    (hb : ∀ (cdv : Value) (A : Around) (outer : List Env) (s : Shared) (H : Hp) (vs : List V) (Q : VK), Room k (A.deeper (envOfC qual (defScope st) s.heap.objs.size f cdv)) → A.guards = some [] → sp vs H Q E0 →
      ∃ t, PSs (cxOf CX0 P w K mg base N qual (defScope st) f cdv A outer s H E0).nox (defBody st) t ∧ t { nx := fun _ H' => Q .non H', rt := Q } (L2.start N vs) H) :
    FnG P w K mg base (k + 1) f fd ps sp := fnG_bodyC F S len fun cdv A outer s H vs Q _ => hb cdv A outer s H vs Q
end
/-! ### calls -/
section
variable {X : Cx} {k : Nat} {f : Addr} {fd : FuncData} {ps : List Str} {sp : Sp} {x : Str} {p pos : Pos} {e : Expr} {es : List Expr} {t : TA}
def tCallG (sp : Sp) (t : TA) : TE := fun σ H Q => t σ H fun vs H1 => sp vs H1 Q E0
theorem runG {pins : List (Addr × Obj)} {σ : L2.St} {H : Hp} {s : Shared} {Q : VK} {us : List Value} {vs : List V} (F : FnG X.prog X.w X.K X.mg X.base k f fd ps sp) (hr : Room k X.A) (hg : X.A.guards = some [])
    (hb : Binds X.K fd ps []) (I : Inv X pins σ H s) (r : Vals vs us) (h : sp vs H Q E0) : wpAny (model X.prog X.w) X.A (call (.ref f) us) (EP X pins σ Q) X.xe s := by
  have hl : (us ++ []).length = ps.length := by rw [List.append_nil, ← r.length]; exact F.len _ _ _ _ h
  have hb' : BindsTo s fd ⟨us, []⟩ (ps.zip us) := by
    have q := hb s us I.kIn hl
    rw [List.append_nil] at q
    exact q
  refine wpAny_call (codeAny_mono (F.go X.A X.stack s H ⟨us, []⟩ us vs Q hr hg I.env0 hb' r h) ?_)
  intro res s' hq
  cases res with
  | error e => exact False.elim hq
  | ok fl =>
    cases fl with
    | ret u => exact I.after hq
    | next => exact False.elim hq
    | brk => exact False.elim hq
    | cont => exact False.elim hq
theorem pe_callG (F : FnG X.prog X.w X.K X.mg X.base k f fd ps sp) (hr : Room k X.A) (hgu : X.A.guards = some []) (hg : Gl X x) (hm : X.mg x = some (.ref f)) (hk : PySem.W.keepIn X.K (.ref f) = true) (hb : Binds X.K fd ps [])
    (ha : PA X (e :: es) t) (hdb : (x == ("__debug__" : Str)) = false := by decide) (he : starEach (e :: es) X.env = (false, eval e X.env) :: starEach es X.env := by rfl) (hpl : (backTo pos (starEach es X.env)).any (·.1) = false := by rfl) :
    PE X (.Call (.Name x p) (e :: es) [] pos) (tCallG sp t) := by
  constructor
  intro pins s σ H Q I h
  refine wpAny_Call_Name_kw (ld_glob I hg hm ?_ hdb)
  refine PySem.W.callWith_K (h₀ := X.base) I.ok.mod.kin hk (thn (ha.run pos pins s σ H _ I h) ?_) he hpl
  rintro us s1 ⟨vs, H1, I1, r, q⟩
  exact ⟨I1.kIn, runG F hr hgu hb I1 r q⟩
theorem pe_callG0 (F : FnG X.prog X.w X.K X.mg X.base k f fd ps sp) (hr : Room k X.A) (hgu : X.A.guards = some []) (hg : Gl X x) (hm : X.mg x = some (.ref f)) (hk : PySem.W.keepIn X.K (.ref f) = true) (hb : Binds X.K fd ps [])
    (hdb : (x == ("__debug__" : Str)) = false := by decide) : PE X (.Call (.Name x p) [] [] pos) (tCallG sp tNil) := by
  constructor
  intro pins s σ H Q I h
  refine wpAny_Call_Name_kw (ld_glob I hg hm ?_ hdb)
  exact PySem.W.callWith_K0 I.kIn hk (runG (us := []) F hr hgu hb I .nil h)
end
/-! ### promises over data -/
abbrev DSp := List D → (D → Prop) → Prop
def SpD (n : Nat) (spd : DSp) : Sp := fun vs H Q _ => ∃ (S : Sr) (M : Addr → Prop) (ds : List D) (Qd : D → Prop), (∀ a, M a → H a ≠ none) ∧ SrcOk S M H ∧ Dqs S M H vs ds ∧ vs.length = n ∧ spd ds Qd ∧
  ∀ d v H', Qd d → KeepS S H H' → SrcOk S M H' → Dq S M H' v d → Q v H'
theorem le_callG {n : Nat} {spd : DSp} {t : TA} {m : DA} (h : LA n t m) : LE (tCallG (SpD n spd) t) (fun σd Q => m σd fun ds => spd ds Q) := by
  intro S M H0 H σ σd Qd Q E hm k
  refine h S M H0 H σ σd _ _ E hm fun ds vs H1 q E1 k1 r1 hl => ?_
  have so : SrcOk S (MO M σd) H1 := E1.src.more fun _ z => .inl z
  refine ⟨S, MO M σd, ds, Qd, E1.mtO, so, r1, hl, q, fun d v H2 q k2 s2 r2 => ?_⟩
  have s3 : SrcOk S M H2 := E1.src.at s2
  exact k d v H2 q (E1.ext k2 s3) (k1.trans k2) r2
def dstart (n : Nat) (ds : List D) : DSt := ds.map Sl.val ++ List.replicate (n - ds.length) Sl.emp
theorem ev_start {S : Sr} {M : Addr → Prop} {H : Hp} {N : List Str} {vs : List V} {ds : List D} (hm : ∀ a, M a → H a ≠ none) (so : SrcOk S M H) (r : Dqs S M H vs ds) : Ev S M H H (L2.start N vs) (dstart N.length ds) := by
  have hl := r.length
  have no : ∀ a es, Sl.own a es ∉ dstart N.length ds := fun a es h => by
    unfold dstart at h
    rcases List.mem_append.mp h with h | h
    · obtain ⟨d, _, e⟩ := List.mem_map.mp h
      cases e
    · have := (List.mem_replicate.mp h).2
      cases this
  have mo : ∀ a, MO M (dstart N.length ds) a → M a := fun a h => h.elim id fun ⟨es, z⟩ => absurd z (no a es)
  refine ⟨?_, fun i o s h1 h2 => ?_, fun i j a ds' es h1 _ => absurd (List.mem_of_getElem? h1) (no _ _), fun a es h => absurd h (no _ _), so, fun p c e => ?_, .refl, hm, hm⟩
  · unfold dstart L2.start
    simp [hl]
  · unfold dstart at h2
    unfold L2.start at h1
    by_cases hi : i < ds.length
    · rw [List.getElem?_append_left (by simpa using hi), List.getElem?_map] at h2
      rw [List.getElem?_append_left (by simpa [hl] using hi), List.getElem?_map] at h1
      cases e : ds[i]? with
      | none => rw [e] at h2; cases h2
      | some d =>
        rw [e] at h2
        cases h2
        obtain ⟨v, hv, q⟩ := r.get e
        rw [hv] at h1
        cases h1
        exact ⟨v, rfl, q.go fun a o n e => ⟨fun z => n (mo a z), e⟩⟩
    · rw [List.getElem?_append_right (by simpa using hi), List.getElem?_replicate] at h2
      split at h2
      · cases h2; trivial
      · cases h2
  · obtain ⟨_, _, _, ns, l, m, t, h1, h2⟩ := so.go p c e
    rw [h1, h2]
    exact ⟨fun z => (nomatch z), fun z => (nomatch z)⟩
/-- a def's promise over data, by its body's reading over data; its code told -/
theorem fnDC {P : Program} {w : World} {K : PySem.W.Frag} {mg : Str → Option Value} {base : Heap} {k : Nat} {f : Addr} {fd : FuncData} {ps : List Str} {x qual : Str} {st : Stmt} {N : List Str} {spd : DSp} {m : DS} (F : Fun K x qual st f fd) (S : FnScope N ps (defScope st))
    (hb : ∀ (cdv : Value) (A : Around) (outer : List Env) (s : Shared) (H : Hp), fd.code = cdv → Room k (A.deeper (envOfC qual (defScope st) s.heap.objs.size f cdv)) → A.guards = some [] →
      PDSs W0 (cxOf CX0 P w K mg base N qual (defScope st) f cdv A outer s H E0).nox (defBody st) m)
    (hm : ∀ ds Qd, ds.length = ps.length → spd ds Qd → m { nx := fun _ => Qd .none, rt := Qd } (dstart N.length ds)) : FnG P w K mg base (k + 1) f fd ps (SpD ps.length spd) := by
  refine fnG_bodyC F S (fun vs H Q E h => ?_) fun cdv A outer s H vs Q hc hr hg h => ?_
  · obtain ⟨_, _, _, _, _, _, _, l, _⟩ := h
    exact l
  · obtain ⟨S', M, ds, Qd, h1, h2, h3, h4, h5, h6⟩ := h
    obtain ⟨t, ht, lt⟩ := hb cdv A outer s H hc hr hg
    refine ⟨t, ht, lt S' M H H _ _ _ _ (ev_start h1 h2 h3) (hm ds Qd (by rw [← h3.length, h4]) h5) ⟨fun σd σ H' q E => ?_, fun d v H' q k so _ r => h6 d v H' q k so r, fun _ _ _ q _ => q.elim, fun _ _ _ q _ => q.elim, fun _ _ _ _ q _ => q.elim⟩⟩
    exact h6 _ _ _ q E.keep E.src .non
theorem fnD {P : Program} {w : World} {K : PySem.W.Frag} {mg : Str → Option Value} {base : Heap} {k : Nat} {f : Addr} {fd : FuncData} {ps : List Str} {x qual : Str} {st : Stmt} {N : List Str} {spd : DSp} {m : DS} (F : Fun K x qual st f fd) (S : FnScope N ps (defScope st))
    (hb : ∀ (cdv : Value) (A : Around) (outer : List Env) (s : Shared) (H : Hp), Room k (A.deeper (envOfC qual (defScope st) s.heap.objs.size f cdv)) → A.guards = some [] →
      PDSs W0 (cxOf CX0 P w K mg base N qual (defScope st) f cdv A outer s H E0).nox (defBody st) m)
    (hm : ∀ ds Qd, ds.length = ps.length → spd ds Qd → m { nx := fun _ => Qd .none, rt := Qd } (dstart N.length ds)) : FnG P w K mg base (k + 1) f fd ps (SpD ps.length spd) := fnDC F S (fun cdv A outer s H _ => hb cdv A outer s H) hm
end PH

/-! Python's constructs, read over data. -/
namespace PH
open PySem PySem.Spec L2
open PyProof.Rows (envOfC floordiv_int mod_int')
variable {Wx : WX}

/-! ### bounds of ints -/
class Bd (k : outParam Nat) (x : Int) : Prop where
  h : x.natAbs < 2 ^ k
theorem Bd.mono {a b : Nat} {x : Int} (h : Bd a x) (l : a ≤ b) : Bd b x := ⟨Nat.lt_of_lt_of_le h.h (Nat.pow_le_pow_right (by decide) l)⟩
theorem bd_add' {a b : Nat} {x y : Int} (h1 : Bd a x) (h2 : Bd b y) : (x.natAbs + y.natAbs) < 2 ^ (a + b + 1) := by
  have e1 := h1.h
  have e2 := h2.h
  have l1 : 2 ^ a ≤ 2 ^ (a + b) := Nat.pow_le_pow_right (by decide) (by omega)
  have l2 : 2 ^ b ≤ 2 ^ (a + b) := Nat.pow_le_pow_right (by decide) (by omega)
  rw [Nat.pow_succ]
  omega
instance bd_add {a b : Nat} {x y : Int} [h1 : Bd a x] [h2 : Bd b y] : Bd (a + b + 1) (x + y) := ⟨by have := bd_add' h1 h2; omega⟩
instance bd_sub {a b : Nat} {x y : Int} [h1 : Bd a x] [h2 : Bd b y] : Bd (a + b + 1) (x - y) := ⟨by have := bd_add' h1 h2; omega⟩
instance bd_mul {a b : Nat} {x y : Int} [h1 : Bd a x] [h2 : Bd b y] : Bd (a + b) (x * y) := ⟨wide_lt h1.h h2.h⟩
instance bd_neg {a : Nat} {x : Int} [h : Bd a x] : Bd a (-x) := ⟨by rw [Int.natAbs_neg]; exact h.h⟩
theorem natAbs_fdiv_le (x y : Int) (h : y ≠ 0) : (x.fdiv y).natAbs ≤ x.natAbs := by
  rcases Int.lt_or_gt_of_ne h with h | h
  · -- y < 0
    have e : x.fdiv y = (-x).fdiv (-y) := by rw [Int.neg_fdiv_neg]
    rw [e, Int.fdiv_eq_ediv_of_nonneg _ (by omega), ← Int.natAbs_neg x]
    exact Int.natAbs_ediv_le_natAbs _ _
  · rw [Int.fdiv_eq_ediv_of_nonneg _ (by omega)]
    exact Int.natAbs_ediv_le_natAbs _ _
theorem bd_fdiv0 {a : Nat} {x y : Int} [h : Bd a x] (hy : y ≠ 0) : Bd a (x.fdiv y) := ⟨Nat.lt_of_le_of_lt (natAbs_fdiv_le x y hy) h.h⟩
instance bd_fdiv {a : Nat} {x y : Int} [h : Bd a x] : Bd a (x.fdiv y) := by
  by_cases hy : y = 0
  · subst hy; exact ⟨by rw [Int.fdiv_zero]; exact Nat.pos_of_ne_zero (by simp)⟩
  · exact bd_fdiv0 hy
instance bd_lit (n : Nat) [NeZero n] : Bd (n.log2 + 1) (OfNat.ofNat n : Int) := ⟨by
  show n < 2 ^ (n.log2 + 1)
  exact Nat.lt_log2_self⟩
instance bd_0 : Bd 0 (0 : Int) := ⟨by decide⟩
instance bd_1 : Bd 1 (1 : Int) := ⟨by decide⟩
/-- a product's room -/
def CMB (i j : Int) : Prop := ∃ a b : Nat, i.natAbs < 2 ^ a ∧ j.natAbs < 2 ^ b ∧ a + b ≤ 900000
theorem cmb {i j : Int} {a b : Nat} (h1 : Bd a i) (h2 : Bd b j) (h : a + b ≤ 900000) : CMB i j := ⟨a, b, h1.h, h2.h, h⟩
theorem CMB.ok {i j : Int} (h : CMB i j) : CMulW i j := by
  obtain ⟨a, b, h1, h2, h3⟩ := h
  exact wide_mul (a := a + 1) (b := b + 1) (Nat.lt_of_lt_of_le h1 (Nat.pow_le_pow_right (by decide) (by omega))) (Nat.lt_of_lt_of_le h2 (Nat.pow_le_pow_right (by decide) (by omega))) (by omega) (by omega) (by omega)
def CFD (_ j : Int) : Prop := j ≠ 0 ∧ ∃ b : Nat, j.natAbs < 2 ^ b ∧ b ≤ 8000
theorem cfd {i j : Int} {b : Nat} (h0 : j ≠ 0) (h : Bd b j) (hb : b ≤ 8000) : CFD i j := ⟨h0, b, h.h, hb⟩
theorem CFD.ok {i j : Int} (h : CFD i j) : Builtin.divisionGoesByPylong i j = false := by
  obtain ⟨_, b, h1, h2⟩ := h
  exact PyProof.noPylong_of_log2 (Nat.lt_of_lt_of_le (PySem.Flt.log2_lt_of (Nat.succ_pos b) (Nat.lt_of_lt_of_le h1 (Nat.pow_le_pow_right (by decide) (Nat.le_succ b)))) (by omega))
section
variable {X : Cx}
theorem op_mulB : OpR X (binaryOp .Mult) (rI CMB fun i j => .int (i * j)) := opI fun _ _ _ _ _ _ _ hc q => PyProof.Rows.mul_int q hc.ok.ok
theorem op_fdB : OpR X (binaryOp .FloorDiv) (rI CFD fun i j => .int (i.fdiv j)) := opI fun _ _ _ _ _ _ _ hc q => floordiv_int hc.1 q (.inl hc.ok)
end

/-! ### expressions -/
section
variable {X : Cx} {a b c e : Expr} {es rest : List Expr} {pos : Pos} {ma mb mc : DE} {n : Nat} {m : DA}
theorem pd_bin {op : Operator} {r : R2} {dr : DR2} (ho : OpR X (binaryOp op) r) (l : LR r dr) (ha : PD X a ma) (hb : PD X b mb) : PD X (.BinOp a op b pos) (dOp dr ma mb) :=
  let ⟨_, h1, l1⟩ := ha; let ⟨_, h2, l2⟩ := hb; ⟨_, pe_op ho h1 h2, le_op l l1 l2⟩
abbrev dAdd := dI0 fun i j => i + j
abbrev dSub := dI0 fun i j => i - j
abbrev dMul := dI CMB fun i j => i * j
abbrev dFd := dI CFD fun i j => i.fdiv j
abbrev dMod := dI (fun _ j => j ≠ 0) fun i j => i.fmod j
abbrev dPow := dI CPow fun i j => i ^ j.toNat
theorem pd_add (ha : PD X a ma) (hb : PD X b mb) : PD X (.BinOp a .Add b pos) (dOp dAdd ma mb) := pd_bin op_add lr_I0 ha hb
theorem pd_sub (ha : PD X a ma) (hb : PD X b mb) : PD X (.BinOp a .Sub b pos) (dOp dSub ma mb) := pd_bin op_sub lr_I0 ha hb
theorem pd_mul (ha : PD X a ma) (hb : PD X b mb) : PD X (.BinOp a .Mult b pos) (dOp dMul ma mb) := pd_bin op_mulB lr_I ha hb
theorem pd_fd (ha : PD X a ma) (hb : PD X b mb) : PD X (.BinOp a .FloorDiv b pos) (dOp dFd ma mb) := pd_bin op_fdB lr_I ha hb
theorem pd_mod (ha : PD X a ma) (hb : PD X b mb) : PD X (.BinOp a .Mod b pos) (dOp dMod ma mb) := pd_bin op_modN lr_I ha hb
theorem pd_pow (ha : PD X a ma) (hb : PD X b mb) : PD X (.BinOp a .Pow b pos) (dOp dPow ma mb) := pd_bin op_pow lr_I ha hb
def dNeg (m : DE) : DE := fun σd Q => m σd fun d => match d with | .int i => Q (.int (-i)) | _ => False
theorem pd_neg (ha : PD X a ma) : PD X (.UnaryOp .USub a pos) (dNeg ma) :=
  let ⟨_, h1, l1⟩ := ha
  ⟨_, pe_un un_neg h1, le_un (dr := fun d Q => match d with | .int i => Q (.int (-i)) | _ => False) (fun S M H x dx Qd Q r h k => by
    cases r <;> first | exact h.elim | skip
    exact ⟨_, rfl, k _ _ h (.int _)⟩) l1⟩
theorem pda_nil : PDA X [] 0 (fun _ Q => Q []) := ⟨_, pa_nil, la_nil⟩
theorem pda_cons (ha : PD X e ma) (hr : PDA X es n m) (hs : starEach (e :: es) X.env = (false, eval e X.env) :: starEach es X.env := by rfl) : PDA X (e :: es) (n + 1) (fun σd Q => ma σd fun d => m σd fun ds => Q (d :: ds)) :=
  let ⟨_, h1, l1⟩ := ha; let ⟨_, h2, l2⟩ := hr; ⟨_, pa_cons h1 h2 hs, la_cons l1 l2⟩
def dTup (m : DA) : DE := fun σd Q => m σd fun ds => Q (.tuple ds)
def dLst (m : DA) : DE := fun σd Q => m σd fun ds => Q (.list ds)
theorem pd_tup {x1} (h : PDA X es n m) (hn : n ≤ 100000 := by decide) : PD X (.Tuple es x1 pos) (dTup m) := let ⟨_, h1, l1⟩ := h; ⟨_, pe_tup h1, le_tup l1 hn⟩
theorem pdn_lst (h : PDA X es n m) (hn : n ≤ 100000 := by decide) : PDN X (.List es pos) m := let ⟨_, h1, l1⟩ := h; ⟨_, pe_lst h1, ln_lst l1 hn⟩
theorem pd_new (h : PDN X e m) : PD X e (dLst m) := let ⟨_, h1, l1⟩ := h; ⟨_, h1, l1.le⟩
theorem pd_lst (h : PDA X es n m) (hn : n ≤ 100000 := by decide) : PD X (.List es pos) (dLst m) := pd_new (pdn_lst h hn)
theorem pd_dict0 : PD X (.Dict [] [] pos) (dC (.dict [])) := ⟨_, pe_dnewK, fun S M H0 H σ σd Qd Q E q k p hp =>
  k _ _ _ q (E.same (Same.upd hp)) (.of (Same.upd hp)) (.dic (fun z => E.mtO p z hp) upd_same)⟩
/-! comparisons -/
def dBoolT (m : DE) : DT := fun σd Q => m σd fun d => match d with | .bool b => Q b | _ => False
theorem pd_cmp {op : CmpOp} {r : R2} {dr : DR2} (ho : OpR X (compareOp op) r) (l : LR r dr) (ha : PD X a ma) (hb : PD X b mb) (hm : behindInMarks op b = false) : PD X (.Compare a [op] [b] pos) (dOp dr ma mb) :=
  let ⟨_, h1, l1⟩ := ha; let ⟨_, h2, l2⟩ := hb; ⟨_, pe_cmpR ho h1 h2 hm, le_op l l1 l2⟩
theorem pdt_cmp {op : CmpOp} {r : R2} {dr : DR2} (ho : OpR X (compareOp op) r) (l : LR r dr) (ha : PD X a ma) (hb : PD X b mb) (hm : behindInMarks op b = false) : PDT X (.Compare a [op] [b] pos) (dBoolT (dOp dr ma mb)) :=
  let ⟨_, h1, l1⟩ := ha; let ⟨_, h2, l2⟩ := hb; ⟨_, pt_cmpR ho h1 h2 hm, lt_of (le_op l l1 l2)⟩
abbrev dLtI := dB0 fun i j => decide (i < j)
abbrev dLeI := dB0 fun i j => decide (i ≤ j)
abbrev dGtI := dB0 fun i j => decide (j < i)
abbrev dGeI := dB0 fun i j => decide (j ≤ i)
/-- == of data -/
def dEq : DR2 := fun x y Q => match x, y with
  | .str i, .str j => Q (.bool (decide (i = j)))
  | .int i, .int j => Q (.bool (decide (i = j)))
  | .list xs, .list [] => Q (.bool xs.isEmpty)
  | x, y => SeqAt.shaped x = true ∧ SeqAt.shaped y = true ∧ Q (.bool (PyData.eqv x y))
def dNe : DR2 := fun x y Q => match x, y with
  | .str i, .str j => Q (.bool (!decide (i = j)))
  | .int i, .int j => Q (.bool (!decide (i = j)))
  | x, y => SeqAt.shaped x = true ∧ SeqAt.shaped y = true ∧ Q (.bool (!PyData.eqv x y))
mutual
theorem Dq.dp {K : PySem.W.Frag} {S : Sr} {M : Addr → Prop} {H : Hp} : ∀ {d : D} {v : V}, Dq S M H v d → d.canLay0 = true → Dp K H v d
  | _, _, .non, _ => .non
  | _, _, .bl b, _ => .bl b
  | _, _, .int i, _ => .int i
  | _, _, .str x, _ => .str x
  | _, _, .lst n e r, h => .lst (.inl (.inl e)) (Dqs.dp r (by simpa [PyData.canLay0] using h))
  | _, _, .tup n e r, h => .tup (.inl (.inl e)) (Dqs.dp r (by simpa [PyData.canLay0] using h))
  | _, _, .dic _ _, h => by simp [PyData.canLay0] at h
  | _, _, .src _, h => by simp [PyData.canLay0] at h
theorem Dqs.dp {K : PySem.W.Frag} {S : Sr} {M : Addr → Prop} {H : Hp} : ∀ {ds : List D} {vs : List V}, Dqs S M H vs ds → PyData.canLayAll0 ds = true → DpAll K H vs ds
  | _, _, .nil, _ => .nil
  | _, _, .cons a b, h => by
    simp only [PyData.canLayAll0, Bool.and_eq_true] at h
    exact .cons (Dq.dp a h.1) (Dqs.dp b h.2)
end
theorem lay_of {d : D} (h : SeqAt.shaped d = true) : d.canLay0 = true := SeqAt.canLay_of_shaped h
/-- lists of unlike lengths -/
def rEqLen : R2 := fun x y H Q => ∃ a b xs ys, x = .ref a ∧ y = .ref b ∧ H a = some (.lst xs) ∧ H b = some (.lst ys) ∧ xs.length ≠ ys.length ∧ Q (.bl false) H
theorem op_eqLen (hu : X.A.units < cLine) : OpR X (compareOp .Eq) rEqLen := by
  intro pins s σ H x y v u Q I rx ry h
  obtain ⟨a, b, xs, ys, rfl, rfl, ha, hb, hl, q⟩ := h
  cases rx
  cases ry
  obtain ⟨its, r1, p1, _⟩ := I.list (.inl (.inl ha))
  obtain ⟨its2, r2, p2, _⟩ := I.list (.inl (.inl hb))
  refine SeqAt.eq_list_lengthsAt p1.isList p2.isList ?_ hu ⟨.bl false, H, I, rfl, q⟩
  have e1 := r1.length
  have e2 := r2.length
  simp only [List.size_toArray, bne_iff_ne, ne_eq]
  omega
abbrev rEqA (K : PySem.W.Frag) : R2 := fun x y H Q => rEqD K x y H Q ∨ rEqLen x y H Q ∨ rEq x y H Q
abbrev rNeA (K : PySem.W.Frag) : R2 := fun x y H Q => rNeD K x y H Q ∨ rNe x y H Q
theorem op_eqA (hu : X.A.units + 64 < cLine) : OpR X (compareOp .Eq) (rEqA X.K) := by
  intro pins s σ H x y v u Q I rx ry q
  rcases q with q | q | q
  · exact op_eqD hu pins s σ H x y v u Q I rx ry q
  · exact op_eqLen (by omega) pins s σ H x y v u Q I rx ry q
  · exact op_eq pins s σ H x y v u Q I rx ry q
theorem op_neA (hu : X.A.units + 64 < cLine) : OpR X (compareOp .NotEq) (rNeA X.K) := by
  intro pins s σ H x y v u Q I rx ry q
  rcases q with q | q
  · exact op_neD hu pins s σ H x y v u Q I rx ry q
  · exact op_ne pins s σ H x y v u Q I rx ry q
theorem str_eqD (i j : Str) : decide (V.str i = V.str j) = decide (i = j) := by by_cases h : i = j <;> simp [h]
theorem lr_eq : LR (rEqA X.K) dEq := by
  intro S M H x y dx dy Qd Q hm rx ry h k
  unfold dEq at h
  split at h
  · cases rx; cases ry
    refine .inr (.inr ⟨rfl, ?_⟩)
    rw [str_eqD]
    exact k _ _ H h (Same.refl _) (.bl _)
  · cases rx; cases ry
    rename_i i j
    refine .inl ⟨.int i, .int j, .int i, .int j, by simp [SeqAt.shaped, PyData.canLay0, PyData.depth], by simp [SeqAt.shaped, PyData.canLay0, PyData.depth], ?_⟩
    have e : PyData.eqv (.int i) (.int j) = decide (i = j) := by simp [PyData.eqv]; rfl
    rw [e]
    exact k _ _ H h (Same.refl _) (.bl _)
  · rename_i xs
    cases xs with
    | nil =>
      refine .inl ⟨.list [], .list [], rx.dp (by simp [PyData.canLay0, PyData.canLayAll0]), ry.dp (by simp [PyData.canLay0, PyData.canLayAll0]), by decide, by decide, ?_⟩
      have e : PyData.eqv (.list []) (.list []) = true := by simp [PyData.eqv, PyData.eqvAll]
      rw [e]
      exact k _ _ H h (Same.refl _) (.bl _)
    | cons z zs =>
      cases rx with
      | lst na ea ra =>
      cases ry with
      | lst nb eb rb =>
      exact .inr (.inl ⟨_, _, _, _, rfl, rfl, ea, eb, by rw [ra.length, rb.length]; simp, k _ _ H h (Same.refl _) (.bl _)⟩)
  · obtain ⟨h1, h2, h3⟩ := h
    exact .inl ⟨dx, dy, rx.dp (lay_of h1), ry.dp (lay_of h2), h1, h2, k _ _ H h3 (Same.refl _) (.bl _)⟩
theorem lr_ne : LR (rNeA X.K) dNe := by
  intro S M H x y dx dy Qd Q hm rx ry h k
  unfold dNe at h
  split at h
  · cases rx; cases ry
    refine .inr ⟨rfl, ?_⟩
    rw [str_eqD]
    exact k _ _ H h (Same.refl _) (.bl _)
  · cases rx; cases ry
    rename_i i j
    refine .inl ⟨.int i, .int j, .int i, .int j, by simp [SeqAt.shaped, PyData.canLay0, PyData.depth], by simp [SeqAt.shaped, PyData.canLay0, PyData.depth], ?_⟩
    have e : PyData.eqv (.int i) (.int j) = decide (i = j) := by simp [PyData.eqv]; rfl
    rw [e]
    exact k _ _ H h (Same.refl _) (.bl _)
  · obtain ⟨h1, h2, h3⟩ := h
    exact .inl ⟨dx, dy, rx.dp (lay_of h1), ry.dp (lay_of h2), h1, h2, k _ _ H h3 (Same.refl _) (.bl _)⟩
theorem pd_lt (ha : PD X a ma) (hb : PD X b mb) : PD X (.Compare a [.Lt] [b] pos) (dOp dLtI ma mb) := pd_cmp op_lt lr_B0 ha hb (nomark _)
theorem pd_le (ha : PD X a ma) (hb : PD X b mb) : PD X (.Compare a [.LtE] [b] pos) (dOp dLeI ma mb) := pd_cmp op_le lr_B0 ha hb (nomark _)
theorem pd_gt (ha : PD X a ma) (hb : PD X b mb) : PD X (.Compare a [.Gt] [b] pos) (dOp dGtI ma mb) := pd_cmp op_gt lr_B0 ha hb (nomark _)
theorem pd_ge (ha : PD X a ma) (hb : PD X b mb) : PD X (.Compare a [.GtE] [b] pos) (dOp dGeI ma mb) := pd_cmp op_ge lr_B0 ha hb (nomark _)
theorem pd_eq (hu : X.A.units + 64 < cLine) (ha : PD X a ma) (hb : PD X b mb) : PD X (.Compare a [.Eq] [b] pos) (dOp dEq ma mb) := pd_cmp (op_eqA hu) lr_eq ha hb (nomark _)
theorem pd_ne (hu : X.A.units + 64 < cLine) (ha : PD X a ma) (hb : PD X b mb) : PD X (.Compare a [.NotEq] [b] pos) (dOp dNe ma mb) := pd_cmp (op_neA hu) lr_ne ha hb (nomark _)
theorem pdt_lt (ha : PD X a ma) (hb : PD X b mb) : PDT X (.Compare a [.Lt] [b] pos) (dBoolT (dOp dLtI ma mb)) := pdt_cmp op_lt lr_B0 ha hb (nomark _)
theorem pdt_le (ha : PD X a ma) (hb : PD X b mb) : PDT X (.Compare a [.LtE] [b] pos) (dBoolT (dOp dLeI ma mb)) := pdt_cmp op_le lr_B0 ha hb (nomark _)
theorem pdt_gt (ha : PD X a ma) (hb : PD X b mb) : PDT X (.Compare a [.Gt] [b] pos) (dBoolT (dOp dGtI ma mb)) := pdt_cmp op_gt lr_B0 ha hb (nomark _)
theorem pdt_ge (ha : PD X a ma) (hb : PD X b mb) : PDT X (.Compare a [.GtE] [b] pos) (dBoolT (dOp dGeI ma mb)) := pdt_cmp op_ge lr_B0 ha hb (nomark _)
theorem pdt_eq (hu : X.A.units + 64 < cLine) (ha : PD X a ma) (hb : PD X b mb) : PDT X (.Compare a [.Eq] [b] pos) (dBoolT (dOp dEq ma mb)) := pdt_cmp (op_eqA hu) lr_eq ha hb (nomark _)
theorem pdt_ne (hu : X.A.units + 64 < cLine) (ha : PD X a ma) (hb : PD X b mb) : PDT X (.Compare a [.NotEq] [b] pos) (dBoolT (dOp dNe ma mb)) := pdt_cmp (op_neA hu) lr_ne ha hb (nomark _)
/-- any expression that comes to a bool, as a test -/
theorem pdt_val (h : PD X e ma) (he : ∀ whole, isTrue e X.env whole = (do let v ← whole; standAt e.pos; holding [v] (truthy v)) := by intro _; rfl) : PDT X e (dBoolT ma) :=
  let ⟨_, h1, l1⟩ := h; ⟨_, pt_val h1 he, lt_ofB l1⟩
def dAndT (m n : DT) : DT := fun σd Q => m σd fun b => if b = true then n σd Q else Q false
def dOrT (m n : DT) : DT := fun σd Q => m σd fun b => if b = true then Q true else n σd Q
def dNotT (m : DT) : DT := fun σd Q => m σd fun b => Q (!b)
variable {ta tb : DT}
theorem pdw_and1 (ha : PDT X a ta) : PDW X (.BoolOp .And [a] pos) ta := let ⟨_, h, l⟩ := ha; ⟨_, pw_and1 h, l⟩
theorem pdw_or1 (ha : PDT X a ta) : PDW X (.BoolOp .Or [a] pos) ta := let ⟨_, h, l⟩ := ha; ⟨_, pw_or1 h, l⟩
theorem pdw_and (ha : PDT X a ta) (hb : PDW X (.BoolOp .And (b :: rest) pos) tb) : PDW X (.BoolOp .And (a :: b :: rest) pos) (dAndT ta tb) := let ⟨_, h1, l1⟩ := ha; let ⟨_, h2, l2⟩ := hb; ⟨_, pw_and h1 h2, lt_and l1 l2⟩
theorem pdw_or (ha : PDT X a ta) (hb : PDW X (.BoolOp .Or (b :: rest) pos) tb) : PDW X (.BoolOp .Or (a :: b :: rest) pos) (dOrT ta tb) := let ⟨_, h1, l1⟩ := ha; let ⟨_, h2, l2⟩ := hb; ⟨_, pw_or h1 h2, lt_or l1 l2⟩
theorem pdt_w (h : PDW X e ta) : PDT X e ta := let ⟨_, h, l⟩ := h; ⟨_, h.pt, l⟩
theorem pdt_not (ha : PDT X a ta) : PDT X (.UnaryOp .Not a pos) (dNotT ta) := let ⟨_, h1, l1⟩ := ha; ⟨_, pt_not h1, lt_not l1⟩
def dAndV (m n : DE) : DE := fun σd Q => m σd fun d => match d with | .bool b => (if b = true then n σd Q else Q (.bool false)) | _ => False
def dOrV (m n : DE) : DE := fun σd Q => m σd fun d => match d with | .bool b => (if b = true then Q (.bool true) else n σd Q) | _ => False
def dNotV (m : DE) : DE := fun σd Q => m σd fun d => match d with | .bool b => Q (.bool (!b)) | _ => False
def dIfE (t : DT) (m n : DE) : DE := fun σd Q => t σd fun b => if b = true then m σd Q else n σd Q
theorem pd_one {op} (h : PD X a ma) : PD X (.BoolOp op [a] pos) ma := let ⟨_, h1, l1⟩ := h; ⟨_, pe_one h1, l1⟩
theorem pd_and (ha : PD X a ma) (hb : PD X (.BoolOp .And (b :: rest) pos) mb) : PD X (.BoolOp .And (a :: b :: rest) pos) (dAndV ma mb) := let ⟨_, h1, l1⟩ := ha; let ⟨_, h2, l2⟩ := hb; ⟨_, pe_and h1 h2, le_andV l1 l2⟩
theorem pd_or (ha : PD X a ma) (hb : PD X (.BoolOp .Or (b :: rest) pos) mb) : PD X (.BoolOp .Or (a :: b :: rest) pos) (dOrV ma mb) := let ⟨_, h1, l1⟩ := ha; let ⟨_, h2, l2⟩ := hb; ⟨_, pe_or h1 h2, le_orV l1 l2⟩
theorem pd_not (ha : PD X a ma) : PD X (.UnaryOp .Not a pos) (dNotV ma) := let ⟨_, h1, l1⟩ := ha; ⟨_, pe_not h1, le_notV l1⟩
theorem pd_ifexp (hc : PDT X c ta) (ha : PD X a ma) (hb : PD X b mb) : PD X (.IfExp c a b pos) (dIfE ta ma mb) := let ⟨_, h0, l0⟩ := hc; let ⟨_, h1, l1⟩ := ha; let ⟨_, h2, l2⟩ := hb; ⟨_, pe_ifExp h0 h1 h2, le_if l0 l1 l2⟩
/-! subscripts -/
def dIx : DR2 := fun x y Q => match x, y with
  | .list ds, .int i => (match atI ds i with | some d => Q d | none => False)
  | .tuple ds, .int i => (match atI ds i with | some d => Q d | none => False)
  | _, _ => False
theorem Dqs.at {S : Sr} {M : Addr → Prop} {H : Hp} {vs : List V} {ds : List D} {i : Int} {d : D} (r : Dqs S M H vs ds) (h : atI ds i = some d) : ∃ v, atI vs i = some v ∧ Dq S M H v d := by
  unfold atI at h ⊢
  rw [r.length]
  cases e : ixN ds.length i with
  | none => rw [e] at h; cases h
  | some j =>
    rw [e] at h
    obtain ⟨v, h1, h2⟩ := r.get (i := j) (d := d) h
    exact ⟨v, h1, h2⟩
theorem lr_ix : LR (rIx X.K) dIx := by
  intro S M H x y dx dy Qd Q hm rx ry h k
  unfold dIx at h
  split at h
  · cases ry
    split at h
    · rename_i d e
      cases rx with
      | lst na eH r =>
        obtain ⟨v, h1, h2⟩ := r.at e
        exact .inl ⟨_, _, _, v, rfl, rfl, .inl (.inl eH), h1, k d v H h (Same.refl _) h2⟩
    · exact h.elim
  · cases ry
    split at h
    · rename_i d e
      cases rx with
      | tup na eH r =>
        obtain ⟨v, h1, h2⟩ := r.at e
        exact .inr (.inl ⟨_, _, _, v, rfl, rfl, .inl (.inl eH), h1, k d v H h (Same.refl _) h2⟩)
    · exact h.elim
  · exact h.elim
theorem pd_ix (ha : PD X a ma) (hb : PD X b mb) (hs : PlainIx b := by exact fun _ _ => rfl) : PD X (.Subscript a b pos) (dOp dIx ma mb) := let ⟨_, h1, l1⟩ := ha; let ⟨_, h2, l2⟩ := hb; ⟨_, pe_ix ix_seq h1 h2 hs, le_op lr_ix l1 l2⟩
/-! calls -/
def dCall (spd : DSp) (m : DA) : DE := fun σd Q => m σd fun ds => spd ds Q
def dCall0 (spd : DSp) : DE := fun _ Q => spd [] Q
variable {k n' : Nat} {f : Addr} {fd : FuncData} {ps : List Str} {spd : DSp} {x : Str} {p : Pos}
theorem pd_call (F : FnG X.prog X.w X.K X.mg X.base k f fd ps (SpD n' spd)) (hr : Room k X.A) (hgu : X.A.guards = some []) (hg : Gl X x) (hm : X.mg x = some (.ref f)) (hk : PySem.W.keepIn X.K (.ref f) = true) (hb : Binds X.K fd ps [])
    (ha : PDA X (e :: es) n' m) (hdb : (x == ("__debug__" : Str)) = false := by decide) (he : starEach (e :: es) X.env = (false, eval e X.env) :: starEach es X.env := by rfl) (hpl : (backTo pos (starEach es X.env)).any (·.1) = false := by rfl) :
    PD X (.Call (.Name x p) (e :: es) [] pos) (dCall spd m) := let ⟨_, h1, l1⟩ := ha; ⟨_, pe_callG F hr hgu hg hm hk hb h1 hdb he hpl, le_callG l1⟩
theorem pd_call0 (F : FnG X.prog X.w X.K X.mg X.base k f fd ps (SpD 0 spd)) (hr : Room k X.A) (hgu : X.A.guards = some []) (hg : Gl X x) (hm : X.mg x = some (.ref f)) (hk : PySem.W.keepIn X.K (.ref f) = true) (hb : Binds X.K fd ps [])
    (hdb : (x == ("__debug__" : Str)) = false := by decide) : PD X (.Call (.Name x p) [] [] pos) (dCall0 spd) :=
  ⟨_, pe_callG0 F hr hgu hg hm hk hb hdb, fun S M H0 H σ σd Qd Q E hq k => le_callG la_nil S M H0 H σ σd Qd Q E hq k⟩
def dB (dr : DRC) (m : DA) : DE := fun σd Q => m σd fun ds => dr ds Q
variable {id T : String} {r : List V → Hp → VK → Prop} {dr : DRC}
theorem pd_blt (hc : CallR X (.builtin id) r) (l : LC r dr) (hg : Gl X x) (hm : X.mg x = none) (hv : bootBuiltins x = some (.builtin id)) (ha : PDA X (e :: es) n m) (hn : x ≠ "__name__" := by decide) (hdb : (x == ("__debug__" : Str)) = false := by decide)
    (he : starEach (e :: es) X.env = (false, eval e X.env) :: starEach es X.env := by rfl) (hpl : (backTo pos (starEach es X.env)).any (·.1) = false := by rfl) : PD X (.Call (.Name x p) (e :: es) [] pos) (dB dr m) :=
  let ⟨_, h1, l1⟩ := ha; ⟨_, pe_callB hc hg hm hv h1 hn hdb he hpl, le_cb l l1⟩
theorem pd_ty (hc : CallR X (.type T) r) (l : LC r dr) (hg : Gl X x) (hm : X.mg x = none) (hv : bootBuiltins x = some (.type T)) (ha : PDA X (e :: es) n m) (hn : x ≠ "__name__" := by decide) (hdb : (x == ("__debug__" : Str)) = false := by decide)
    (he : starEach (e :: es) X.env = (false, eval e X.env) :: starEach es X.env := by rfl) (hpl : (backTo pos (starEach es X.env)).any (·.1) = false := by rfl) : PD X (.Call (.Name x p) (e :: es) [] pos) (dB dr m) :=
  let ⟨_, h1, l1⟩ := ha; ⟨_, pe_callTy hc hg hm hv h1 hn hdb he hpl, le_cb l l1⟩
theorem pd_bfun (hc : CallR X (.builtin id) r) (l : LC r dr) (hg : Gl X x) (hm : X.mg x = some (.builtin id)) (ha : PDA X (e :: es) n m) (hdb : (x == ("__debug__" : Str)) = false := by decide)
    (he : starEach (e :: es) X.env = (false, eval e X.env) :: starEach es X.env := by rfl) (hpl : (backTo pos (starEach es X.env)).any (·.1) = false := by rfl) : PD X (.Call (.Name x p) (e :: es) [] pos) (dB dr m) :=
  let ⟨_, h1, l1⟩ := ha; ⟨_, pe_callBfun hc hg hm h1 hdb he hpl, le_cb l l1⟩
/-! statements -/
theorem pss_d1 {st : Stmt} {m : DS} (h : PDS Wx X st m) : PDSs Wx X [st] m := let ⟨_, h1, l1⟩ := h; ⟨_, pss_one h1, l1⟩
theorem pss_dc {st : Stmt} {rest : List Stmt} {m n : DS} (h1 : PDS Wx X st m) (h2 : PDSs Wx X rest n) : PDSs Wx X (st :: rest) (dSeq m n) := let ⟨_, h1, l1⟩ := h1; let ⟨_, h2, l2⟩ := h2; ⟨_, pss_cons h1 h2, ls_seq l1 l2⟩
theorem pss_d0 : PDSs Wx X [] dNext := ⟨_, pss_nil, ls_next⟩
theorem psd_if {c : Expr} {a b : List Stmt} {dc : DT} {m n : DS} (hc : PDT X c dc) (ha : PDSs Wx X a m) (hb : PDSs Wx X b n) : PDS Wx X (.If c a b pos) (dIf dc m n) :=
  let ⟨_, h0, l0⟩ := hc; let ⟨_, h1, l1⟩ := ha; let ⟨_, h2, l2⟩ := hb; ⟨_, ps_if h0 h1 h2, ls_if l0 l1 l2⟩
theorem psd_ret (h : PD X e ma) : PDS Wx X (.Return (some e) pos) (dRet ma) := let ⟨_, h1, l1⟩ := h; ⟨_, ps_ret h1, ls_ret l1⟩
theorem psd_pass : PDS Wx X (.Pass pos) dNext := ⟨_, ps_pass, ls_next⟩
theorem psd_cont : PDS Wx X (.Continue pos) (fun Dd σd => Dd.ct σd) := ⟨_, ps_continue, ls_cont⟩
theorem psd_break : PDS Wx X (.Break pos) (fun Dd σd => Dd.bk σd) := ⟨_, ps_break, ls_break⟩
theorem psd_set {i : Nat} {x : Str} {pos' : Pos} (hN : X.N.Nodup) (hi : X.N[i]? = some x) (hx : Loc X.env.scope x) (he : PD X e ma) (hs : swapsWith e (some (.Name x pos')) pos.line X.env = pure false := by rfl)
    (hf : X.fn x = true ∨ X.env.scope.names.lookup x = some .local := by first | exact .inl rfl | exact .inr rfl) : PDS Wx X (.Assign [.Name x pos'] e pos) (dAsg ma (dgName i)) :=
  let ⟨_, h1, l1⟩ := he; ⟨_, ps_set hN hi hx h1 hs hf, ls_asg l1 (lg_name i)⟩
def PDGs (X : Cx) (ts : List Expr) (n : Nat) (dg : DGs) : Prop := ∃ t, PGs X ts t ∧ LGs t dg ∧ ∀ ds σd Q, dg ds σd Q → ds.length = n
theorem pdgs_nil : PDGs X [] 0 dgNil := ⟨_, pgs_nil, lgs_nil, fun ds σd Q h => by cases ds with | nil => rfl | cons _ _ => exact h.elim⟩
theorem pdgs_cons {i n : Nat} {x : Str} {pos' : Pos} {es : List Expr} {dg : DGs} (hN : X.N.Nodup) (hi : X.N[i]? = some x) (hx : Loc X.env.scope x) (h : PDGs X es n dg)
    (hs : (assignEach (.Name x pos' :: es) X.env).map (·.2) = assign (.Name x pos') X.env :: (assignEach es X.env).map (·.2) := by rfl) (hf : X.fn x = true ∨ X.env.scope.names.lookup x = some .local := by first | exact .inl rfl | exact .inr rfl) : PDGs X (.Name x pos' :: es) (n + 1) (dgCons (dgName i) dg) :=
  let ⟨_, h1, l1, q⟩ := h
  ⟨_, pgs_cons (pg_name hN hi hx hf) h1 hs, lgs_cons l1, fun ds σd Q z => by
    cases ds with
    | nil => exact z.elim
    | cons d r => exact congrArg (· + 1) (q r _ Q z)⟩
def PDG (X : Cx) (tg : Expr) (dg : DG) : Prop := ∃ t, PG X tg t ∧ LG t dg
theorem pdg_name {i : Nat} {x : Str} {pos' : Pos} (hN : X.N.Nodup) (hi : X.N[i]? = some x) (hx : Loc X.env.scope x) (hf : X.fn x = true ∨ X.env.scope.names.lookup x = some .local := by first | exact .inl rfl | exact .inr rfl) : PDG X (.Name x pos') (dgName i) := ⟨_, pg_name hN hi hx hf, lg_name i⟩
theorem pdg_tup {k n : Nat} {es : List Expr} {dg : DGs} (hc : X.calm = true) (h : PDGs X es n dg) (hn : (assignEach es X.env).length = n := by rfl) (hst : (assignEach es X.env).findIdx? (·.1) = none := by rfl) : PDG X (.Tuple es k pos) (dgTup dg) :=
  let ⟨_, h1, l1, q⟩ := h; ⟨_, pg_tup hc h1 hn hst, lg_tup l1 q⟩
theorem psd_asg {tg : Expr} {dg : DG} (he : PD X e ma) (hg : PDG X tg dg) (hs : swapsWithSole [tg] e pos.line X.env = pure false := by rfl) (hw : swappedStores [tg] e X.env = pure none := by rfl)
    (h1 : (assignEach [tg] X.env).map (·.2) = [assign tg X.env] := by rfl) : PDS Wx X (.Assign [tg] e pos) (dAsg ma dg) := let ⟨_, h2, l2⟩ := he; let ⟨_, h3, l3⟩ := hg; ⟨_, ps_asg h2 h3 hs hw h1, ls_asg l2 l3⟩
/-- a, b = x, y -/
def dPar (i j : Nat) (m : DA) : DS := fun Dd σd => m σd fun ds => match ds with | [d, e] => Dd.nx ((σd.set i (.val d)).set j (.val e)) | _ => False
theorem ls_par {i j n : Nat} {t : TA} {m : DA} (h : LA n t m) : LS Wx (tPar i j t) (dPar i j m) := by
  intro S M H0 H σ σd Dd Dn E hm r
  refine h S M H0 H σ σd _ _ E hm fun ds vs H' q E' k r' _ => ?_
  split at q
  · cases r' with
    | cons a b =>
      cases b with
      | cons b c =>
        cases c
        exact ⟨_, _, rfl, r.1 _ _ _ q ((E'.put a).put (b.go fun a o n e => ⟨fun z => n (MOset z), e⟩))⟩
  · exact q.elim
theorem psd_par {i j : Nat} {x y : Str} {a b : Expr} {px py pt : Pos} {kt k2 pt2} (hc : X.calm = true) (hN : X.N.Nodup) (hi : X.N[i]? = some x) (hj : X.N[j]? = some y) (hij : i ≠ j)
    (hx : X.env.scope.names.lookup x = some .local) (hy : X.env.scope.names.lookup y = some .local) (ha : PDA X [a, b] n m)
    (hw : swappedStores [.Tuple [.Name x px, .Name y py] kt pt] (.Tuple [a, b] k2 pt2) X.env = pure (some [x, y]))
    (hs : swapsWithSole [.Tuple [.Name x px, .Name y py] kt pt] (.Tuple [a, b] k2 pt2) pos.line X.env = pure false := by rfl) :
    PDS Wx X (.Assign [.Tuple [.Name x px, .Name y py] kt pt] (.Tuple [a, b] k2 pt2) pos) (dPar i j m) := let ⟨_, h1, l1⟩ := ha; ⟨_, ps_par hc hN hi hj hij hx hy h1 hw hs, ls_par l1⟩
def dPar3 (i j l : Nat) (m : DA) : DS := fun Dd σd => m σd fun ds => match ds with | [d, e, f] => Dd.nx (((σd.set i (.val d)).set j (.val e)).set l (.val f)) | _ => False
theorem ls_par3 {i j l n : Nat} {t : TA} {m : DA} (h : LA n t m) : LS Wx (tPar3 i j l t) (dPar3 i j l m) := by
  intro S M H0 H σ σd Dd Dn E hm r
  refine h S M H0 H σ σd _ _ E hm fun ds vs H' q E' k r' _ => ?_
  split at q
  · cases r' with
    | cons a b =>
      cases b with
      | cons b c =>
        cases c with
        | cons c e =>
          cases e
          exact ⟨_, _, _, rfl, r.1 _ _ _ q (((E'.put a).put (b.go fun a o n e => ⟨fun z => n (MOset z), e⟩)).put (c.go fun a o n e => ⟨fun z => n (MOset (MOset z)), e⟩))⟩
  · exact q.elim
theorem psd_par3 {i j l : Nat} {x y z : Str} {a b c : Expr} {px py pz pt : Pos} {kt k2 pt2} (hc : X.calm = true) (hN : X.N.Nodup) (hi : X.N[i]? = some x) (hj : X.N[j]? = some y) (hl : X.N[l]? = some z) (hij : i ≠ j ∧ i ≠ l ∧ j ≠ l)
    (hx : X.env.scope.names.lookup x = some .local) (hy : X.env.scope.names.lookup y = some .local) (hz : X.env.scope.names.lookup z = some .local) (ha : PDA X [a, b, c] n m)
    (hw : swappedStores [.Tuple [.Name x px, .Name y py, .Name z pz] kt pt] (.Tuple [a, b, c] k2 pt2) X.env = pure (some [x, y, z]))
    (hs : swapsWithSole [.Tuple [.Name x px, .Name y py, .Name z pz] kt pt] (.Tuple [a, b, c] k2 pt2) pos.line X.env = pure false := by rfl) :
    PDS Wx X (.Assign [.Tuple [.Name x px, .Name y py, .Name z pz] kt pt] (.Tuple [a, b, c] k2 pt2) pos) (dPar3 i j l m) := let ⟨_, h1, l1⟩ := ha; ⟨_, ps_par3 hc hN hi hj hl hij.1 hij.2.1 hij.2.2 hx hy hz h1 hw hs, ls_par3 l1⟩
end
end PH

/-! repr, isinstance, other built-ins, lists of one's own. -/
namespace PH
open PySem PySem.Spec L2
open PyProof.Rows (envOfC)

mutual
def noL : D → Bool
  | .list _ => false
  | .tuple xs => noLs xs
  | _ => true
def noLs : List D → Bool
  | [] => true
  | x :: xs => noL x && noLs xs
end
mutual
def noS : D → Bool
  | .list xs => noSs xs
  | .tuple xs => noSs xs
  | .dict kvs => kvs.isEmpty
  | _ => true
def noSs : List D → Bool
  | [] => true
  | x :: xs => noS x && noSs xs
end
section
variable {X : Cx} {pins : List (Addr × Obj)} {σ : L2.St} {H : Hp} {s : Shared} {S : Sr} {M : Addr → Prop}
mutual
theorem Dq.reads (I : Inv X pins σ H s) : ∀ {d : D} {v : V} {u : Value}, Dq S M H v d → noS d = true → RelV v u → ∃ as, Reads s.heap u d as ∧ (noL d = true → sysModules ∉ as)
  | _, _, _, .non, _, r => by cases r; exact ⟨_, Reads.none, fun _ z => nomatch z⟩
  | _, _, _, .bl b, _, r => by cases r; exact ⟨_, Reads.bool b, fun _ z => nomatch z⟩
  | _, _, _, .int i, _, r => by obtain ⟨t, rfl⟩ := r; exact ⟨_, Reads.int i t, fun _ z => nomatch z⟩
  | _, _, _, .str x, _, r => by obtain ⟨t, rfl⟩ := r; exact ⟨_, Reads.str x t, fun _ z => nomatch z⟩
  | _, _, _, .lst n e q, h, r => by
    cases r
    obtain ⟨_, its, m, rv, ho⟩ := I.hok _ _ e
    obtain ⟨as, hr, _⟩ := Dqs.reads I q (by simpa [noS] using h) rv
    exact ⟨_, Reads.list ho rfl rfl hr, fun z => by simp [noL] at z⟩
  | _, _, _, .tup n e q, h, r => by
    cases r
    obtain ⟨_, its, rv, o, ho, hc, m, hd⟩ := I.hok _ _ e
    obtain ⟨as, hr, hs⟩ := Dqs.reads I q (by simpa [noS] using h) rv
    exact ⟨_, Reads.tuple ho hc hd hr, fun z => hs (by simpa [noL] using z)⟩
  | _, _, _, .dic n e, h, r => by
    cases r
    obtain ⟨_, hsm, vs, rv, o, es, ep, ho, hx, hd, hk, hp, _⟩ := I.hok _ _ e
    cases rv
    have e0 : es.toList = [] := by
      cases z : es.toList with
      | nil => rfl
      | cons a b => rw [z] at hp; cases hp
    refine ⟨_, Reads.dict (as := []) (bs := []) ho hx.1 hd (by rw [e0]; exact .nil) (by rw [e0]; exact .nil), fun _ z => ?_⟩
    have z' := List.mem_singleton.mp (by simpa using z)
    exact absurd z'.symm (beq_eq_false_iff_ne.mp hsm)
  | _, _, _, .src _, h, _ => by simp [noS] at h
theorem Dqs.reads (I : Inv X pins σ H s) : ∀ {ds : List D} {vs : List V} {us : List Value}, Dqs S M H vs ds → noSs ds = true → Vals vs us → ∃ as, ReadsAll s.heap us ds as ∧ (noLs ds = true → sysModules ∉ as)
  | _, _, _, .nil, _, r => by cases r; exact ⟨_, ReadsAll.nil, fun _ z => nomatch z⟩
  | _, _, _, .cons a b, h, r => by
    cases r with
    | cons r1 r2 =>
      simp only [noSs, Bool.and_eq_true] at h
      obtain ⟨as, q1, s1⟩ := Dq.reads I a h.1 r1
      obtain ⟨bs, q2, s2⟩ := Dqs.reads I b h.2 r2
      refine ⟨_, ReadsAll.cons q1 q2, fun z m => ?_⟩
      simp only [noLs, Bool.and_eq_true] at z
      rcases List.mem_append.mp m with m | m
      · exact s1 z.1 m
      · exact s2 z.2 m
end
end
/-- what repr is asked of -/
structure rOk (d : D) : Prop where
  sh : d.showable = true
  ns : noS d = true
  dl : d.hasDict = true → noL d = true
  dp : d.depth ≤ 60
  len : d.shown.length ≤ sizeLine
def rReprV : List V → Hp → VK → Prop := fun xs H Q => ∃ (S : Sr) (M : Addr → Prop) (x : V) (d : D), xs = [x] ∧ Dq S M H x d ∧ rOk d ∧ Q (.str d.shown) H
section
variable {X : Cx}
theorem call_repr (hg : X.A.guards = some []) (hu : X.A.units + 64 < cLine) : CallR X (.builtin "repr") rReprV := by
  intro pins s σ H xs us Q I r h
  obtain ⟨S, M, x, d, rfl, hd, ok, q⟩ := h
  obtain ⟨u, rfl, ru⟩ := vals1 r
  cases hd with
  | non =>
    cases ru
    exact PySem.P.repr_of_none ⟨.str _, H, I.tok _, ⟨_, rfl⟩, by simpa only [PyData.shown] using q⟩
  | bl b =>
    cases ru
    exact PySem.P.repr_of_bool ⟨.str _, H, I.tok _, ⟨_, rfl⟩, by simpa only [PyData.shown] using q⟩
  | int i =>
    obtain ⟨t, rfl⟩ := ru
    exact PySem.P.repr_of_int (by have := ok.sh; simpa [PyData.showable] using this) ⟨.str _, H, I.tok _, ⟨_, rfl⟩, by simpa only [PyData.shown] using q⟩
  | str x =>
    obtain ⟨t, rfl⟩ := ru
    exact PySem.P.repr_of_str ⟨.str _, H, I.tok _, ⟨_, rfl⟩, by simpa only [PyData.shown] using q⟩ (by have := ok.len; simpa only [PyData.shown] using this)
  | lst n e z =>
    have hd : Dq S M H (.ref _) (.list _) := .lst n e z
    cases ru
    obtain ⟨as, hr, hs⟩ := hd.reads I ok.ns rfl
    exact repr_of_reads' hr ok.sh (fun z => hs (ok.dl z)) hg (by have := ok.dp; omega) (fun _ _ e => e) (fun h' u tk hk => ⟨.str _, H, I.kept hk, ⟨_, rfl⟩, q⟩) ok.len
  | tup n e z =>
    have hd : Dq S M H (.ref _) (.tuple _) := .tup n e z
    cases ru
    obtain ⟨as, hr, hs⟩ := hd.reads I ok.ns rfl
    exact repr_of_reads' hr ok.sh (fun z => hs (ok.dl z)) hg (by have := ok.dp; omega) (fun _ _ e => e) (fun h' u tk hk => ⟨.str _, H, I.kept hk, ⟨_, rfl⟩, q⟩) ok.len
  | dic n e =>
    have hd : Dq S M H (.ref _) (.dict []) := .dic n e
    cases ru
    obtain ⟨as, hr, hs⟩ := hd.reads I ok.ns rfl
    exact repr_of_reads' hr ok.sh (fun z => hs (ok.dl z)) hg (by have := ok.dp; omega) (fun _ _ e => e) (fun h' u tk hk => ⟨.str _, H, I.kept hk, ⟨_, rfl⟩, q⟩) ok.len
  | src e => exact absurd ok.ns (by simp [noS])
def dRepr : DRC := fun ds Q => match ds with | [d] => rOk d ∧ Q (.str d.shown) | _ => False
theorem lc_repr : LC rReprV dRepr := by
  intro S M H xs ds Qd Q hm r h k
  unfold dRepr at h
  split at h
  · cases r with
    | cons a b =>
      cases b
      exact ⟨S, M, _, _, rfl, a, h.1, k _ _ H h.2 (Same.refl _) (.str _)⟩
  · exact h.elim
/-- one int in, a datum out -/
def dInt1 (f : Int → D) : DRC := fun ds Q => match ds with | [.int i] => Q (f i) | _ => False
def dAbs : DRC := dInt1 fun i => .int (if i < 0 then -i else i)
theorem lc_abs : LC (fun xs H Q => ∃ i, xs = [.int i] ∧ Q (.int (if i < 0 then -i else i)) H) dAbs := by
  intro S M H xs ds Qd Q hm r h k
  unfold dAbs dInt1 at h
  split at h
  · cases r with
    | cons a b => cases b; cases a; exact ⟨_, rfl, k _ _ H h (Same.refl _) (.int _)⟩
  · exact h.elim
def dIntF : DRC := fun ds Q => match ds with | [.int i] => Q (.int i) | [.bool b] => Q (.int (if b then 1 else 0)) | _ => False
theorem lc_int : LC (fun xs H Q => (∃ i, xs = [.int i] ∧ Q (.int i) H) ∨ ∃ k, xs = [.bl k] ∧ Q (.int (if k then 1 else 0)) H) dIntF := by
  intro S M H xs ds Qd Q hm r h k
  unfold dIntF at h
  split at h
  · cases r with
    | cons a b => cases b; cases a; exact .inl ⟨_, rfl, k _ _ H h (Same.refl _) (.int _)⟩
  · cases r with
    | cons a b => cases b; cases a; exact .inr ⟨_, rfl, k _ _ H h (Same.refl _) (.int _)⟩
  · exact h.elim
def dInt2 (f : Int → Int → Int) : DRC := fun ds Q => match ds with | [.int i, .int j] => Q (.int (f i j)) | _ => False
theorem lc_int2 {f : Int → Int → Int} : LC (fun xs H Q => ∃ i j, xs = [.int i, .int j] ∧ Q (.int (f i j)) H) (dInt2 f) := by
  intro S M H xs ds Qd Q hm r h k
  unfold dInt2 at h
  split at h
  · cases r with
    | cons a b =>
      cases b with
      | cons c b => cases b; cases a; cases c; exact ⟨_, _, rfl, k _ _ H h (Same.refl _) (.int _)⟩
  · exact h.elim
abbrev dMax2 := dInt2 fun i j => if j > i then j else i
abbrev dMin2 := dInt2 fun i j => if j < i then j else i
abbrev dGcd2 := dInt2 fun a b => ((Nat.gcd a.natAbs b.natAbs : Nat) : Int)
theorem lc_gcd : LC rGcd dGcd2 := lc_int2
def dLen : DRC := fun ds Q => match ds with | [.list xs] => Q (.int xs.length) | [.tuple xs] => Q (.int xs.length) | _ => False
theorem lc_len {K : PySem.W.Frag} : LC (fun xs H Q => ∃ x n, xs = [x] ∧ LenV K x H n ∧ Q (.int n) H) dLen := by
  intro S M H xs ds Qd Q hm r h k
  unfold dLen at h
  split at h
  · cases r with
    | cons a b =>
      cases b
      cases a with
      | lst n e q => exact ⟨_, _, rfl, .inl ⟨_, .inl (.inl e), rfl⟩, by rw [q.length]; exact k _ _ H h (Same.refl _) (.int _)⟩
  · cases r with
    | cons a b =>
      cases b
      cases a with
      | tup n e q => exact ⟨_, _, rfl, .inr ⟨_, .inl (.inl e), rfl⟩, by rw [q.length]; exact k _ _ H h (Same.refl _) (.int _)⟩
  · exact h.elim
/-! isinstance with a built-in class -/
def tyN : D → String
  | .none => "NoneType" | .bool _ => "bool" | .int _ => "int" | .str _ => "str" | .list _ => "list" | .tuple _ => "tuple" | .dict _ => "dict"
theorem Dq.tyOf {K : PySem.W.Frag} {S : Sr} {M : Addr → Prop} {H : Hp} {v : V} {d : D} (h : Dq S M H v d) (so : SrcOk S M H) : TyOf K H v (.type (tyN d)) := by
  cases h with
  | non => exact .non
  | bl b => exact .bl b
  | int i => exact .int i
  | str x => exact .str x
  | lst n e q => exact .lst e
  | tup n e q => exact .tup e
  | dic n e => exact .dK e
  | src e =>
    obtain ⟨_, _, _, ns, l, m, t, _, h2⟩ := so.go _ _ e
    exact .dK h2
/-- the answer of isinstance(.., T) for each type of data -/
def isTy (T : String) (d : D) : Bool := (tyN d == T) || (T == "int" && tyN d == "bool")
def kitAll (T : String) : Prop := ∀ (K : PySem.W.Frag) (d : D), PySem.W.kitOne K (.type (tyN d)) (.type T) = some (isTy T d)
def dIsi (T : String) (m : DE) : DE := fun σd Q => m σd fun d => Q (.bool (isTy T d))
theorem pd_isi {T : String} {x : Str} {e : Expr} {p pos pt : Pos} {ma : DE} {xT : Str} (hT : kitAll T) (hg : Gl X x) (hm : X.mg x = none) (hv : bootBuiltins x = some (.builtin "isinstance")) (gT : Gl X xT) (mT : X.mg xT = none) (vT : bootBuiltins xT = some (.type T)) (ha : PD X e ma)
    (hn : x ≠ "__name__" := by decide) (hdb : (x == ("__debug__" : Str)) = false := by decide) (hnT : xT ≠ "__name__" := by decide) (hdT : (xT == ("__debug__" : Str)) = false := by decide)
    (hs1 : starEach [e, .Name xT pt] X.env = (false, eval e X.env) :: starEach [.Name xT pt] X.env := by rfl) (hs2 : starEach [.Name xT pt] X.env = (false, eval (.Name xT pt) X.env) :: starEach [] X.env := by rfl)
    (hpl : (backTo pos (starEach [.Name xT pt] X.env)).any (·.1) = false := by rfl) : PD X (.Call (.Name x p) [e, .Name xT pt] [] pos) (dIsi T ma) := by
  obtain ⟨t, h1, l1⟩ := ha
  refine ⟨_, pe_callB call_isi hg hm hv (pa_cons h1 (pa_cons (pe_bltn (v := .ty T) gT mT vT rfl hnT hdT) pa_nil hs2) hs1) hn hdb hs1 hpl, ?_⟩
  intro S M H0 H σ σd Qd Q E h k
  refine l1 S M H0 H σ σd _ _ E h fun d v H1 q E1 k1 r1 => ?_
  have so : SrcOk S (MO M σd) H1 := E1.src.more fun _ z => .inl z
  exact ⟨v, .ty T, _, _, isTy T d, rfl, .ty T, .base (r1.tyOf so), hT X.K d, k _ _ H1 q E1 k1 (.bl _)⟩
theorem kit_int : kitAll "int" := fun K d => by cases d <;> exact (by with_unfolding_all rfl)
theorem kit_bool : kitAll "bool" := fun K d => by cases d <;> exact (by with_unfolding_all rfl)
theorem kit_tuple : kitAll "tuple" := fun K d => by cases d <;> exact (by with_unfolding_all rfl)
theorem kit_list : kitAll "list" := fun K d => by cases d <;> exact (by with_unfolding_all rfl)
theorem kit_str : kitAll "str" := fun K d => by cases d <;> exact (by with_unfolding_all rfl)
theorem kit_dict : kitAll "dict" := fun K d => by cases d <;> exact (by with_unfolding_all rfl)
end
end PH

/-! Lists of one's own; loops and comprehensions. -/
namespace PH
open PySem PySem.Spec L2
open PyProof.Rows (envOfC)
variable {Wx : WX}

/-! ### a base of one's own for a loop -/
open Classical in
noncomputable def less (H : Hp) (σd : DSt) : Hp := fun a => if ∃ ds, Sl.own a ds ∈ σd then none else H a
theorem less_own {H : Hp} {σd : DSt} {a : Addr} {ds : List D} (h : Sl.own a ds ∈ σd) : less H σd a = none := if_pos ⟨ds, h⟩
theorem less_ne {H : Hp} {σd : DSt} {a : Addr} (h : ¬ ∃ ds, Sl.own a ds ∈ σd) : less H σd a = H a := if_neg h
theorem less_some {H : Hp} {σd : DSt} {a : Addr} {o : HO} (h : less H σd a = some o) : H a = some o ∧ ¬ ∃ ds, Sl.own a ds ∈ σd := by
  by_cases z : ∃ ds, Sl.own a ds ∈ σd
  · rw [less, if_pos z] at h; cases h
  · rw [less_ne z] at h; exact ⟨h, z⟩
section
variable {S : Sr} {M : Addr → Prop} {H0 H H' : Hp} {σ σ' : L2.St} {σd σd' : DSt}
theorem Ev.ownM (E : Ev S M H0 H σ σd) {a : Addr} {ds : List D} (h : Sl.own a ds ∈ σd) : ¬ M a := fun z => E.mt0 a z (E.new a ds h)
theorem Ev.based (E : Ev S M H0 H σ σd) : Ev S M (less H σd) H σ σd where
  len := E.len
  sl := E.sl
  uni := E.uni
  new := fun a ds h => less_own h
  src := E.src
  src0 := fun p c e => by
    obtain ⟨hp, hc, _, ns, l, m, t, h1, h2⟩ := E.src.go p c e
    rw [less_ne fun ⟨ds, z⟩ => E.ownM z hp, less_ne fun ⟨ds, z⟩ => E.ownM z hc, h1, h2]
    exact ⟨fun z => (nomatch z), fun z => (nomatch z)⟩
  keep := fun a o e _ => .inl (less_some e).1
  mt := E.mt
  mt0 := fun a h => by rw [less_ne fun ⟨ds, z⟩ => E.ownM z h]; exact E.mt a h
/-- back to the base that was -/
theorem Ev.unbased (E : Ev S M H0 H σ σd) (E' : Ev S M (less H σd) H' σ' σd') : Ev S M H0 H' σ' σd' where
  len := E'.len
  sl := E'.sl
  uni := E'.uni
  new := fun a ds h => by
    have z := E'.new a ds h
    by_cases y : ∃ es, Sl.own a es ∈ σd
    · obtain ⟨es, y⟩ := y; exact E.new a es y
    · rw [less_ne y] at z
      cases q : H0 a with
      | none => rfl
      | some o =>
        by_cases w : ∃ p c, S = some (p, c) ∧ (a = p ∨ a = c)
        · obtain ⟨p, c, e, w⟩ := w
          obtain ⟨hp, hc, _⟩ := E.src.go p c e
          rcases w with w | w
          · exact absurd z (w ▸ E.mt p hp)
          · exact absurd z (w ▸ E.mt c hc)
        · exact absurd z (E.keep.nn (by rw [q]; exact fun y => nomatch y) fun p c e => ⟨fun y => w ⟨p, c, e, .inl y⟩, fun y => w ⟨p, c, e, .inr y⟩⟩)
  src := E'.src
  src0 := E.src0
  keep := fun a o e n => by
    have l : less H σd a = H a := less_ne (fun ⟨ds, z⟩ => absurd (E.new a ds z) (by rw [e]; exact fun y => (nomatch y)))
    rcases E.keep a o e n with q | ⟨ps, ps', q1, q2⟩
    · exact E'.keep a o (by rw [l, q]) n
    · rcases E'.keep a _ (by rw [l, q2]) n with q | ⟨_, qs, _, q⟩
      · exact .inr ⟨ps, ps', q1, q⟩
      · exact .inr ⟨ps, qs, q1, q⟩
  mt := E'.mt
  mt0 := E.mt0
theorem Ev.unKeep (E : Ev S M H0 H σ σd) (E' : Ev S M (less H σd) H' σ' σd') {a : Addr} {o : HO} (n : ¬ MO M σd a) (e : H a = some o) : H' a = some o ∨ ∃ ps ps', o = .tbl ps ∧ H' a = some (.tbl ps') :=
  E'.keep a o (by rw [less_ne fun ⟨ds, z⟩ => n (.inr ⟨ds, z⟩), e]) fun p c q => by
    obtain ⟨hp, hc, _⟩ := E.src.go p c q
    exact ⟨fun z => n (.inl (z ▸ hp)), fun z => n (.inl (z ▸ hc))⟩
/-- own lists of a later state were own, or are new -/
theorem Ev.ownOld (E : Ev S M H0 H σ σd) (E' : Ev S M (less H σd) H' σ' σd') {a : Addr} {o : HO} (n : ¬ MO M σd a) (e : H a = some o) : ¬ MO M σd' a := fun z => by
  rcases z with z | ⟨ds, z⟩
  · exact n (.inl z)
  · have q := E'.new a ds z
    rw [less_ne fun ⟨es, y⟩ => n (.inr ⟨es, y⟩), e] at q
    cases q

/-! ### lists of one's own -/
theorem Ev.own (E : Ev S M H0 H σ σd) {i : Nat} {p : Addr} {xs : List V} {ds : List D} {Hb : Hp} (Eb : Ev S M H0 Hb σ σd) (kb : KeepS S Hb H) (hp : Hb p = none) (e : H p = some (.lst xs)) (r : Dqs S (fun a => MO M σd a ∨ a = p) H xs ds) :
    Ev S M H0 H (σ.set i (some (.ref p))) (σd.set i (Sl.own p ds)) := by
  have np0 : H0 p = none := by
    cases q : H0 p with
    | none => rfl
    | some o =>
      by_cases w : ∃ p' c', S = some (p', c') ∧ (p = p' ∨ p = c')
      · obtain ⟨p', c', z, w⟩ := w
        obtain ⟨h1, h2, _⟩ := Eb.src.go p' c' z
        rcases w with w | w
        · exact absurd hp (w ▸ Eb.mt p' h1)
        · exact absurd hp (w ▸ Eb.mt c' h2)
      · exact absurd hp (Eb.keep.nn (by rw [q]; exact fun y => nomatch y) fun p' c' z => ⟨fun y => w ⟨p', c', z, .inl y⟩, fun y => w ⟨p', c', z, .inr y⟩⟩)
  have nM : ¬ M p := fun z => E.mt0 p z np0
  have nO : ∀ es, Sl.own p es ∉ σd := fun es z => by
    obtain ⟨j, hj⟩ := List.getElem?_of_mem z
    obtain ⟨o, _, _, ys, q, _⟩ := Eb.slot hj
    rw [hp] at q; cases q
  have sub : ∀ a, MO M (σd.set i (Sl.own p ds)) a → MO M σd a ∨ a = p := fun a h => by
    rcases h with h | ⟨es, h⟩
    · exact .inl (.inl h)
    · rcases List.mem_or_eq_of_mem_set h with h | h
      · exact .inl (.inr ⟨es, h⟩)
      · cases h; exact .inr rfl
  -- what stood in the slots does not lead to p
  have g : ∀ a o, ¬ MO M σd a → Hb a = some o → ¬ MO M (σd.set i (Sl.own p ds)) a ∧ (H a = some o ∨ ∃ ps ps', o = .tbl ps ∧ H a = some (.tbl ps')) := fun a o n e' => by
    obtain ⟨_, h2⟩ := Eb.kp kb a o n e'
    exact ⟨fun z => (sub a z).elim n fun y => ne_of_none e' hp y, h2⟩
  have ow : ∀ {j : Nat} {a : Addr} {es : List D}, (σd.set i (Sl.own p ds))[j]? = some (Sl.own a es) → (σd[j]? = some (Sl.own a es) ∧ i ≠ j) ∨ (j = i ∧ a = p) := fun {j a es} h => by
    rw [List.getElem?_set] at h
    by_cases hj : i = j
    · rw [if_pos hj] at h
      split at h
      · cases h; exact .inr ⟨hj.symm, rfl⟩
      · cases h
    · rw [if_neg hj] at h; exact .inl ⟨h, hj⟩
  refine ⟨by rw [List.length_set, List.length_set]; exact E.len, fun j o s h1 h2 => ?_, fun j k a es fs h1 h2 => ?_, fun a es h => ?_, E.src, E.src0, E.keep, E.mt, E.mt0⟩
  · rw [List.getElem?_set] at h1 h2
    by_cases hj : i = j
    · rw [if_pos hj] at h1 h2
      split at h1
      · split at h2
        · cases h1; cases h2
          exact ⟨rfl, xs, e, r.go fun a o n e => ⟨fun z => n (sub a z), e⟩⟩
        · cases h2
      · cases h1
    · rw [if_neg hj] at h1 h2
      have z := Eb.sl j o s h1 h2
      cases s with
      | emp => trivial
      | val d => obtain ⟨w, e', q⟩ := z; exact ⟨w, e', q.goT g⟩
      | own a es =>
        obtain ⟨e', ys, h, q⟩ := z
        exact ⟨e', ys, kb.k a _ h (Eb.ownNe (List.mem_of_getElem? h2)), q.goT g⟩
  · rcases ow h1 with h1 | ⟨h1, q1⟩
    · rcases ow h2 with h2 | ⟨h2, q2⟩
      · exact E.uni j k a es fs h1.1 h2.1
      · exact absurd (List.mem_of_getElem? h1.1) (q2 ▸ nO es)
    · rcases ow h2 with h2 | ⟨h2, q2⟩
      · exact absurd (List.mem_of_getElem? h2.1) (q1 ▸ nO fs)
      · rw [h1, h2]
  · rcases List.mem_or_eq_of_mem_set h with h | h
    · exact E.new a es h
    · cases h; exact np0
theorem ls_own {t : TE} {m : DA} {i : Nat} (h : LN t m) : LS Wx (tAsg t (gName i)) (dOwn i m) := by
  intro S M H0 H σ σd Dd Dn E hm r
  refine h S M H0 H σ σd _ _ E hm fun ds p xs H' q E' k hp e rr => ?_
  exact r.1 _ _ _ (q p) (E'.own (i := i) E k hp e rr)
/-- an own list changes -/
theorem Ev.upd (E : Ev S M H0 H σ σd) {i : Nat} {a : Addr} {ds es : List D} {ys : List V} (h : σd[i]? = some (Sl.own a ds)) (r : Dqs S (MO M σd) H ys es) : Ev S M H0 (upd H a (.lst ys)) σ (σd.set i (Sl.own a es)) := by
  have hi : i < σd.length := (List.getElem?_eq_some_iff.mp h).1
  have hm := List.mem_of_getElem? h
  have own : MO M σd a := .inr ⟨ds, hm⟩
  have eqM : ∀ b, MO M (σd.set i (Sl.own a es)) b → MO M σd b := fun b z => by
    rcases z with z | ⟨fs, z⟩
    · exact .inl z
    · rcases List.mem_or_eq_of_mem_set z with z | z
      · exact .inr ⟨fs, z⟩
      · cases z; exact own
  have g : ∀ b o, ¬ MO M σd b → H b = some o → ¬ MO M (σd.set i (Sl.own a es)) b ∧ L2.upd H a (.lst ys) b = some o := fun b o n e =>
    ⟨fun z => n (eqM b z), by rw [upd_ne (fun z : b = a => n (by rw [z]; exact own))]; exact e⟩
  have nsrc := E.ownNe hm
  have ow : ∀ {j : Nat} {b : Addr} {fs : List D}, (σd.set i (Sl.own a es))[j]? = some (Sl.own b fs) → (σd[j]? = some (Sl.own b fs) ∧ i ≠ j) ∨ (j = i ∧ b = a) := fun {j b fs} h => by
    rw [List.getElem?_set] at h
    by_cases hj : i = j
    · rw [if_pos hj, if_pos hi] at h
      cases h; exact .inr ⟨hj.symm, rfl⟩
    · rw [if_neg hj] at h; exact .inl ⟨h, hj⟩
  have src' : SrcOk S M (L2.upd H a (.lst ys)) := ⟨fun p c e => by
    obtain ⟨h1, h2, h3, ns, l, m, t, h4, h5⟩ := E.src.go p c e
    exact ⟨h1, h2, h3, ns, l, m, t, by rw [upd_ne (nsrc p c e).2.symm]; exact h4, by rw [upd_ne (nsrc p c e).1.symm]; exact h5⟩, by
    obtain ⟨_, _, _, xs, e0, _⟩ := E.slot h
    exact tabs_upd E.src.tab e0⟩
  refine ⟨by rw [List.length_set]; exact E.len, fun j o s h1 h2 => ?_, fun j k b fs gs h1 h2 => ?_, fun b fs z => ?_, src', E.src0, fun b o e n => ?_, fun b z => ?_, E.mt0⟩
  · rw [List.getElem?_set] at h2
    by_cases hj : i = j
    · rw [if_pos hj, if_pos (hj ▸ hi)] at h2
      cases h2
      subst hj
      obtain ⟨e, _⟩ := E.sl i o _ h1 h
      exact ⟨e, ys, upd_same, r.go g⟩
    · rw [if_neg hj] at h2
      have z := E.sl j o s h1 h2
      cases s with
      | emp => trivial
      | val d => obtain ⟨w, e', q⟩ := z; exact ⟨w, e', q.go g⟩
      | own b fs =>
        obtain ⟨e', xs, h', q⟩ := z
        have nb : b ≠ a := fun y => by
          subst y
          exact hj (E.uni i j b ds fs h h2)
        exact ⟨e', xs, by rw [upd_ne nb]; exact h', q.go g⟩
  · rcases ow h1 with ⟨h3, h4⟩ | ⟨h3, q1⟩
    · rcases ow h2 with ⟨h5, h6⟩ | ⟨h5, q2⟩
      · exact E.uni j k b fs gs h3 h5
      · exact absurd (E.uni i j a ds fs h (q2 ▸ h3)) h4
    · rcases ow h2 with ⟨h5, h6⟩ | ⟨h5, q2⟩
      · exact absurd (E.uni i k a ds gs h (q1 ▸ h5)) h6
      · rw [h3, h5]
  · rcases List.mem_or_eq_of_mem_set z with z | z
    · exact E.new b fs z
    · cases z; exact E.new a ds hm
  · rw [upd_ne fun y => ?_]
    · exact E.keep b o e n
    · subst y; rw [E.new b ds hm] at e; cases e
  · by_cases y : b = a
    · subst y; exact absurd z (E.ownM hm)
    · rw [upd_ne y]; exact E.mt b z
end
end PH

/-! Loops and comprehensions over data. -/
namespace PH
open PySem PySem.Spec L2
open PyProof.Rows (envOfC)
variable {Wx : WX}

/-! ### one reading for each reading over data -/
def tOfE (m : DE) : TE := fun σ H Q => ∃ (S : Sr) (M : Addr → Prop) (H0 : Hp) (σd : DSt) (Qd : D → Prop), Ev S M H0 H σ σd ∧ m σd Qd ∧ ∀ d v H', Qd d → Ev S M H0 H' σ σd → KeepS S H H' → Dq S (MO M σd) H' v d → Q v H'
def tOfT (m : DT) : TT := fun σ H Q => ∃ (S : Sr) (M : Addr → Prop) (H0 : Hp) (σd : DSt) (Qd : Bool → Prop), Ev S M H0 H σ σd ∧ m σd Qd ∧ ∀ b H', Qd b → Ev S M H0 H' σ σd → KeepS S H H' → Q b H'
theorem le_of {m : DE} : LE (tOfE m) m := fun S M H0 H σ σd Qd Q E h k => ⟨S, M, H0, σd, Qd, E, h, k⟩
theorem lt_ofT {m : DT} : LT (tOfT m) m := fun S M H0 H σ σd Qd Q E h k => ⟨S, M, H0, σd, Qd, E, h, k⟩
theorem PD.pe {X : Cx} {e : Expr} {m : DE} (h : PD X e m) : PE X e (tOfE m) := by
  obtain ⟨t, p, l⟩ := h
  exact ⟨fun pins s σ H Q I ⟨S, M, H0, σd, Qd, E, q, k⟩ => p.run pins s σ H Q I (l S M H0 H σ σd Qd Q E q k)⟩
theorem PDT.pt {X : Cx} {e : Expr} {m : DT} (h : PDT X e m) : PT X e (tOfT m) := by
  obtain ⟨t, p, l⟩ := h
  exact ⟨fun pins s σ H Q I ⟨S, M, H0, σd, Qd, E, q, k⟩ => p.run pins s σ H Q I (l S M H0 H σ σd Qd Q E q k)⟩

/-! ### what is walked -/
/-- all that no one may change stands -/
def Stands (M : Addr → Prop) (H1 H : Hp) : Prop := ∀ a o, ¬ M a → H1 a = some o → H a = some o ∨ ∃ ps ps', o = .tbl ps ∧ H a = some (.tbl ps')
theorem Stands.k {M : Addr → Prop} {H1 H : Hp} (st : Stands M H1 H) (a : Addr) (o : HO) (n : ¬ M a) (e : H1 a = some o) (h : ∀ ps, o ≠ .tbl ps := by intro _ z; cases z) : H a = some o := (st a o n e).resolve_right fun ⟨ps, _, z, _⟩ => h ps z
structure Wk (S : Sr) (M : Addr → Prop) (H1 : Hp) (J : It) (ys : List D) : Prop where
  ex : ∃ (G : Hp → Prop) (Y : Nat → Hp → V → Hp → Prop), Walk J ys.length G Y ∧ (∀ H, Stands M H1 H → G H) ∧ ∀ i H x H', i < ys.length → Stands M H1 H → Y i H x H' →
    Same H H' ∧ ∀ M' : Addr → Prop, (∀ a, M' a → H a ≠ none) → (∀ a o, ¬ M a → H1 a = some o → ¬ M' a) → ∃ d, ys[i]? = some d ∧ Dq S M' H' x d
def LI (wi : TI) (mi : DA) : Prop := ∀ (S : Sr) (M : Addr → Prop) (H0 H : Hp) (σ : L2.St) (σd : DSt) (Qd : List D → Prop) (R : It → Hp → Prop), Ev S M H0 H σ σd → mi σd Qd →
  (∀ ys J H1, Qd ys → Ev S M H0 H1 σ σd → KeepS S H H1 → Wk S (MO M σd) H1 J ys → R J H1) → wi σ H R
theorem wk_list {K : PySem.W.Frag} {S : Sr} {M : Addr → Prop} {H : Hp} {a : Addr} {xs : List V} {ds : List D} (na : ¬ M a) (e : H a = some (.lst xs)) (r : Dqs S M H xs ds) : Wk S M H (Itl K a) ds := by
  refine ⟨fun H => SqL K H a xs, YAt xs, (by rw [← r.length]; exact walk_list (K := K) (a := a) (xs := xs)), fun H2 st => Or.inl (Or.inl (st.k a _ na e)), fun i H2 x H3 hi st y => ?_⟩
  obtain ⟨e3, hx⟩ := y
  subst e3
  refine ⟨Same.refl _, fun M' _ hM => ?_⟩
  obtain ⟨d, hd, q⟩ := r.getV hx
  exact ⟨d, hd, q.goT fun b o n eb => ⟨hM b o n eb, st b o n eb⟩⟩
theorem wk_tup {K : PySem.W.Frag} {S : Sr} {M : Addr → Prop} {H : Hp} {a : Addr} {xs : List V} {ds : List D} (na : ¬ M a) (e : H a = some (.tup xs)) (r : Dqs S M H xs ds) : Wk S M H (Itt K a) ds := by
  refine ⟨fun H => SqT K H a xs, YAt xs, (by rw [← r.length]; exact walk_tup (K := K) (a := a) (xs := xs)), fun H2 st => Or.inl (Or.inl (st.k a _ na e)), fun i H2 x H3 hi st y => ?_⟩
  obtain ⟨e3, hx⟩ := y
  subst e3
  refine ⟨Same.refl _, fun M' _ hM => ?_⟩
  obtain ⟨d, hd, q⟩ := r.getV hx
  exact ⟨d, hd, q.goT fun b o n eb => ⟨hM b o n eb, st b o n eb⟩⟩
def intsD (lo : Int) (n : Nat) : List D := (List.range n).map fun i : Nat => PyData.int (lo + (i : Int))
theorem wk_rng {S : Sr} {M : Addr → Prop} {H : Hp} {lo : Int} {n : Nat} : Wk S M H (Itr lo n) (intsD lo n) := by
  have hl : (intsD lo n).length = n := by simp [intsD]
  refine ⟨_, _, (by rw [hl]; exact walk_range), fun _ _ => trivial, fun i H2 x H3 hi st y => ?_⟩
  obtain ⟨e3, hx⟩ := y
  subst e3
  rw [hl] at hi
  exact ⟨Same.refl _, fun M' _ _ => ⟨.int (lo + i), by simp [intsD, hi], hx ▸ .int _⟩⟩
def dItL (m : DE) : DA := fun σd Q => m σd fun d => match d with | .list ds => Q ds | _ => False
def dItT (m : DE) : DA := fun σd Q => m σd fun d => match d with | .tuple ds => Q ds | _ => False
theorem li_list {K : PySem.W.Frag} {t : TE} {m : DE} (h : LE t m) : LI (iList K t) (dItL m) := by
  intro S M H0 H σ σd Qd R E hm k
  refine h S M H0 H σ σd _ _ E hm fun d v H1 q E1 k1 r1 => ?_
  cases r1 <;> first | exact q.elim | skip
  rename_i a xs ds na e r
  exact ⟨a, rfl, ⟨xs, .inl (.inl e)⟩, k _ _ H1 q E1 k1 (wk_list na e r)⟩
theorem li_tup {K : PySem.W.Frag} {t : TE} {m : DE} (h : LE t m) : LI (iTup K t) (dItT m) := by
  intro S M H0 H σ σd Qd R E hm k
  refine h S M H0 H σ σd _ _ E hm fun d v H1 q E1 k1 r1 => ?_
  cases r1 <;> first | exact q.elim | skip
  rename_i a xs ds na e r
  exact ⟨a, rfl, ⟨xs, .inl (.inl e)⟩, k _ _ H1 q E1 k1 (wk_tup na e r)⟩
def dRng1 (m : DA) : DA := fun σd Q => m σd fun ds => match ds with | [.int j] => (-(2 ^ 62) ≤ j ∧ j < 2 ^ 62) ∧ Q (intsD 0 j.toNat) | _ => False
theorem li_rng1 {n : Nat} {t : TA} {m : DA} (h : LA n t m) : LI (iRng1 t) (dRng1 m) := by
  intro S M H0 H σ σd Qd R E hm k
  refine h S M H0 H σ σd _ _ E hm fun ds vs H1 q E1 k1 r1 _ => ?_
  split at q
  · cases r1 with
    | cons a b =>
      cases b; cases a
      exact ⟨_, rfl, q.1.1, q.1.2, k _ _ H1 q.2 E1 k1 wk_rng⟩
  · exact q.elim
def dRng2 (m : DA) : DA := fun σd Q => m σd fun ds => match ds with | [.int i, .int j] => (-(2 ^ 62) ≤ i ∧ i < 2 ^ 62 ∧ -(2 ^ 62) ≤ j ∧ j < 2 ^ 62) ∧ Q (intsD i (j - i).toNat) | _ => False
theorem li_rng2 {n : Nat} {t : TA} {m : DA} (h : LA n t m) : LI (iRng2 t) (dRng2 m) := by
  intro S M H0 H σ σd Qd R E hm k
  refine h S M H0 H σ σd _ _ E hm fun ds vs H1 q E1 k1 r1 _ => ?_
  split at q
  · cases r1 with
    | cons a b =>
      cases b with
      | cons b c =>
        cases c; cases a; cases b
        exact ⟨_, _, rfl, q.1, k _ _ H1 q.2 E1 k1 wk_rng⟩
  · exact q.elim
def zipD (xs ys : List D) : List D := List.zipWith (fun x y => .tuple [x, y]) xs ys
def dZip (m : DA) : DA := fun σd Q => m σd fun ds => match ds with | [.list xs, .list ys] => Q (zipD xs ys) | _ => False
theorem li_zip {K : PySem.W.Frag} {n : Nat} {t : TA} {m : DA} (h : LA n t m) : LI (iZip K t) (dZip m) := by
  intro S M H0 H σ σd Qd R E hm k
  refine h S M H0 H σ σd _ _ E hm fun ds vs H1 q E1 k1 r1 _ => ?_
  split at q
  · rename_i ds es
    cases r1 with
    | cons a b =>
      cases b with
      | cons b c =>
        cases c
        cases a with
        | @lst p xs _ na ea ra =>
        cases b with
        | @lst q' ys _ nb eb rb =>
        have hl : (zipD ds es).length = min xs.length ys.length := by simp [zipD, ra.length, rb.length]
        refine ⟨p, q', xs, ys, rfl, .inl (.inl ea), .inl (.inl eb), k _ _ H1 q E1 k1 ⟨_, _, walk_zip hl, fun H2 st => ⟨.inl (.inl (st.k _ _ na ea)), .inl (.inl (st.k _ _ nb eb))⟩, fun i H2 x H3 hi st y => ?_⟩⟩
        obtain ⟨T, x1, y1, e1, hT, e3, hx, hy⟩ := y
        subst e1; subst e3
        have sm := Same.upd (o := .tup [x1, y1]) hT
        refine ⟨sm, fun M' h1 h2 => ?_⟩
        obtain ⟨d, hd, qd⟩ := ra.getV hx
        obtain ⟨e, he, qe⟩ := rb.getV hy
        have g : ∀ b o, ¬ MO M σd b → H1 b = some o → ¬ M' b ∧ (upd H2 T (.tup [x1, y1]) b = some o ∨ ∃ ps ps', o = .tbl ps ∧ upd H2 T (.tup [x1, y1]) b = some (.tbl ps')) := fun b o n eb => ⟨h2 b o n eb, (st b o n eb).imp (sm b o) fun ⟨ps, ps', q1, q2⟩ => ⟨ps, ps', q1, sm _ _ q2⟩⟩
        refine ⟨.tuple [d, e], by simp [zipD, List.getElem?_zipWith, hd, he], .tup (fun z => h1 T z hT) upd_same (.cons (qd.goT g) (.cons (qe.goT g) .nil))⟩
  · exact q.elim

/-! ### for -/
def dFor (mi : DA) (g : DG) (mb : DS) : DS := fun Dd σd => mi σd fun ys => ∃ W : Nat → DSt → Prop, W 0 σd ∧ (∀ i y σ', ys[i]? = some y → W i σ' → g y σ' fun σ2 => mb { Dd with nx := W (i + 1), ct := W (i + 1), bk := Dd.nx } σ2) ∧ ∀ σ', W ys.length σ' → Dd.nx σ'
theorem keep_unless {S : Sr} {M : Addr → Prop} {H0 H H' : Hp} {σ : L2.St} {σd : DSt} (E : Ev S M H0 H σ σd) (k : KeepS S (less H σd) H') : KeepS S H0 H' := fun a o e n => by
  have l : less H σd a = H a := less_ne (fun ⟨ds, z⟩ => absurd (E.new a ds z) (by rw [e]; exact fun y => (nomatch y)))
  rcases E.keep a o e n with q | ⟨ps, ps', q1, q2⟩
  · exact k a o (by rw [l, q]) n
  · rcases k a _ (by rw [l, q2]) n with q | ⟨_, qs, _, q⟩
    · exact .inr ⟨ps, ps', q1, q⟩
    · exact .inr ⟨ps, qs, q1, q⟩
theorem ls_for {wi : TI} {g : TG} {tb : TS} {mi : DA} {dg : DG} {mb : DS} (hi : LI wi mi) (hg : LG g dg) (hb : LS Wx tb mb) : LS Wx (tFor wi g tb) (dFor mi dg mb) := by
  intro S M H0 H σ σd Dd Dn E hm r
  refine hi S M H0 H σ σd _ _ E hm fun ys J H1 q E1 k1 wk => ?_
  obtain ⟨G, Y, w, hG, hY⟩ := wk.ex
  obtain ⟨W, w0, wt, wd⟩ := q
  have st : ∀ {H2 σ' σd'}, Ev S M (less H1 σd) H2 σ' σd' → Stands (MO M σd) H1 H2 := fun E2 a o n e => E1.unKeep E2 n e
  refine for_it w (fun i σ' H2 => ∃ σd', W i σd' ∧ Ev S M (less H1 σd) H2 σ' σd') ⟨σd, w0, E1.based⟩ (fun i σ' H2 _ ⟨σd', _, E2⟩ => hG H2 (st E2)) ?_ ?_
  · rintro i x σ' H2 H3 hi' ⟨σd', wi', E2⟩ y
    obtain ⟨sm, hd⟩ := hY i H2 x H3 hi' (st E2) y
    have E3 := E2.same sm
    obtain ⟨d, hd1, hd2⟩ := hd (MO M σd') E2.mtO fun a o n e => E1.ownOld E2 n e
    refine hg S M (less H1 σd) H3 σ' σd' x d _ _ E3 hd2 (wt i d σd' hd1 wi') fun σd2 σ2 q2 E4 => ?_
    refine hb S M (less H1 σd) H3 σ2 σd2 _ _ E4 q2 ⟨fun a b c q E => ⟨a, q, E⟩, fun d v H' q k s m r' => r.2.1 d v H' q (keep_unless E1 k) s m r', fun a b c q E => r.1 a b c q (E1.unbased E), fun a b c q E => ⟨a, q, E⟩, fun e a b c q E => r.2.2.2.2 e a b c q (E1.unbased E)⟩
  · rintro σ' H2 ⟨σd', w', E2⟩
    exact r.1 _ _ _ (wd σd' w') (E1.unbased E2)

/-! ### list comprehensions -/
/-- a target sets the block's own slots alone -/
def Sets (g : TG) (vs : List Nat) : Prop := ∀ (v : V) (σ : L2.St) (H : Hp) (Q Q' : L2.St → Hp → Prop), g v σ H Q → (∀ σ' H', Q σ' H' → wipe σ' vs = wipe σ vs → Q' σ' H') → g v σ H Q'
def SetsS (g : TGs) (vs : List Nat) : Prop := ∀ (us : List V) (σ : L2.St) (H : Hp) (Q Q' : L2.St → Hp → Prop), g us σ H Q → (∀ σ' H', Q σ' H' → wipe σ' vs = wipe σ vs → Q' σ' H') → g us σ H Q'
theorem wipe_set {i : Nat} {x : Option V} : ∀ {vs : List Nat} (σ : L2.St), i ∈ vs → wipe (σ.set i x) vs = wipe σ vs
  | [], σ, h => by simp at h
  | v :: vs, σ, h => by
    unfold wipe
    by_cases e : v = i
    · subst e
      by_cases hm : v ∈ vs
      · rw [wipe_set σ hm]
      · have c : wipe (σ.set v x) vs = (wipe σ vs).set v x := by
          clear h
          induction vs with
          | nil => rfl
          | cons u us ih =>
            simp only [List.mem_cons, not_or] at hm
            show (wipe (σ.set v x) us).set u none = ((wipe σ us).set u none).set v x
            rw [ih hm.2, List.set_comm _ _ hm.1]
        rw [c, List.set_set]
    · rw [wipe_set σ ((List.mem_cons.mp h).resolve_left fun z => e z.symm)]
theorem wipe_wipe {vs : List Nat} (σ : L2.St) : ∀ {us : List Nat}, (∀ u ∈ us, u ∈ vs) → wipe (wipe σ us) vs = wipe σ vs
  | [], _ => rfl
  | u :: us, h => by
    show wipe ((wipe σ us).set u none) vs = _
    rw [wipe_set _ (h u (by simp)), wipe_wipe σ fun x hx => h x (by simp [hx])]
theorem sets_name {i : Nat} {vs : List Nat} (h : i ∈ vs) : Sets (gName i) vs := fun v σ H Q Q' q k => k _ _ q (wipe_set σ h)
theorem sets_nil {vs : List Nat} : SetsS gNil vs := fun us σ H Q Q' q k => ⟨q.1, k _ _ q.2 rfl⟩
theorem sets_cons {gs : TGs} {vs : List Nat} {i : Nat} (hi : i ∈ vs) (h : SetsS gs vs) : SetsS (gCons (gName i) gs) vs := by
  rintro us σ H Q Q' ⟨v, r, e, q⟩ k
  refine ⟨v, r, e, ?_⟩
  exact h r (σ.set i (some v)) H Q Q' q fun σ' H' q' z => k σ' H' q' (z.trans (wipe_set σ hi))
theorem sets_tup {K : PySem.W.Frag} {n : Nat} {gs : TGs} {vs : List Nat} (h : SetsS gs vs) : Sets (gTup K n gs) vs := fun v σ H Q Q' ⟨a, xs, e, s, l, q⟩ k => ⟨a, xs, e, s, l, h xs σ H Q Q' q k⟩
def dwipe (σd : DSt) : List Nat → DSt
  | [] => σd
  | v :: vs => (dwipe σd vs).set v .emp
theorem Ev.drop {S : Sr} {M : Addr → Prop} {H0 H : Hp} {σ : L2.St} {σd : DSt} (E : Ev S M H0 H σ σd) (i : Nat) : Ev S M H0 H (σ.set i none) (σd.set i .emp) := by
  have sub : ∀ a, MO M (σd.set i .emp) a → MO M σd a := fun a h => by
    rcases h with h | ⟨ds, h⟩
    · exact .inl h
    · rcases List.mem_or_eq_of_mem_set h with h | h
      · exact .inr ⟨ds, h⟩
      · cases h
  have g : ∀ a o, ¬ MO M σd a → H a = some o → ¬ MO M (σd.set i .emp) a ∧ H a = some o := fun a o n e => ⟨fun z => n (sub a z), e⟩
  have ow : ∀ {j : Nat} {a : Addr} {ds : List D}, (σd.set i .emp)[j]? = some (Sl.own a ds) → σd[j]? = some (Sl.own a ds) := fun {j a ds} h => by
    rw [List.getElem?_set] at h
    split at h
    · first
        | cases h
        | (split at h <;> cases h)
    · exact h
  refine ⟨by rw [List.length_set, List.length_set]; exact E.len, fun j o s h1 h2 => ?_, fun j k a ds es h1 h2 => E.uni j k a ds es (ow h1) (ow h2), fun a ds h => ?_, E.src, E.src0, E.keep, E.mt, E.mt0⟩
  · rw [List.getElem?_set] at h1 h2
    by_cases hj : i = j
    · rw [if_pos hj] at h1 h2
      split at h2
      · cases h2; trivial
      · cases h2
    · rw [if_neg hj] at h1 h2
      have z := E.sl j o s h1 h2
      cases s with
      | emp => trivial
      | val d => obtain ⟨w, e, q⟩ := z; exact ⟨w, e, q.go g⟩
      | own a ds => obtain ⟨e, xs, h, q⟩ := z; exact ⟨e, xs, h, q.go g⟩
  · rcases List.mem_or_eq_of_mem_set h with h | h
    · exact E.new a ds h
    · cases h
theorem Ev.wipe {S : Sr} {M : Addr → Prop} {H0 H : Hp} {σ : L2.St} {σd : DSt} (E : Ev S M H0 H σ σd) : ∀ vs, Ev S M H0 H (L2.wipe σ vs) (dwipe σd vs)
  | [] => E
  | v :: vs => (E.wipe vs).drop v
end PH

/-! The list comprehension's rule, and the rules of loops for expressions and statements. -/
namespace PH
open PySem PySem.Spec L2
open PyProof.Rows (envOfC)

section
variable {S : Sr} {M M' : Addr → Prop} {H0 H H1 H2 : Hp} {σ : L2.St} {σd : DSt}
theorem Ev.remakeT (E : Ev S M H0 H1 σ σd) (g : ∀ a o, ¬ MO M σd a → H1 a = some o → ¬ MO M' σd a ∧ (H2 a = some o ∨ ∃ ps ps', o = .tbl ps ∧ H2 a = some (.tbl ps'))) (ho : ∀ a ds, Sl.own a ds ∈ σd → H2 a = H1 a ∧ ¬ M' a)
    (src : SrcOk S M' H2) (mt : ∀ a, M' a → H2 a ≠ none) : Ev S M' (less H2 σd) H2 σ σd := by
  have no : ∀ a, M' a → ¬ ∃ ds, Sl.own a ds ∈ σd := fun a h ⟨ds, z⟩ => (ho a ds z).2 h
  refine ⟨E.len, fun i o s h1 h2 => ?_, E.uni, fun a ds h => less_own h, src, fun p c e => ?_, fun a o e _ => .inl (less_some e).1, mt, fun a h => ?_⟩
  · have z := E.sl i o s h1 h2
    cases s with
    | emp => trivial
    | val d => obtain ⟨w, e, q⟩ := z; exact ⟨w, e, q.goT g⟩
    | own a ds => obtain ⟨e, xs, h, q⟩ := z; exact ⟨e, xs, by rw [(ho a ds (List.mem_of_getElem? h2)).1]; exact h, q.goT g⟩
  · obtain ⟨h1, h2, _⟩ := src.go p c e
    exact ⟨by rw [less_ne (no p h1)]; exact mt p h1, by rw [less_ne (no c h2)]; exact mt c h2⟩
  · rw [less_ne (no a h)]; exact mt a h
theorem Ev.remake (E : Ev S M H0 H1 σ σd) (g : ∀ a o, ¬ MO M σd a → H1 a = some o → ¬ MO M' σd a ∧ H2 a = some o) (ho : ∀ a ds, Sl.own a ds ∈ σd → H2 a = H1 a ∧ ¬ M' a)
    (src : SrcOk S M' H2) (mt : ∀ a, M' a → H2 a ≠ none) : Ev S M' (less H2 σd) H2 σ σd := E.remakeT (fun a o n e => ⟨(g a o n e).1, .inl (g a o n e).2⟩) ho src mt
/-- own slots out of sight -/
def Sl.clean : Sl → Sl
  | .own _ _ => .emp
  | s => s
def clean (σd : DSt) : DSt := σd.map Sl.clean
theorem clean_no {a : Addr} {ds : List D} : Sl.own a ds ∉ clean σd := fun h => by
  obtain ⟨s, _, e⟩ := List.mem_map.mp h
  cases s <;> cases e
theorem MO_clean {M : Addr → Prop} {a : Addr} : MO M (clean σd) a ↔ M a := ⟨fun h => h.elim id fun ⟨ds, z⟩ => absurd z clean_no, .inl⟩
theorem Ev.clean (E : Ev S M H0 H σ σd) : Ev S (MO M σd) (fun a => H a) H σ (PH.clean σd) := by
  have src : SrcOk S (MO M σd) H := E.src.more fun _ z => .inl z
  refine ⟨by unfold PH.clean; rw [List.length_map]; exact E.len, fun i o s h1 h2 => ?_, fun i j a ds es h1 _ => absurd (List.mem_of_getElem? h1) clean_no, fun a ds h => absurd h clean_no, src, fun p c e => ?_, .refl, E.mtO, E.mtO⟩
  · unfold PH.clean at h2
    rw [List.getElem?_map] at h2
    cases q : σd[i]? with
    | none => rw [q] at h2; cases h2
    | some s' =>
      rw [q] at h2
      have z := E.sl i o s' h1 q
      cases s' with
      | emp => cases h2; trivial
      | own a ds => cases h2; trivial
      | val d =>
        cases h2
        obtain ⟨v, e, r⟩ := z
        exact ⟨v, e, r.go fun a o n e => ⟨fun y => n (MO_clean.mp y), e⟩⟩
  · obtain ⟨h1, h2, _⟩ := src.go p c e
    exact ⟨E.mtO p h1, E.mtO c h2⟩
theorem fresh_back (E : Ev S M H0 H σ σd) (k : KeepS S H H1) {p : Addr} (hp : H1 p = none) (src : SrcOk S M H1) : H p = none := by
  cases z : H p with
  | none => rfl
  | some o =>
    by_cases w : ∃ p' c', S = some (p', c') ∧ (p = p' ∨ p = c')
    · obtain ⟨p', c', q1, q2⟩ := w
      obtain ⟨_, _, _, ns, l, mm, tt, h1, h2⟩ := src.go p' c' q1
      rcases q2 with q2 | q2
      · rw [← q2, hp] at h2; cases h2
      · rw [← q2, hp] at h1; cases h1
    · exact absurd hp (k.nn (by rw [z]; exact fun y => nomatch y) fun p' c' q1 => ⟨fun y => w ⟨p', c', q1, .inl y⟩, fun y => w ⟨p', c', q1, .inr y⟩⟩)
end
theorem dwipe_no {σd : DSt} {a : Addr} {es : List D} : ∀ {vs : List Nat}, Sl.own a es ∉ dwipe (clean σd) vs
  | [], h => clean_no h
  | v :: vs, h => by
    unfold dwipe at h
    rcases List.mem_or_eq_of_mem_set h with h | h
    · exact dwipe_no h
    · cases h
/-- a comprehension, by an invariant of what is made so far; own lists are out of sight in its parts -/
def dLcc (mi : DA) (g : DG) (mt : DT) (me : DE) (vs : List Nat) : DA := fun σd Q => mi σd fun ys => ys.length ≤ 1000000 ∧ ∃ W : Nat → List D → Prop, W 0 [] ∧
  (∀ i y acc, ys[i]? = some y → acc.length ≤ i → W i acc → g y (dwipe (clean σd) vs) fun σ2 => mt σ2 fun b => if b = true then me σ2 fun z => W (i + 1) (acc ++ [z]) else W (i + 1) acc) ∧ ∀ acc, W ys.length acc → Q acc
theorem ln_lc {wi : TI} {g : TG} {tt : TT} {te : TE} {vs : List Nat} {mi : DA} {dg : DG} {mt : DT} {me : DE} (hi : LI wi mi) (hg : LG g dg) (sg : Sets g vs) (ht : LT tt mt) (he : LE te me) : LN (tLc wi g tt te vs) (dLcc mi dg mt me vs) := by
  intro S M H0 H σ σd Qd Q E hm k
  refine hi S M H0 H σ σd _ _ E hm fun ys J H1 q E1 k1 wk => ?_
  obtain ⟨G, Y, w, hG, hY⟩ := wk.ex
  obtain ⟨hl, W, w0, wt, wd⟩ := q
  intro Dl hD
  have nown : ∀ a ds, Sl.own a ds ∈ σd → a ≠ Dl := fun a ds z y => by
    subst y
    obtain ⟨i, hi⟩ := List.getElem?_of_mem z
    obtain ⟨o, _, _, xs, e, _⟩ := E1.slot hi
    rw [hD] at e; cases e
  have nsrc : ∀ p c, S = some (p, c) → p ≠ Dl ∧ c ≠ Dl := fun p c e => by
    obtain ⟨_, _, _, ns, l, m, t, h1, h2⟩ := E1.src.go p c e
    exact ⟨ne_of_none h2 hD, ne_of_none h1 hD⟩
  let M' : Addr → Prop := fun a => M a ∨ a = Dl
  have moS : ∀ a, MO M' σd a → MO M σd a ∨ a = Dl := fun a h => by
    rcases h with (h | h) | h
    · exact .inl (.inl h)
    · exact .inr h
    · exact .inl (.inr h)
  have moT : ∀ a, (MO M σd a ∨ a = Dl) → MO M' σd a := fun a h => by
    rcases h with (h | h) | h
    · exact .inl (.inl h)
    · exact .inr h
    · exact .inl (.inr h)
  let Pv : Nat → Hp → Prop := fun i H2 => ∃ (acc : List V) (ds : List D), H2 Dl = some (.lst acc) ∧ Dqs S (MO M' σd) H2 acc ds ∧ W i ds ∧ ds.length ≤ i ∧ (∃ Hb, Ev S M' Hb H2 σ σd) ∧ KeepS S H1 H2
  have st : ∀ {i H2}, Pv i H2 → Stands (MO M σd) H1 H2 := fun {i H2} ⟨_, _, _, _, _, _, _, kk⟩ a o n e => kk a o e fun p c z => by
    obtain ⟨hp, hc, _⟩ := E1.src.go p c z
    exact ⟨fun y => n (.inl (y ▸ hp)), fun y => n (.inl (y ▸ hc))⟩
  refine lc_it w Pv ?_ (fun i H2 _ p => hG H2 (st p)) ?_ ?_
  · refine ⟨[], [], upd_same, .nil, w0, Nat.le_refl _, ⟨_, E1.remake (M' := M') (H2 := upd H1 Dl (.lst [])) (fun a o n e => ?_) (fun a ds z => ?_) ⟨fun p c e => ?_, E1.src.tab.ext (Same.upd hD)⟩ (fun a h => ?_)⟩, .of (Same.upd hD)⟩
    · exact ⟨fun z => (moS a z).elim n fun y => ne_of_none e hD y, by rw [upd_ne (ne_of_none e hD)]; exact e⟩
    · exact ⟨upd_ne (nown a ds z), fun y => y.elim (E1.ownM z) (nown a ds z)⟩
    · obtain ⟨h1, h2, h3, ns, l, m, t, h4, h5⟩ := E1.src.go p c e
      exact ⟨.inl h1, .inl h2, h3, ns, l, m, t, by rw [upd_ne (nsrc p c e).2]; exact h4, by rw [upd_ne (nsrc p c e).1]; exact h5⟩
    · rcases h with h | h
      · by_cases y : a = Dl
        · rw [y, upd_same]; exact fun z => (nomatch z)
        · rw [upd_ne y]; exact E1.mt a h
      · rw [h, upd_same]; exact fun z => (nomatch z)
  · intro i x H2 H3 hi' pv yy
    have stp := st pv
    obtain ⟨acc, ds, hacc, racc, wi', hle, ⟨Hb, E2⟩, kk⟩ := pv
    obtain ⟨sm, hd⟩ := hY i H2 x H3 hi' stp yy
    have EC := (E2.clean.wipe vs)
    have EC3 := EC.same sm
    have mocl : ∀ a, MO (MO M' σd) (dwipe (clean σd) vs) a → MO M' σd a := fun a h => by
      rcases h with h | ⟨es, h⟩
      · exact h
      · exact absurd h dwipe_no
    obtain ⟨d, hd1, hd2⟩ := hd (MO (MO M' σd) (dwipe (clean σd) vs)) (fun a h => E2.mtO a (mocl a h)) fun a o n e z => by
      rcases moS a (mocl a z) with y | y
      · exact n y
      · exact ne_of_none e hD y
    have wt1 := wt i d ds hd1 hle wi'
    refine sg x (wipe σ vs) H3 (fun σ2 Hx => Hx = H3 ∧ ∃ σd2, Ev S (MO M' σd) H2 H3 σ2 σd2 ∧ mt σd2 fun b => if b = true then me σd2 fun z => W (i + 1) (ds ++ [z]) else W (i + 1) ds) _
      (hg S (MO M' σd) H2 H3 _ _ x d _ _ EC3 hd2 wt1 fun σd2 σ2 q2 E4 => ⟨rfl, σd2, E4, q2⟩) ?_
    rintro σ2 Hx ⟨rfl, σd2, E4, q2⟩ hw
    have E2x := E2.same sm
    refine ⟨hw.trans (wipe_wipe σ fun _ h => h), ht S (MO M' σd) H2 Hx σ2 σd2 _ _ E4 q2 fun b H5 q5 E5 k5 => ?_⟩
    have src5 : ∀ {Hy}, SrcOk S (MO M' σd) Hy → SrcOk S M' Hy := fun {Hy} s => E2.src.at s
    have ne : ∀ p c, S = some (p, c) → Dl ≠ p ∧ Dl ≠ c := fun p c e => ⟨(nsrc p c e).1.symm, (nsrc p c e).2.symm⟩
    cases b with
    | false =>
      have q6 : W (i + 1) ds := by simpa using q5
      have E6 := E2x.ext k5 (src5 E5.src)
      show Pv (i + 1) H5
      exact ⟨acc, ds, k5.k _ _ (sm _ _ hacc) ne, E2x.dqs k5 (E2.dqs (.of sm) racc), q6, Nat.le_succ_of_le hle, ⟨_, E6⟩, (kk.trans (.of sm)).trans k5⟩
    | true =>
      have q6 : me σd2 fun z => W (i + 1) (ds ++ [z]) := by simpa using q5
      show te σ2 H5 _
      refine he S (MO M' σd) H2 H5 σ2 σd2 _ _ E5 q6 fun z v H6 q7 E6 k6 r6 => ?_
      have e6 : H6 Dl = some (.lst acc) := k6.k _ _ (k5.k _ _ (sm _ _ hacc) ne) ne
      have r6' : Dqs S (MO M' σd) H6 acc ds := (E2x.ext k5 (src5 E5.src)).dqs k6 (E2x.dqs k5 (E2.dqs (.of sm) racc))
      have E7 := (E2x.ext k5 (src5 E5.src)).ext k6 (src5 E6.src)
      refine ⟨acc, e6, ?_, ?_⟩
      · rw [racc.length, sizeLine_eq]; omega
      · have moDl : MO M' σd Dl := .inl (.inr rfl)
        have go : ∀ a o, ¬ MO M' σd a → H6 a = some o → ¬ MO M' σd a ∧ upd H6 Dl (.lst (acc ++ [v])) a = some o := fun a o n e => ⟨n, by rw [upd_ne (fun y : a = Dl => n (y ▸ moDl))]; exact e⟩
        have rv : Dq S (MO M' σd) H6 v z := r6.go fun a o n e => ⟨fun y => n (.inl y), e⟩
        refine ⟨acc ++ [v], ds ++ [z], upd_same, (r6'.append (.cons rv .nil)).go go, q7, by simp; omega, ⟨_, E7.remake (M' := M') (H2 := upd H6 Dl (.lst (acc ++ [v]))) go (fun a es y => ?_) ⟨fun p c e => ?_, tabs_upd E7.src.tab e6⟩ (fun a h => ?_)⟩, ?_⟩
        · exact ⟨upd_ne (nown a es y), fun y' => y'.elim (E1.ownM y) (nown a es y)⟩
        · obtain ⟨h1, h2, h3, ns, l, m, t, h4, h5⟩ := E7.src.go p c e
          exact ⟨h1, h2, h3, ns, l, m, t, by rw [upd_ne (nsrc p c e).2]; exact h4, by rw [upd_ne (nsrc p c e).1]; exact h5⟩
        · by_cases y : a = Dl
          · rw [y, upd_same]; exact fun z => (nomatch z)
          · rw [upd_ne y]; exact E7.mt a h
        · have kx := ((kk.trans (.of sm)).trans k5).trans k6
          exact fun a o e n => by rw [upd_ne (ne_of_none e hD)]; exact kx a o e n
  · rintro H2 ⟨acc, ds, hacc, racc, wi', hle, ⟨Hb, E2⟩, kk⟩
    have src2 : SrcOk S M H2 := E1.src.at E2.src
    exact k ds Dl acc H2 (wd ds wi') (E1.ext kk src2) (k1.trans kk) (fresh_back E k1 hD E1.src) hacc (racc.go fun a o n e => ⟨fun z => n (moT a z), e⟩)
end PH

/-! Rules of loops and comprehensions by Python's constructs; more of lists. -/
namespace PH
open PySem PySem.Spec L2
open PyProof.Rows (envOfC)
variable {Wx : WX}

section
variable {X : Cx} {e a b iter tg elt : Expr} {es : List Expr} {pos : Pos} {m ma mb : DE} {md : DA} {n : Nat}
def PDI (X : Cx) (tg iter : Expr) (mi : DA) : Prop := ∃ wi, PI X tg iter wi ∧ LI wi mi
theorem pdi_list (h : PD X e m) : PDI X tg e (dItL m) := let ⟨_, h1, l1⟩ := h; ⟨_, pi_list h1, li_list (K := X.K) l1⟩
theorem pdi_tup (h : PD X e m) : PDI X tg e (dItT m) := let ⟨_, h1, l1⟩ := h; ⟨_, pi_tup h1, li_tup (K := X.K) l1⟩
theorem pdi_rng1 {p : Pos} (hg : Gl X "range") (hm : X.mg "range" = none) (ha : PDA X [a] n md) (hs : starEach [a] X.env = [(false, eval a X.env)] := by rfl) : PDI X tg (.Call (.Name "range" p) [a] [] pos) (dRng1 md) :=
  let ⟨_, h1, l1⟩ := ha; ⟨_, pi_range1 hg hm h1 hs, li_rng1 l1⟩
theorem pdi_zip {p tpos : Pos} {elts : List Expr} {kk : Nat} (hg : Gl X "zip") (hm : X.mg "zip" = none) (ha : PDA X [a, b] n md) (hs : starEach [a, b] X.env = (false, eval a X.env) :: starEach [b] X.env := by rfl) (hpl : (backTo pos (starEach [b] X.env)).any (·.1) = false := by rfl) :
    PDI X (.Tuple elts kk tpos) (.Call (.Name "zip" p) [a, b] [] pos) (dZip md) := let ⟨_, h1, l1⟩ := ha; ⟨_, pi_zip hg hm h1 hs hpl, li_zip (K := X.K) l1⟩
theorem psd_for {body : List Stmt} {mi : DA} {g : DG} {mbd : DS} (hp : PassesOwn (model X.prog X.w) X.A X.env X.xe) (hc : X.calm = true) (hi : PDI X tg iter mi) (hg : PDG X tg g) (hb : PDSs Wx X body mbd) (hs : ∀ x, foldedSetIterable iter X.env x = pure x := by intro _; rfl) :
    PDS Wx X (.For tg iter body [] pos) (dFor mi g mbd) := let ⟨_, h1, l1⟩ := hi; let ⟨_, h2, l2⟩ := hg; let ⟨_, h3, l3⟩ := hb; ⟨_, ps_for hp hc h1 h2 h3 hs, ls_for l1 l2 l3⟩
/-! while -/
def dWhile (c : DT) (mb : DS) : DS := fun Dd σd => ∃ W : Nat → DSt → Prop, (∃ k, W k σd) ∧ ∀ k σ', W k σ' → c σ' fun b => if b = true then mb { Dd with nx := fun σ2 => ∃ k', k' < k ∧ W k' σ2, ct := fun σ2 => ∃ k', k' < k ∧ W k' σ2, bk := Dd.nx } σ' else Dd.nx σ'
theorem ls_while {c : TT} {tb : TS} {dc : DT} {mb : DS} (hc : LT c dc) (hb : LS Wx tb mb) : LS Wx (tWhile c tb) (dWhile dc mb) := by
  intro S M H0 H σ σd Dd Dn E hm r
  obtain ⟨W, ⟨k0, w0⟩, turn⟩ := hm
  refine ⟨fun k σ' H2 => ∃ σ2, W k σ2 ∧ Ev S M H0 H2 σ' σ2, ⟨k0, σd, w0, E⟩, ?_⟩
  rintro k σ' H2 ⟨σ2, w2, E2⟩
  refine hc S M H0 H2 σ' σ2 _ _ E2 (turn k σ2 w2) fun b H3 q E3 k3 => ?_
  cases b with
  | false => exact r.1 _ _ _ (by simpa using q) E3
  | true =>
    show ∃ N : L2.St → Hp → Prop, _
    refine ⟨fun σ4 H4 => ∃ σ5, (∃ k', k' < k ∧ W k' σ5) ∧ Ev S M H0 H4 σ4 σ5, fun σ4 H4 ⟨σ5, ⟨k', hk, w⟩, E5⟩ => ⟨k', hk, σ5, w, E5⟩, ?_⟩
    rw [if_pos rfl] at q
    exact hb S M H0 H3 σ' σ2 _ _ E3 q ⟨fun a b c q E => ⟨a, q, E⟩, r.2.1, fun a b c q E => r.1 a b c q E, fun a b c q E => ⟨a, q, E⟩, r.2.2.2.2⟩
theorem psd_while {c : Expr} {body : List Stmt} {dc : DT} {mbd : DS} (hp : PassesOwn (model X.prog X.w) X.A X.env X.xe) (hc : PDT X c dc) (hb : PDSs Wx X body mbd) : PDS Wx X (.While c body [] pos) (dWhile dc mbd) :=
  let ⟨_, h1, l1⟩ := hc; let ⟨_, h2, l2⟩ := hb; ⟨_, ps_while hp h1 h2, ls_while l1 l2⟩
/-! comprehensions -/
theorem lt_yes : LT tYes (fun _ Q => Q true) := fun S M H0 H σ σd Qd Q E h k => k true H h E .refl
def dYes : DT := fun _ Q => Q true
theorem pdn_lc {scope : Scope} {own : List (Str × Nat)} {mi : DA} {g : TG} {dg : DG} {me : DE} (hc : X.calm = true) (hN : X.N.Nodup) (hi : PDI X tg iter mi) (ok : blkC X.N X.env.scope scope own = true)
    (hg : ∀ (s : Shared) (H : Hp) (C : Addr) (cl : List (Str × Addr)) (fp : List Addr), PG (X.blk s H scope (compEnvC scope cl C X.env) fp) tg g) (lg : LG g dg) (sg : Sets g (own.map (·.2)))
    (he : ∀ (s : Shared) (H : Hp) (C : Addr) (cl : List (Str × Addr)) (fp : List Addr), PD (X.blk s H scope (compEnvC scope cl C X.env) fp) elt me) (hs : ∀ x, foldedSetIterable iter X.env x = pure x := by intro _; rfl) :
    PDN X (.ListComp elt [⟨tg, iter, [], 0⟩] scope pos) (dLcc mi dg dYes me (own.map (·.2))) :=
  let ⟨_, h1, l1⟩ := hi; ⟨_, pe_lc hc hN h1 (blkOk_by ok) hg (fun _ _ _ _ _ => pts_nil) (fun s H C cl fp => (he s H C cl fp).pe) hs, ln_lc l1 lg sg lt_yes le_of⟩
theorem pdn_lci {c : Expr} {scope : Scope} {own : List (Str × Nat)} {mi : DA} {g : TG} {dg : DG} {mt : DT} {me : DE} (hc : X.calm = true) (hN : X.N.Nodup) (hi : PDI X tg iter mi) (ok : blkC X.N X.env.scope scope own = true)
    (hg : ∀ (s : Shared) (H : Hp) (C : Addr) (cl : List (Str × Addr)) (fp : List Addr), PG (X.blk s H scope (compEnvC scope cl C X.env) fp) tg g) (lg : LG g dg) (sg : Sets g (own.map (·.2)))
    (ht : ∀ (s : Shared) (H : Hp) (C : Addr) (cl : List (Str × Addr)) (fp : List Addr), PDT (X.blk s H scope (compEnvC scope cl C X.env) fp) c mt)
    (he : ∀ (s : Shared) (H : Hp) (C : Addr) (cl : List (Str × Addr)) (fp : List Addr), PD (X.blk s H scope (compEnvC scope cl C X.env) fp) elt me) (hs : ∀ x, foldedSetIterable iter X.env x = pure x := by intro _; rfl) :
    PDN X (.ListComp elt [⟨tg, iter, [c], 0⟩] scope pos) (dLcc mi dg mt me (own.map (·.2))) :=
  let ⟨_, h1, l1⟩ := hi; ⟨_, pe_lc hc hN h1 (blkOk_by ok) hg (fun s H C cl fp => pts_one (ht s H C cl fp).pt) (fun s H C cl fp => (he s H C cl fp).pe) hs, ln_lc l1 lg sg lt_ofT le_of⟩
/-- y = [..], never changed -/
theorem psd_setLc {i : Nat} {y : Str} {py spos : Pos} {scope : Scope} {own : List (Str × Nat)} {mi : DA} {g : TG} {dg : DG} {me : DE} (hc : X.calm = true) (hN : X.N.Nodup) (hy : X.N[i]? = some y) (hyl : X.env.scope.names.lookup y = some .local)
    (hsw : swapsWith (.ListComp elt [⟨tg, iter, [], 0⟩] scope pos) (some (.Name y py)) spos.line X.env = pure true) (hi : PDI X tg iter mi) (ok : blkC X.N X.env.scope scope own = true)
    (hg : ∀ (s : Shared) (H : Hp) (C : Addr) (cl : List (Str × Addr)) (fp : List Addr), PG (X.blk s H scope (compEnvC scope cl C X.env) fp) tg g) (lg : LG g dg) (sg : Sets g (own.map (·.2)))
    (he : ∀ (s : Shared) (H : Hp) (C : Addr) (cl : List (Str × Addr)) (fp : List Addr), PD (X.blk s H scope (compEnvC scope cl C X.env) fp) elt me) (hs : ∀ x, foldedSetIterable iter X.env x = pure x := by intro _; rfl) :
    PDS Wx X (.Assign [.Name y py] (.ListComp elt [⟨tg, iter, [], 0⟩] scope pos) spos) (dAsg (dLst (dLcc mi dg dYes me (own.map (·.2)))) (dgName i)) :=
  let ⟨_, h1, l1⟩ := hi; ⟨_, ps_setLc hc hN hy hyl hsw h1 (blkOk_by ok) hg (fun _ _ _ _ _ => pts_nil) (fun s H C cl fp => (he s H C cl fp).pe) hs, ls_asg (ln_lc l1 lg sg lt_yes le_of).le (lg_name i)⟩
theorem psd_setLcO {i : Nat} {y : Str} {py spos : Pos} {scope : Scope} {own : List (Str × Nat)} {mi : DA} {g : TG} {dg : DG} {me : DE} (hc : X.calm = true) (hN : X.N.Nodup) (hy : X.N[i]? = some y) (hyl : X.env.scope.names.lookup y = some .local)
    (hsw : swapsWith (.ListComp elt [⟨tg, iter, [], 0⟩] scope pos) (some (.Name y py)) spos.line X.env = pure true) (hi : PDI X tg iter mi) (ok : blkC X.N X.env.scope scope own = true)
    (hg : ∀ (s : Shared) (H : Hp) (C : Addr) (cl : List (Str × Addr)) (fp : List Addr), PG (X.blk s H scope (compEnvC scope cl C X.env) fp) tg g) (lg : LG g dg) (sg : Sets g (own.map (·.2)))
    (he : ∀ (s : Shared) (H : Hp) (C : Addr) (cl : List (Str × Addr)) (fp : List Addr), PD (X.blk s H scope (compEnvC scope cl C X.env) fp) elt me) (hs : ∀ x, foldedSetIterable iter X.env x = pure x := by intro _; rfl) :
    PDS Wx X (.Assign [.Name y py] (.ListComp elt [⟨tg, iter, [], 0⟩] scope pos) spos) (dOwn i (dLcc mi dg dYes me (own.map (·.2)))) :=
  let ⟨_, h1, l1⟩ := hi; ⟨_, ps_setLc hc hN hy hyl hsw h1 (blkOk_by ok) hg (fun _ _ _ _ _ => pts_nil) (fun s H C cl fp => (he s H C cl fp).pe) hs, ls_own (ln_lc l1 lg sg lt_yes le_of)⟩
/-! own lists -/
theorem psd_own {i : Nat} {x : Str} {pos' : Pos} (hN : X.N.Nodup) (hi : X.N[i]? = some x) (hx : Loc X.env.scope x) (he : PDN X e md) (hs : swapsWith e (some (.Name x pos')) pos.line X.env = pure false := by rfl)
    (hf : X.fn x = true ∨ X.env.scope.names.lookup x = some .local := by first | exact .inl rfl | exact .inr rfl) : PDS Wx X (.Assign [.Name x pos'] e pos) (dOwn i md) :=
  let ⟨_, h1, l1⟩ := he; ⟨_, ps_set hN hi hx h1 hs hf, ls_own l1⟩
def dFrz (i : Nat) (m : DS) : DS := fun Dd σd => match σd[i]? with
  | some (.own a ds) => m Dd (σd.set i (.val (.list ds)))
  | _ => m Dd σd
theorem ls_frz {t : TS} {i : Nat} {ms : DS} (h : LS Wx t ms) : LS Wx t (dFrz i ms) := by
  intro S M H0 H σ σd Dd Dn E hm r
  unfold dFrz at hm
  split at hm
  · rename_i a ds e
    exact h S M H0 H σ _ Dd Dn (E.frz e) hm r
  · exact h S M H0 H σ σd Dd Dn E hm r
theorem pss_frz {st : List Stmt} {ms : DS} (i : Nat) (h : PDSs Wx X st ms) : PDSs Wx X st (dFrz i ms) := let ⟨_, h1, l1⟩ := h; ⟨_, h1, ls_frz l1⟩
theorem psd_frz {st : Stmt} {ms : DS} (i : Nat) (h : PDS Wx X st ms) : PDS Wx X st (dFrz i ms) := let ⟨_, h1, l1⟩ := h; ⟨_, h1, ls_frz l1⟩
/-- x.append(e), x an own list -/
def dApp (i : Nat) (m : DE) : DS := fun Dd σd => match σd[i]? with
  | some (.own a ds) => ds.length ≤ 1000000 ∧ m σd fun z => Dd.nx (σd.set i (.own a (ds ++ [z])))
  | _ => False
theorem ls_app {K : PySem.W.Frag} {te : TE} {i : Nat} (h : LE te m) : LS Wx (tDrop (tBM K "list" rAppend (tVar i) (tCons te tNil))) (dApp i m) := by
  intro S M H0 H σ σd Dd Dn E hm r
  unfold dApp at hm
  split at hm
  · rename_i a ds e
    obtain ⟨o, e2, e3, xs, hx, rx⟩ := E.slot e
    subst e3
    refine ⟨.ref a, e2, Or.inl ⟨rfl, _, Or.inl (Or.inl hx)⟩, ?_⟩
    refine h S M H0 H σ σd _ _ E hm.2 fun z v H' q E' k' r' => ?_
    have hx' : H' a = some (.lst xs) := k'.k a _ hx (E.ownNe (List.mem_of_getElem? e))
    refine ⟨a, xs, v, rfl, rfl, hx', by rw [rx.length, sizeLine_eq]; have := hm.1; omega, ?_⟩
    exact r.1 _ _ _ q (E'.upd e ((E.dqs k' rx).append (.cons r' .nil)))
  · exact hm.elim
theorem psd_app {x : Str} {px apos cpos : Pos} (i : Nat) (hN : X.N[i]? = some x) (hv : Vis X.env.scope x) (he : PD X e m) (hs : swapsWith (.Call (.Attribute (.Name x px) "append" apos) [e] [] cpos) none pos.line X.env = pure false := by rfl)
    (hd : (x == ("__debug__" : Str)) = false := by decide) (hcd : (x == ("__classdict__" : Str)) = false := by decide)
    (hbase : attributeBase (.Name x px) "append" X.env (eval (.Name x px) X.env) = eval (.Name x px) X.env := by rfl)
    (hfew : ((backTo cpos (starEach [e] X.env)).all (fun x => !x.1) && (backToKw cpos (keywordEach [] X.env)).all (fun x => x.1.isSome)
      && decide (([e] : List Expr).length + ([] : List Keyword).length + (if ([] : List Keyword).isEmpty then 0 else 1) < 30)) = true := by rfl)
    (hline : (apos.endLine == cpos.line) = true := by rfl) (hse : starEach [e] X.env = (false, eval e X.env) :: starEach [] X.env := by rfl) (hpl : (backTo cpos (starEach [] X.env)).any (·.1) = false := by rfl) :
    PDS Wx X (.Expr (.Call (.Attribute (.Name x px) "append" apos) [e] [] cpos) pos) (dApp i m) :=
  let ⟨_, h1, l1⟩ := he
  ⟨_, ps_expr (pe_bm PySem.F.plainAttrs_list PySem.F.slot_list_append PySem.F.type_list_append mt_append (pe_var hN hv hd hcd) (pa_cons h1 pa_nil hse) hbase hfew hline hse hpl) hs, ls_app l1⟩
/-! list + list, list * int -/
def dCat : DR2 := fun x y Q => match x, y with
  | .list xs, .list ys => xs.length + ys.length ≤ 10000000 ∧ Q (.list (xs ++ ys))
  | _, _ => False
theorem lr_cat : LR rCat dCat := by
  intro S M H x y dx dy Qd Q hm rx ry h k
  unfold dCat at h
  split at h
  · cases rx with
    | @lst _ us _ na ea ra =>
    cases ry with
    | @lst _ ws _ nb eb rb =>
    refine ⟨_, _, _, _, rfl, rfl, ea, eb, by rw [ra.length, rb.length, sizeLine_eq]; omega, fun p hp => ?_⟩
    have sm := Same.upd (o := HO.lst (us ++ ws)) hp
    exact k _ _ _ h.2 sm (.lst (fun z => hm p z hp) upd_same ((ra.append rb).go fun a o n e => ⟨n, sm a o e⟩))
  · exact h.elim
theorem pd_cat (ha : PD X a ma) (hb : PD X b mb) : PD X (.BinOp a .Add b pos) (dOp dCat ma mb) := pd_bin op_cat lr_cat ha hb
def repD (k : Nat) (xs : List D) : List D := (List.replicate k xs).flatten
theorem Dqs.flat {S : Sr} {M : Addr → Prop} {H : Hp} {vs : List V} {ds : List D} (r : Dqs S M H vs ds) : ∀ k, Dqs S M H (List.replicate k vs).flatten (List.replicate k ds).flatten
  | 0 => .nil
  | k + 1 => by
    rw [List.replicate_succ, List.replicate_succ, List.flatten_cons, List.flatten_cons]
    exact r.append (Dqs.flat r k)
def dRepL : DR2 := fun x y Q => match x, y with
  | .list xs, .int k => (-(2 ^ 63) ≤ k ∧ k < 2 ^ 63 ∧ xs.length * k.toNat ≤ 10000000) ∧ Q (.list (repD k.toNat xs))
  | _, _ => False
theorem lr_rep : LR rRep dRepL := by
  intro S M H x y dx dy Qd Q hm rx ry h kk
  unfold dRepL at h
  split at h
  · rename_i k
    cases rx with
    | @lst _ us _ na ea ra =>
    cases ry
    refine ⟨_, _, _, rfl, rfl, ea, h.1.1, h.1.2.1, by rw [ra.length, sizeLine_eq]; have := h.1.2.2; omega, fun p hp => ?_⟩
    have sm := Same.upd (o := HO.lst (List.replicate k.toNat us).flatten) hp
    exact kk _ _ _ h.2 sm (.lst (fun z => hm p z hp) upd_same ((ra.flat _).go fun a o n e => ⟨n, sm a o e⟩))
  · exact h.elim
theorem pd_rep (ha : PD X a ma) (hb : PD X b mb) : PD X (.BinOp a .Mult b pos) (dOp dRepL ma mb) := pd_bin op_rep lr_rep ha hb
/-! all, any -/
def boolsD : List D → Option (List Bool)
  | [] => some []
  | .bool b :: r => (boolsD r).map (b :: ·)
  | _ => none
theorem boolsD_vs {S : Sr} {M : Addr → Prop} {H : Hp} : ∀ {vs : List V} {ds : List D} {bs : List Bool}, Dqs S M H vs ds → boolsD ds = some bs → vs = bs.map V.bl
  | _, _, _, .nil, h => by cases h; rfl
  | _, _, _, .cons a r, h => by
    cases a <;> simp only [boolsD] at h <;> try cases h
    obtain ⟨b', h1, h2⟩ := Option.map_eq_some_iff.mp h
    subst h2
    rw [boolsD_vs r h1]; rfl
def dAll : DRC := fun ds Q => match ds with
  | [.list xs] => (match boolsD xs with | some bs => Q (.bool (bs.all id)) | none => False)
  | _ => False
theorem lc_all {K : PySem.W.Frag} : LC (rAll K) dAll := by
  intro S M H xs ds Qd Q hm r h k
  unfold dAll at h
  split at h
  · split at h
    · rename_i bs e
      cases r with
      | cons a b =>
        cases b
        cases a with
        | lst na ea ra => exact ⟨_, bs, rfl, .inl (.inl (by rw [← boolsD_vs ra e]; exact ea)), k _ _ H h (Same.refl _) (.bl _)⟩
    · exact h.elim
  · exact h.elim
end
end PH

/-! A law's end for defs that may say repr. -/
namespace PH
open PySem PySem.Spec L2
open PyProof.Rows (envOfC AllBare IntsAre)

section
variable {P : Program} {w : World} {K : PySem.W.Frag} {mg mb : Str → Option Value} {k : Nat} {fa a : Addr} {fd : FuncData} {x : Str} {sp : Sp} {s1 : Shared} {vs : List Value} {ns : List Int}
/-- the run from one abstract heap that has at most the script -/
theorem goneH (KX : K.In s1.heap) (hns : s1.heap.Ns mainGlobals mg) (hb : s1.heap.Ns builtinsNs mb) (hbb : ∀ y : Str, y ≠ "__name__" → mb y = bootBuiltins y) (hlim : s1.heap.NoLimit) (hg : s1.gens = #[])
    (ha : s1.heap.get? a = some { cls := .type "list", data := .seq vs.toArray }) (hr : Room k callerA) (F : ∀ base : Heap, K.In base → base.Ns mainGlobals mg → FnG P w K mg base k fa fd [x] sp)
    (hbind : ∀ (s : Shared) (u : Value), BindsTo s fd ⟨[u], []⟩ [(x, u)]) (H : Hp) (hO : Only H) (hsp : sp [.ref a] H (fun v _ => v = .bl true) E0) (hok : HOk P w H s1.heap) (hA : ∀ b, H b ≠ none → b = a) (hK : H a ≠ none → K.lookup a = none) :
    codeAny (model P w) callerA (.call (.ref fa) ⟨[.ref a], []⟩) (fun r s' => r = .ok (.ret (.bool true)) ∧ OldK s1.heap s'.heap ∧ s'.os = s1.os ∧ AllBare s'.gens) s1 := by
  have tracked : ∀ {b : Addr} {u : HO}, H b = some u → b = a := fun {b u} q => hA b (by rw [q]; exact fun z => (nomatch z))
  have notDict : ∀ {b : Addr} {o : Obj} {es : Array DictEntry} {ep : Nat}, s1.heap.get? b = some o → o.data = .dict es ep → H b = none := by
    intro b o es ep e d
    cases q : H b with
    | none => rfl
    | some u =>
      obtain rfl := tracked q
      rw [ha] at e
      cases e
      exact absurd (show Data.seq vs.toArray _ = Data.dict es ep from d) (fun z => nomatch z)
  have nsB : ∀ {b : Addr} {m : Str → Option Value}, s1.heap.Ns b m → (hidT s1.heap H).Ns b m := by
    rintro b m ⟨o, es, ep, e, d, r⟩
    exact ⟨o, es, ep, hidT_get e (notDict e d), d, r⟩
  have inB : K.In (hidT s1.heap H) := by
    intro b o e
    refine hidT_get (KX b o e) ?_
    cases q : H b with
    | none => rfl
    | some u =>
      obtain rfl := tracked q
      rw [hK (by rw [q]; exact fun z => (nomatch z))] at e
      cases e
  have md : Mod K mg (hidT s1.heap H) := ⟨inB, nsB hns, ⟨mb, nsB hb, hbb⟩, let ⟨mc, h1, h2⟩ := hlim; ⟨mc, nsB h1, h2⟩⟩
  have env : Env0 P w K mg (hidT s1.heap H) callerA [] s1 H :=
    { frames := rfl, mod := md, bs := fun b o e => of_hidT e, bsz := Nat.le_of_eq (hidT_size _ _), funs := trivial,
      frf := fun b hb => absurd (show b ∈ ([] : List Addr) from hb) (by simp), hok := hok, bare := .of_eq hg }
  have run := (F _ inB (nsB hns)).go callerA [] s1 H ⟨[.ref a], []⟩ [.ref a] [.ref a] (fun v _ => v = .bl true) hr rfl env (hbind s1 (.ref a)) (.cons rfl .nil) hsp
  refine codeAny_mono run ?_
  intro r s' h
  cases r with
  | error e => exact False.elim h
  | ok fl =>
    cases fl with
    | next => exact False.elim h
    | brk => exact False.elim h
    | cont => exact False.elim h
    | ret u =>
      obtain ⟨v, H', os, bare, un, hok', ru, qv⟩ := h
      cases (show v = .bl true from qv)
      cases (show u = Value.bool true from ru)
      refine ⟨rfl, OldK.of_keep ?_, os, bare⟩
      intro b o e
      cases q : H b with
      | none => exact un.keep b o e q (fun z => absurd (show b ∈ ([] : List Addr) from z) (by simp)) (by simp)
      | some u =>
        rcases hO b with z | ⟨ob, xs, z⟩
        · rw [q] at z; cases z
        · obtain ⟨e1, _⟩ := hok b _ z
          obtain ⟨e2, _⟩ := hok' b _ (un.frzs b ob _ z)
          rw [e] at e1
          cases e1
          exact e2
theorem lawGo (KX : K.In s1.heap) (hns : s1.heap.Ns mainGlobals mg) (hb : s1.heap.Ns builtinsNs mb) (hbb : ∀ y : Str, y ≠ "__name__" → mb y = bootBuiltins y) (hlim : s1.heap.NoLimit) (hg : s1.gens = #[])
    (ha : s1.heap.get? a = some { cls := .type "list", data := .seq vs.toArray }) (hi : IntsAre vs ns) (hl : ns.length ≤ sizeLine) (hr : Room k callerA) (F : ∀ base : Heap, K.In base → base.Ns mainGlobals mg → FnG P w K mg base k fa fd [x] sp)
    (hbind : ∀ (s : Shared) (u : Value), BindsTo s fd ⟨[u], []⟩ [(x, u)]) (hsp : ∀ H : Hp, Only H → SqL K H a (ns.map V.int) → sp [.ref a] H (fun v _ => v = .bl true) E0) :
    codeAny (model P w) callerA (.call (.ref fa) ⟨[.ref a], []⟩) (fun r s' => r = .ok (.ret (.bool true)) ∧ OldK s1.heap s'.heap ∧ s'.os = s1.os ∧ AllBare s'.gens) s1 := by
  have rv := vals_ints hi
  have lv := hi.length
  cases hk : K.lookup a with
  | some o =>
    have e := KX a o hk
    rw [ha] at e
    cases e
    have sq : SqL K (fun _ => none) a (ns.map V.int) := .inr ⟨_, vs.toArray, _, hk, rfl, rfl, rfl, by rw [List.size_toArray, lv]; exact hl, by simpa using rv⟩
    refine goneH KX hns hb hbb hlim hg ha hr F hbind (fun _ => none) (fun _ => .inl rfl) (hsp _ (fun _ => .inl rfl) sq) ?_ (fun b z => absurd rfl z) (fun z => absurd rfl z)
    intro b u z
    cases (show (none : Option HO) = some u from z)
  | none =>
    let Hs : Hp := fun b => if b = a then some (.frz { cls := .type "list", data := .seq vs.toArray } (.lst (ns.map V.int))) else none
    have h1 : Hs a = some (.frz { cls := .type "list", data := .seq vs.toArray } (.lst (ns.map V.int))) := if_pos rfl
    have h2 : ∀ b, b ≠ a → Hs b = none := fun b n => if_neg n
    have only : Only Hs := fun b => by
      by_cases n : b = a
      · subst n; exact .inr ⟨_, _, h1⟩
      · exact .inl (h2 b n)
    refine goneH KX hns hb hbb hlim hg ha hr F hbind Hs only (hsp Hs only (.inl (.inr ⟨_, h1⟩))) ?_ ?_ fun _ => hk
    · intro b u z
      by_cases n : b = a
      · subst n
        cases h1.symm.trans z
        exact ⟨ha, by rw [List.length_map]; exact hl, vs, _, rv, ha⟩
      · rw [h2 b n] at z; cases z
    · intro b z
      by_cases n : b = a
      · exact n
      · exact absurd (h2 b n) z
end
/-- the end of a law's row: from the law's promise to the goal that the head leaves -/
theorem walkG {l : PySem.W.OpenLaw} {n k : Nat} {q : Program} {loose : List Str} {XP : (Str → Option Value) → Heap → Prop} {YP : World → Heap → Prop} {d : DefRec} {K : Params → PySem.W.Frag} {sp : PySem.W.Frag → Sp} {x : Str}
    (hn : l.most = some n) (hn2 : n ≤ sizeLine) (hdf : d.params.defaults = []) (hr : Room k callerA) (hY : ∀ (w : World) (h : Heap), YP w h → (K w.params).In h)
    (F : ∀ (w : World) (mg : Str → Option Value) (fa : Addr) (h : Heap), (K w.params).In h → h.Ns mainGlobals mg → mg d.name = some (.ref fa) →
      ∃ fd : FuncData, (∀ (s : Shared) (u : Value), BindsTo s fd ⟨[u], []⟩ [(x, u)]) ∧ ∀ base : Heap, (K w.params).In base → base.Ns mainGlobals mg → FnG l.prog w (K w.params) mg base k fa fd [x] (sp (K w.params)))
    (hsp : ∀ (K : PySem.W.Frag) (H : Hp) (a : Addr) (ns : List Int), ns.length ≤ n → (∀ z ∈ ns, Builtin.Int.intBits z ≤ 1048576) → Only H → SqL K H a (ns.map V.int) → sp K [.ref a] H (fun v _ => v = .bl true) E0) :
    PySem.W.WalkO q loose XP YP l.row.toRowW d [] (fun f vs => PySem.call f vs) := by
  refine Att.attach_callB hn hdf ?_
  intro w s₀ s₁ mg mb fa o pm cd doc a vs ns G Y ho hd hcd hmg hobj hints hlen hbits hg
  have KX := hY w _ Y
  obtain ⟨fd, hb, hF⟩ := F w mg fa _ KX G.T.g hmg
  exact lawGo KX G.T.g G.T.b G.T.builtins G.T.nolimit hg hobj hints (Nat.le_trans hlen hn2) hr hF hb (fun H hO hS => hsp (K w.params) H a ns hlen hbits hO hS)
end PH

/-! The head: facts by names and one Bool more; a law's end over it. -/
namespace PH
open PySem PySem.Spec L2
open PyProof.Rows (envOfC AllBare IntsAre)

structure SaysE (fa : List He.Fa) (fn : List He.DefD) (ex : PySem.W.Frag → Bool) (K : PySem.W.Frag) : Prop where
  d : He.SaysD fa fn K
  more : ex K = true
abbrev AlE : Type := He.AlD × Bool
def obsE (n : Nat) (fa : List He.Fa) (fn : List He.DefD) (ex : PySem.W.Frag → Bool) (g : Addr → Option Obj) : AlE := (He.obsD fa fn (He.frG g (He.asD g n)), ex (He.frG g (He.asD g n)))
def hookE (n : Nat) (fa : List He.Fa) (fn : List He.DefD) (ex : PySem.W.Frag → Bool) : PySem.W.Hook where
  α := AlE
  obs := fun s => obsE n fa fn ex s.heap.get?
  val := fun _ => (He.valD fn, true)
  says := fun _ h => ∃ K : PySem.W.Frag, K.In h ∧ SaysE fa fn ex K
  of := fun _ _ e => ⟨_, He.frG_in, congrArg (fun z : AlE => z.1) e, congrArg (fun z : AlE => z.2) e⟩
  keeps := fun _ _ _ ⟨K, hK, c⟩ k => ⟨K, PySem.W.Frag.In.keeps hK k, c⟩
theorem obsE_eq {n : Nat} {fa : List He.Fa} {fn : List He.DefD} {ex : PySem.W.Frag → Bool} {g : Addr → Option Obj} {s : Shared} (h : ∀ a, g a = s.heap.get? a) : obsE n fa fn ex g = (hookE n fa fn ex).obs s := by
  have e : g = s.heap.get? := funext h
  rw [e] <;> rfl
theorem toFun {K : PySem.W.Frag} {x qual : Str} {st : Stmt} {f : Addr} {fd : FuncData} (F : FunD K x qual (defArgs st) (defBody st) (defScope st) [] [] f fd) : Fun K x qual st f fd := by
  obtain ⟨oc, od, dV, kV, doc, pm, an, cdv, ct, osl, e, lk, hc, hd, _⟩ := F.ex
  rcases hd with ⟨_, hd⟩ | ⟨hd, _⟩
  · subst hd
    exact ⟨⟨oc, od, kV, doc, pm, an, cdv, ct, osl, e, lk, hc⟩, F.kp⟩
  · exact absurd rfl hd
/-- a name of the module that stands for a built-in function -/
def bltB (K : PySem.W.Frag) (x : Str) (id : String) : Bool := match PySem.W.nsIn K mainGlobals x with
  | some (some (.builtin j)) => decide (j = id)
  | _ => false
theorem bltB_ok {K : PySem.W.Frag} {h : Heap} {mg : Str → Option Value} {x : Str} {id : String} (X : K.In h) (G : h.Ns mainGlobals mg) (c : bltB K x id = true) : mg x = some (.builtin id) := by
  unfold bltB at c
  split at c
  · rename_i j e
    have := of_decide_eq_true c
    subst this
    exact PySem.W.mg_of X G e
  · cases c
theorem walkGE {l : PySem.W.OpenLaw} {n k : Nat} {q : Program} {loose : List Str} {XP : (Str → Option Value) → Heap → Prop} {YP : World → Heap → Prop} {d : DefRec} {x : Str}
    (hn : l.most = some n) (hn2 : n ≤ sizeLine) (hdf : d.params.defaults = []) (hr : Room k callerA)
    (F : ∀ (w : World) (mg : Str → Option Value) (fa : Addr) (h : Heap), YP w h → h.Ns mainGlobals mg → mg d.name = some (.ref fa) →
      ∃ (K : PySem.W.Frag) (fd : FuncData) (sp : Sp), K.In h ∧ (∀ (s : Shared) (u : Value), BindsTo s fd ⟨[u], []⟩ [(x, u)]) ∧
        (∀ (H : Hp) (a : Addr) (ns : List Int), ns.length ≤ n → (∀ z ∈ ns, Builtin.Int.intBits z ≤ 1048576) → Only H → SqL K H a (ns.map V.int) → sp [.ref a] H (fun v _ => v = .bl true) E0) ∧
        ∀ base : Heap, K.In base → base.Ns mainGlobals mg → FnG l.prog w K mg base k fa fd [x] sp) :
    PySem.W.WalkO q loose XP YP l.row.toRowW d [] (fun f vs => PySem.call f vs) := by
  refine Att.attach_callB hn hdf ?_
  intro w s₀ s₁ mg mb fa o pm cd doc a vs ns G Y ho hd hcd hmg hobj hints hlen hbits hg
  obtain ⟨K, fd, sp, KX, hb, hsp, hF⟩ := F w mg fa _ Y G.T.g hmg
  exact lawGo KX G.T.g G.T.b G.T.builtins G.T.nolimit hg hobj hints (Nat.le_trans hlen hn2) hr hF hb (fun H hO hS => hsp H a ns hlen hbits hO hS)
end PH

/-! Defs by name; a law's promise. -/
namespace PH
open PySem PySem.Spec L2
open PyProof.Rows (envOfC AllBare IntsAre)

/-- a def of the text, under its name -/
def Dfn (K : PySem.W.Frag) (mg : Str → Option Value) (x : Str) (st : Stmt) : Prop := ∃ (f : Addr) (fd : FuncData), mg x = some (.ref f) ∧ Fun K x x st f fd
section
variable (P : Program) (w : World) (K : PySem.W.Frag) (mg : Str → Option Value) (base : Heap)
/-- a def that keeps its promise, by its name -/
def NameOk (k : Nat) (x : Str) (ps : List Str) (sp : Sp) : Prop := ∃ (f : Addr) (fd : FuncData), mg x = some (.ref f) ∧ PySem.W.keepIn K (.ref f) = true ∧ Binds K fd ps [] ∧ FnG P w K mg base k f fd ps sp
def DefOk (k : Nat) (x : Str) (ps : List Str) (spd : DSp) : Prop := NameOk P w K mg base k x ps (SpD ps.length spd)
end
def BindOk (x : Str) (ps : List Str) (st : Stmt) : Prop := ∀ (kV doc pm : Value) (an : Option Addr) (cdv ct : Value) (us : List Value), us.length = ps.length →
  bindArgs (PySem.W.fnOf x x (defArgs st) (defBody st) (defScope st) .none kV doc pm an cdv ct) ⟨us, []⟩ = pure (ps.zip us)
section
variable {P : Program} {w : World} {K : PySem.W.Frag} {mg : Str → Option Value} {base : Heap}
theorem nameOk {k : Nat} {x : Str} {st : Stmt} {N ps : List Str} {sp : Sp} (hd : Dfn K mg x st) (S : FnScope N ps (defScope st)) (bnd : BindOk x ps st) (len : ∀ vs H Q E, sp vs H Q E → vs.length = ps.length)
    (hb : ∀ (f : Addr) (cdv : Value) (A : Around) (outer : List Env) (s : Shared) (H : Hp) (vs : List V) (Q : VK), Room k (A.deeper (envOfC x (defScope st) s.heap.objs.size f cdv)) → A.guards = some [] → sp vs H Q E0 →
      ∃ t, PSs (cxOf CX0 P w K mg base N x (defScope st) f cdv A outer s H E0).nox (defBody st) t ∧ t { nx := fun _ H' => Q .non H', rt := Q } (L2.start N vs) H) : NameOk P w K mg base (k + 1) x ps sp := by
  obtain ⟨f, fd, hm, F⟩ := hd
  exact ⟨f, fd, hm, F.kp, F.binds bnd, fnG_body F S len fun cdv A outer s H vs Q => hb f cdv A outer s H vs Q⟩
theorem defOk {k : Nat} {x : Str} {st : Stmt} {N ps : List Str} {spd : DSp} {m : DS} (hd : Dfn K mg x st) (S : FnScope N ps (defScope st)) (bnd : BindOk x ps st)
    (hb : ∀ (f : Addr) (cdv : Value) (A : Around) (outer : List Env) (s : Shared) (H : Hp), Room k (A.deeper (envOfC x (defScope st) s.heap.objs.size f cdv)) → A.guards = some [] →
      PDSs W0 (cxOf CX0 P w K mg base N x (defScope st) f cdv A outer s H E0).nox (defBody st) m)
    (hm : ∀ ds Qd, ds.length = ps.length → spd ds Qd → m { nx := fun _ => Qd .none, rt := Qd } (dstart N.length ds)) : DefOk P w K mg base (k + 1) x ps spd := by
  obtain ⟨f, fd, hmg, F⟩ := hd
  exact ⟨f, fd, hmg, F.kp, F.binds bnd, fnD F S (hb f) hm⟩
end
section
variable {X : Cx} {k j : Nat} {x : Str} {p pos : Pos} {e : Expr} {es : List Expr} {ps : List Str} {spd : DSp} {m : DA}
theorem pd_fn (D : DefOk X.prog X.w X.K X.mg X.base j x ps spd) (hr : Room k X.A) (hj : j ≤ k) (hgu : X.A.guards = some []) (ha : PDA X (e :: es) ps.length m) (hg : Gl X x := by rfl) (hdb : (x == ("__debug__" : Str)) = false := by decide)
    (he : starEach (e :: es) X.env = (false, eval e X.env) :: starEach es X.env := by rfl) (hpl : (backTo pos (starEach es X.env)).any (·.1) = false := by rfl) : PD X (.Call (.Name x p) (e :: es) [] pos) (dCall spd m) :=
  let ⟨_, _, hm, kp, hb, F⟩ := D; pd_call F (hr.mono hj) hgu hg hm kp hb ha hdb he hpl
theorem pd_fn0 (D : DefOk X.prog X.w X.K X.mg X.base j x [] spd) (hr : Room k X.A) (hj : j ≤ k) (hgu : X.A.guards = some []) (hg : Gl X x := by rfl) (hdb : (x == ("__debug__" : Str)) = false := by decide) : PD X (.Call (.Name x p) [] [] pos) (dCall0 spd) :=
  let ⟨_, _, hm, kp, hb, F⟩ := D; pd_call0 F (hr.mono hj) hgu hg hm kp hb hdb
end
/-- what a law is asked: at every script True -/
def spLaw (K : PySem.W.Frag) : Sp := fun vs H Q _ => ∃ (a : Addr) (ns : List Int), vs = [.ref a] ∧ SqL K H a (ns.map V.int) ∧ ns.length ≤ 63 ∧ (∀ z ∈ ns, Builtin.Int.intBits z ≤ 1048576) ∧ LamX.Tabs lamTabs H ∧ ∀ H', Q (.bl true) H'
theorem spLaw_len {K : PySem.W.Frag} : ∀ vs H Q E, spLaw K vs H Q E → vs.length = 1 := fun _ _ _ _ ⟨_, _, e, _⟩ => by rw [e]; rfl
theorem ifT {b : Bool} {A B : Prop} (h : b = true) (a : A) : if b = true then A else B := by rw [if_pos h]; exact a
theorem ifF {b : Bool} {A B : Prop} (h : b = false) (a : B) : if b = true then A else B := by rw [h]; exact iteF a
/-! ### the source of drawn numbers -/
def spPick : DSp := fun ds Q => ∃ m : Int, ds = [SRC, .int m] ∧ m < 2 ^ 30 ∧ ∀ k : Int, 0 ≤ k → (k < m ∨ k = 0) → Q (.int k)
/-- open_cells: a new source -/
def spCells (K : PySem.W.Frag) : Sp := fun vs H Q _ => ∃ (a : Addr) (ns : List Int), vs = [.ref a] ∧ SqL K H a (ns.map V.int) ∧ ns.length ≤ 63 ∧ (∀ z ∈ ns, Builtin.Int.intBits z ≤ 1048576) ∧
  ∀ (p c : Addr) (ms : List Int) (l m t : Int) (H' : Hp), H p = none → H c = none → p ≠ c → Same H H' → H' c = some (.lst (ms.map V.int)) → H' p = some (.dK (srcKvs c l m t)) → Q (.ref p) H'
theorem srcKvs_val (c : Addr) (l m t : Int) : valV (srcKvs c l m t) (.inr "cells") = some (.ref c) ∧ valV (srcKvs c l m t) (.inr "left") = some (.int l) ∧ valV (srcKvs c l m t) (.inr "mixed") = some (.int m) ∧ valV (srcKvs c l m t) (.inr "turn") = some (.int t) :=
  ⟨by rfl, by rfl, by rfl, by rfl⟩
theorem srcKvs_left (c : Addr) (l m t l' : Int) : putK (srcKvs c l m t) (.inr "left") (.int l') = srcKvs c l' m t := by rfl
theorem srcKvs_turn (c : Addr) (l m t t' : Int) : putK (srcKvs c l m t) (.inr "turn") (.int t') = srcKvs c l m t' := by rfl
end PH

/-! + and * of any kind; slices. -/
namespace PH
open PySem PySem.Spec L2
open PyProof.Rows (envOfC AllBare IntsAre)
section
variable {X : Cx} {a b e : Expr} {pos : Pos} {ma mb : DE} {m : DA}
theorem opr_or {f : Value → Value → Sem Value} {r r' : R2} (h : OpR X f r) (h' : OpR X f r') : OpR X f (fun x y H Q => r x y H Q ∨ r' x y H Q) := by
  intro pins s σ H x y v u Q I rx ry q
  rcases q with q | q
  · exact h pins s σ H x y v u Q I rx ry q
  · exact h' pins s σ H x y v u Q I rx ry q
def dAddA : DR2 := fun x y Q => match x, y with
  | .int i, .int j => Q (.int (i + j))
  | .list xs, .list ys => xs.length + ys.length ≤ 10000000 ∧ Q (.list (xs ++ ys))
  | _, _ => False
abbrev rAddA : R2 := fun x y H Q => rI0 (fun i j => .int (i + j)) x y H Q ∨ rCat x y H Q
theorem lr_addA : LR rAddA dAddA := by
  intro S M H x y dx dy Qd Q hm rx ry h k
  unfold dAddA at h
  split at h
  · exact .inl (lr_I0 (f := fun i j => i + j) S M H x y _ _ Qd Q hm rx ry h k)
  · exact .inr (lr_cat S M H x y _ _ Qd Q hm rx ry h k)
  · exact h.elim
theorem pd_addA (ha : PD X a ma) (hb : PD X b mb) : PD X (.BinOp a .Add b pos) (dOp dAddA ma mb) := pd_bin (opr_or op_add op_cat) lr_addA ha hb
def dMulA : DR2 := fun x y Q => match x, y with
  | .int i, .int j => CMB i j ∧ Q (.int (i * j))
  | .list xs, .int k => (-(2 ^ 63) ≤ k ∧ k < 2 ^ 63 ∧ xs.length * k.toNat ≤ 10000000) ∧ Q (.list (repD k.toNat xs))
  | _, _ => False
abbrev rMulA : R2 := fun x y H Q => rI CMB (fun i j => .int (i * j)) x y H Q ∨ rRep x y H Q
theorem lr_mulA : LR rMulA dMulA := by
  intro S M H x y dx dy Qd Q hm rx ry h k
  unfold dMulA at h
  split at h
  · exact .inl (lr_I (C := CMB) (f := fun i j => i * j) S M H x y _ _ Qd Q hm rx ry h k)
  · exact .inr (lr_rep S M H x y _ _ Qd Q hm rx ry h k)
  · exact h.elim
theorem pd_mulA (ha : PD X a ma) (hb : PD X b mb) : PD X (.BinOp a .Mult b pos) (dOp dMulA ma mb) := pd_bin (opr_or op_mulB op_rep) lr_mulA ha hb
end
end PH
namespace PH
open L2
theorem blk {N : List PySem.Str} {sc scope : PySem.Scope} {own : List (PySem.Str × Nat)} (h : blkC N sc scope own = true) : blkC N sc scope own = true := h
end PH

/-! The law's own def, at every base. -/
namespace PH
open PySem PySem.Spec L2
open PyProof.Rows (envOfC AllBare IntsAre)
theorem lawOk {P : Program} {w : World} {K : PySem.W.Frag} {mg : Str → Option Value} {k : Nat} {x p : Str} {st : Stmt} {N : List Str} {sp : Sp} (hd : Dfn K mg x st) (S : FnScope N [p] (defScope st)) (bnd : BindOk x [p] st) (len : ∀ vs H Q E, sp vs H Q E → vs.length = 1)
    (hb : ∀ (base : Heap) (f : Addr) (cdv : Value) (A : Around) (outer : List Env) (s : Shared) (H : Hp) (vs : List V) (Q : VK), Room k (A.deeper (envOfC x (defScope st) s.heap.objs.size f cdv)) → A.guards = some [] → sp vs H Q E0 →
      ∃ t, PSs (cxOf CX0 P w K mg base N x (defScope st) f cdv A outer s H E0).nox (defBody st) t ∧ t { nx := fun _ H' => Q .non H', rt := Q } (L2.start N vs) H) :
    ∃ (f : Addr) (fd : FuncData), mg x = some (.ref f) ∧ (∀ (s : Shared) (u : Value), BindsTo s fd ⟨[u], []⟩ [(p, u)]) ∧ ∀ base : Heap, FnG P w K mg base (k + 1) f fd [p] sp := by
  obtain ⟨f, fd, hm, F⟩ := hd
  have F' := F
  obtain ⟨oc, od, kV, doc, pm, an, cdv, ct, osl, rfl, lk, hcd⟩ := F'.ex
  refine ⟨f, _, hm, fun s u => BindsTo.of_eq (bnd kV doc pm an cdv ct [u] rfl), fun base => fnG_body F S len fun cdv A outer s H vs Q => hb base f cdv A outer s H vs Q⟩
end PH

/-! Defs that raise; try. -/
namespace PH
open PySem PySem.Spec L2
open PyProof.Rows (envOfC AllBare IntsAre)
/-- what a def that may raise promises: of its data, of the value, of the name of the class that it raises -/
abbrev DSpX := List D → (D → Prop) → (Str → Prop) → Prop
def SpX (mg : Str → Option Value) (n : Nat) (spd : DSpX) : Sp := fun vs H Q E => ∃ (S : Sr) (M : Addr → Prop) (ds : List D) (Qd : D → Prop) (Ed : Str → Prop), (∀ a, M a → H a ≠ none) ∧ SrcOk S M H ∧ Dqs S M H vs ds ∧ vs.length = n ∧ spd ds Qd Ed ∧
  (∀ d v H', Qd d → KeepS S H H' → SrcOk S M H' → Dq S M H' v d → Q v H') ∧ ∀ x c H', Ed x → mg x = some c → KeepS S H H' → SrcOk S M H' → E c none H'
structure FnGX (P : Program) (w : World) (K : PySem.W.Frag) (mg : Str → Option Value) (base : Heap) (k : Nat) (f : Addr) (fd : FuncData) (ps : List Str) (sp : Sp) : Prop where
  len : ∀ vs H Q E, sp vs H Q E → vs.length = ps.length
  go : ∀ (A : Around) (outer : List Env) (s : Shared) (H : Hp) (args : Args) (us : List Value) (vs : List V) (Q : VK) (E : XK), Room k A → A.guards = some [] →
    Env0 P w K mg base A outer s H → BindsTo s fd args (ps.zip us) → Vals vs us → sp vs H Q E → codeAny (model P w) A (.call (.ref f) args) (CR (L2.CX P w) outer P w H s Q E) s
section
variable {P : Program} {w : World} {K : PySem.W.Frag} {mg : Str → Option Value} {base : Heap} {k : Nat} {f : Addr} {fd : FuncData} {ps : List Str} {sp : Sp}
theorem fnGX_body {x qual : Str} {st : Stmt} {N : List Str} (F : Fun K x qual st f fd) (S : FnScope N ps (defScope st)) (len : ∀ vs H Q E, sp vs H Q E → vs.length = ps.length)
    (hb : ∀ (cdv : Value) (A : Around) (outer : List Env) (s : Shared) (H : Hp) (vs : List V) (Q : VK) (E : XK), Room k (A.deeper (envOfC qual (defScope st) s.heap.objs.size f cdv)) → A.guards = some [] → sp vs H Q E →
      ∃ t, PSs (cxOf (L2.CX P w) P w K mg base N qual (defScope st) f cdv A outer s H E) (defBody st) t ∧ t { nx := fun _ H' => Q .non H', rt := Q } (L2.start N vs) H) :
    FnGX P w K mg base (k + 1) f fd ps sp := by
  obtain ⟨oc, od, kV, doc, pm, an, cdv, ct, osl, rfl, lk, hcd⟩ := F.ex
  refine ⟨len, ?_⟩
  intro A outer s H args us vs Q E hr hg e0 hbind rv hsp
  have lv := len _ _ _ _ hsp
  have inK : K.In s.heap := e0.mod.kin.keeps (fun b o e => (e0.bs b o e).1)
  have noL : s.heap.NoLimit := e0.mod.nolimit.keeps (fun b o e => (e0.bs b o e).1)
  have kinds : ∀ y ∈ ps.zip us, (defScope st).names.lookup y.1 = some .local ∨
      ((defScope st).names.lookup y.1 = some .cell ∧ ((cellsFrom (s.heap.objs.size + 1) (defScope st).names []).lookup y.1).isSome = true) := by
    rintro ⟨n, v⟩ hy
    rcases S.par n (List.of_mem_zip hy).1 with q | q
    · exact .inl q
    · exact .inr ⟨q, PySem.W.cellsFrom_some _ _ _ (.inl q)⟩
  refine codeAny_call_function hr.depth (inK _ _ lk) rfl S.co S.gen rfl (PySem.W.codeRec_of inK hcd) (hbind _ _ _ _ ?_)
  refine wpAny_newFunctionEnv_cells S.kind kinds ?_
  intro env he s1 xc
  subst he
  refine ⟨noL.keeps xc.toInCall.keep, codeAny_func ?_⟩
  obtain ⟨t, ht, hq⟩ := hb cdv A outer s H vs Q E (hr.deeper _) hg hsp
  have J0 : Inv (cxOf (L2.CX P w) P w K mg base N qual (defScope st) f cdv A outer s H E) [] (L2.start N vs) H s1 := inv_start S hr.hd e0 lv rv xc
  refine wpAny_mono (ht.run [] s1 (L2.start N vs) H _ J0 hq) (fun fl s' hs => ?_) (fun e s' hs => hs)
  cases fl with
  | ret u =>
    obtain ⟨v, σ', H', J, rr, q⟩ := hs
    exact ⟨v, H', J.os, J.bare, J.base, J.hok, rr, q⟩
  | next =>
    obtain ⟨σ', H', J, q⟩ := hs
    exact ⟨V.non, H', J.os, J.bare, J.base, J.hok, rfl, q⟩
  | brk => obtain ⟨_, _, _, q⟩ := hs; exact False.elim q
  | cont => obtain ⟨_, _, _, q⟩ := hs; exact False.elim q
/-- where nothing is let out -/
theorem FnGX.quiet {sp' : Sp} (F : FnGX P w K mg base k f fd ps sp) (h : ∀ vs H Q E, sp' vs H Q E → sp vs H Q E0) : FnG P w K mg base k f fd ps sp' := by
  refine ⟨fun vs H Q E q => F.len _ _ _ _ (h vs H Q E q), fun A outer s H args us vs Q hr hg e0 hb rv q => ?_⟩
  refine codeAny_mono (F.go A outer s H args us vs Q E0 hr hg e0 hb rv (h _ _ _ _ q)) fun r s' hq => ?_
  cases r with
  | ok fl =>
    cases fl with
    | ret u => exact hq
    | next => exact hq
    | brk => exact hq
    | cont => exact hq
  | error e =>
    obtain ⟨_, _, _, _, _, _, _, _, _, _, _, _, z⟩ := hq
    exact z.elim
end
section
variable (P : Program) (w : World) (K : PySem.W.Frag) (mg : Str → Option Value) (base : Heap)
def DefX (k : Nat) (x : Str) (ps : List Str) (spd : DSpX) : Prop := ∃ (f : Addr) (fd : FuncData), mg x = some (.ref f) ∧ PySem.W.keepIn K (.ref f) = true ∧ Binds K fd ps [] ∧ FnGX P w K mg base k f fd ps (SpX mg ps.length spd)
end
/-- the body's let-outs, by a class's value -/
abbrev WD (E : XK) : WX := fun cls d _ H => E cls d H
theorem defX {P : Program} {w : World} {K : PySem.W.Frag} {mg : Str → Option Value} {base : Heap} {k : Nat} {x : Str} {st : Stmt} {N ps : List Str} {spd : DSpX} {m : DS} (hd : Dfn K mg x st) (S : FnScope N ps (defScope st)) (bnd : BindOk x ps st)
    (hb : ∀ (f : Addr) (cdv : Value) (A : Around) (outer : List Env) (s : Shared) (H : Hp) (E : XK), Room k (A.deeper (envOfC x (defScope st) s.heap.objs.size f cdv)) → A.guards = some [] →
      Takes (cxOf (L2.CX P w) P w K mg base N x (defScope st) f cdv A outer s H E) (WD E) → PDSs (WD E) (cxOf (L2.CX P w) P w K mg base N x (defScope st) f cdv A outer s H E) (defBody st) m)
    (hm : ∀ ds Qd Ed, ds.length = ps.length → spd ds Qd Ed → m { nx := fun _ => Qd .none, rt := Qd, rx := fun c _ => ∃ n, Ed n ∧ mg n = some c } (dstart N.length ds)) : DefX P w K mg base (k + 1) x ps spd := by
  obtain ⟨f, fd, hmg, F⟩ := hd
  refine ⟨f, fd, hmg, F.kp, F.binds bnd, fnGX_body F S (fun vs H Q E h => by obtain ⟨_, _, _, _, _, _, _, _, l, _⟩ := h; exact l) fun cdv A outer s H vs Q E hr hg h => ?_⟩
  obtain ⟨S', M, ds, Qd, Ed, hM, so, rs, hl, hsp, h6, h7⟩ := h
  obtain ⟨t, h1, l⟩ := hb f cdv A outer s H E hr hg (takes_of rfl rfl rfl rfl)
  refine ⟨t, h1, l S' M H H _ _ _ _ (ev_start hM so rs) (hm ds Qd Ed (by rw [← rs.length, hl]) hsp) ⟨fun σd σ H' q E2 => ?_, fun d v H' q k so _ r => h6 d v H' q k so r, fun _ _ _ q _ => q.elim, fun _ _ _ q _ => q.elim, fun c σd σ H' q E2 => ?_⟩⟩
  · exact h6 _ _ _ q E2.keep E2.src .non
  · obtain ⟨n, q1, q2⟩ := q
    exact h7 n c H' q1 q2 E2.keep E2.src
section
variable {X : Cx} {k j : Nat} {f : Addr} {fd : FuncData} {ps : List Str} {sp : Sp} {x : Str} {p pos : Pos} {e : Expr} {es : List Expr} {t : TA} {Wx : WX}
theorem runGX {pins : List (Addr × Obj)} {σ : L2.St} {H : Hp} {s : Shared} {Q : VK} {us : List Value} {vs : List V} {E : L2.St → XK} (F : FnGX X.prog X.w X.K X.mg X.base k f fd ps sp) (hr : Room k X.A) (hg : X.A.guards = some [])
    (hb : Binds X.K fd ps []) (hx : PassesAt (L2.CX X.prog X.w) X σ (E σ)) (I : Inv X pins σ H s) (r : Vals vs us) (h : sp vs H Q (E σ)) : wpAny (model X.prog X.w) X.A (call (.ref f) us) (EP X pins σ Q) X.xe s := by
  have hl : us.length = ps.length := by rw [← r.length]; exact F.len _ _ _ _ h
  have b := hb s us I.kIn (by rw [List.append_nil]; exact hl)
  rw [List.append_nil] at b
  refine wpAny_call (codeAny_mono (F.go X.A X.stack s H ⟨us, []⟩ us vs Q (E σ) hr hg I.env0 b r h) fun r s' hq => ?_)
  cases r with
  | error e => exact hx pins H s e s' I hq
  | ok fl =>
    cases fl with
    | ret u => exact I.after hq
    | next => exact False.elim hq
    | brk => exact False.elim hq
    | cont => exact False.elim hq
theorem pe_callGX {E : L2.St → XK} (F : FnGX X.prog X.w X.K X.mg X.base k f fd ps sp) (hr : Room k X.A) (hgu : X.A.guards = some []) (hg : Gl X x) (hm : X.mg x = some (.ref f)) (hk : PySem.W.keepIn X.K (.ref f) = true) (hb : Binds X.K fd ps []) (hx : ∀ σ, PassesAt (L2.CX X.prog X.w) X σ (E σ))
    (ha : PA X (e :: es) t) (hdb : (x == ("__debug__" : Str)) = false := by decide) (he : starEach (e :: es) X.env = (false, eval e X.env) :: starEach es X.env := by rfl) (hpl : (backTo pos (starEach es X.env)).any (·.1) = false := by rfl) :
    PE X (.Call (.Name x p) (e :: es) [] pos) (tCallS sp E t) := by
  refine ⟨fun pins s σ H Q I h => ?_⟩
  refine wpAny_Call_Name_kw (ld_glob I hg hm ?_ hdb)
  refine PySem.W.callWith_K (h₀ := X.base) I.ok.mod.kin hk (thn (ha.run pos pins s σ H _ I h) fun us s1 ⟨vs, H1, I1, r, q⟩ => ⟨I1.kIn, ?_⟩) he hpl
  exact runGX F hr hgu hb (hx σ) I1 r q
/-! statements that are one call of a def that may raise -/
def dRetX (mg : Str → Option Value) (spd : DSpX) (m : DA) : DS := fun Dd σd => m σd fun ds => spd ds Dd.rt fun n => ∀ c, mg n = some c → Dd.rx c σd
theorem ls_retX {mg : Str → Option Value} {n : Nat} {spd : DSpX} {t : TA} {m : DA} (h : LA n t m) : LS Wx (tRet (tCallS (SpX mg n spd) (WE Wx) t)) (dRetX mg spd m) := by
  intro S M H0 H σ σd Dd Dn E hm r
  refine h S M H0 H σ σd _ _ E hm fun ds vs H1 q E1 k1 r1 hl => ?_
  have so : SrcOk S (MO M σd) H1 := E1.src.more fun _ z => .inl z
  refine ⟨S, MO M σd, ds, _, _, E1.mtO, so, r1, hl, q, fun d v H2 q k2 s2 r2 => ?_, fun x c H2 q hc k2 s2 => ?_⟩
  · have s3 : SrcOk S M H2 := E1.src.at s2
    have E2 := E1.ext k2 s3
    exact r.2.1 d v H2 q E2.keep E2.src E2.mt (r2.go fun a o n e => ⟨fun z => n (.inl z), e⟩)
  · have s3 : SrcOk S M H2 := E1.src.at s2
    exact r.2.2.2.2 c σd σ H2 (q c hc) (E1.ext k2 s3)
theorem psd_retX {mg : Str → Option Value} {spd : DSpX} {m : DA} (D : DefX X.prog X.w X.K mg X.base j x ps spd) (tk : Takes X Wx) (hr : Room k X.A) (hj : j ≤ k) (hgu : X.A.guards = some []) (ha : PDA X (e :: es) ps.length m) (hg : Gl X x := by rfl) (hdb : (x == ("__debug__" : Str)) = false := by decide)
    (he : starEach (e :: es) X.env = (false, eval e X.env) :: starEach es X.env := by rfl) (hpl : (backTo pos (starEach es X.env)).any (·.1) = false := by rfl) (eM : X.mg = mg := by rfl) : PDS Wx X (.Return (some (.Call (.Name x p) (e :: es) [] pos)) pos') (dRetX mg spd m) := by
  subst eM
  exact let ⟨_, _, hm, kp, hb, F⟩ := D; let ⟨_, h1, l1⟩ := ha; ⟨_, ps_ret (pe_callGX F (hr.mono hj) hgu hg hm kp hb (fun σ => passAt tk σ) h1 hdb he hpl), ls_retX l1⟩
/-- a raising def where it raises nothing -/
theorem DefX.quiet {P : Program} {w : World} {K : PySem.W.Frag} {mg : Str → Option Value} {base : Heap} {spd : DSpX} (D : DefX P w K mg base j x ps spd) {spd' : DSp} (h : ∀ ds Q, spd' ds Q → spd ds Q fun _ => False) : DefOk P w K mg base j x ps spd' := by
  obtain ⟨f, fd, hm, kp, hb, F⟩ := D
  refine ⟨f, fd, hm, kp, hb, F.quiet fun vs H Q E ⟨S, M, ds, Qd, a1, a2, a3, a4, a5, a6⟩ => ⟨S, M, ds, Qd, _, a1, a2, a3, a4, h _ _ a5, a6, fun _ _ _ z => z.elim⟩⟩
theorem takesW0 : Takes X W0 := takes0
/-! raise X() -/
structure OwnX (K : PySem.W.Frag) (mg : Str → Option Value) (x : Str) (C : Addr) (bmB : List Value) (newId : String) : Prop where
  gC : mg x = some (.ref C)
  kC : PySem.W.keepIn K (.ref C) = true
  ex : PySem.W.excIn K C bmB newId = true
  su : PySem.W.subIn K (.ref C) (.type "BaseException") = some true
  ty : PySem.W.typeIn K (.ref C) = some (.type "type")
theorem pmk_own0 {C : Addr} {bmB : List Value} {B newId initId : String} (F : ExcBaseFacts B newId initId bmB) (O : OwnX X.K X.mg x C bmB newId) (hg : Gl X x) (hdb : (x == ("__debug__" : Str)) = false := by decide) : PMk X (.Call (.Name x p) [] [] pos) (fun _ H Q => Q (.ref C) none H) := by
  intro pins s σ H Q I h
  refine wpAny_Call_Name_kw (ld_glob I hg O.gC ?_ hdb)
  refine PySem.W.callWith_K0 I.kIn O.kC ?_
  obtain ⟨bm, N, nm, qn, bs, hdct, sn, sub, ab, col, dd, k0, k1, k2, k3, k5, mN, hC, hN, hni, T⟩ := exc_obj I.kIn O.ex
  refine wpAny_call_exc_subT F T hC hN hni (fun h' e hm => ?_) (by show 0 ≤ sizeLine; omega)
  exact mk_of I hm (raises_own O.su O.ty) h (I.hok.gone hm.new)
def dRaise (mg : Str → Option Value) (n : Str) : DS := fun Dd σd => ∀ c, mg n = some c → Dd.rx c σd
theorem psd_raise0 {mg : Str → Option Value} {C : Addr} {bmB : List Value} {B newId initId : String} {pos' : Pos} (F : ExcBaseFacts B newId initId bmB) (O : OwnX X.K mg x C bmB newId) (hc : X.calm = true) (tk : Takes X Wx) (hg : Gl X x := by rfl) (hdb : (x == ("__debug__" : Str)) = false := by decide) :
    (eM : X.mg = mg) → PDS Wx X (.Raise (some (.Call (.Name x p) [] [] pos)) none pos') (dRaise mg x) := fun eM => by
  subst eM
  exact ⟨_, ps_raise hc tk (pmk_own0 F O hg hdb), fun S M H0 H σ σd Dd Dn E hm r => r.2.2.2.2 _ σd σ H (hm _ O.gC) E⟩
/-! try -/
def tSof (Wx : WX) (m : DS) : TS := fun Dn σ H => ∃ (S : Sr) (M : Addr → Prop) (H0 : Hp) (σd : DSt) (Dd : DEnds), Ev S M H0 H σ σd ∧ m Dd σd ∧ ER Wx S M H0 Dd Dn
theorem pds_ps {st : List Stmt} {m : DS} (h : PDSs Wx X st m) : PSs X st (tSof Wx m) := by
  obtain ⟨t, h1, l⟩ := h
  exact ⟨fun pins s σ H D I ⟨S, M, H0, σd, Dd, E, hm, r⟩ => h1.run pins s σ H D I (l S M H0 H σ σd Dd D E hm r)⟩
def dTry (K : PySem.W.Frag) (mg : Str → Option Value) (n : Str) (mb ms : DS) : DS := fun Dd σd => ∃ c, mg n = some c ∧ mb { Dd with rx := fun cls σd' => ∃ b, PySem.W.exmOne K cls c = some b ∧ (b = true → ms Dd σd') ∧ (b = false → Dd.rx cls σd') } σd
theorem ls_try {K : PySem.W.Frag} {mg : Str → Option Value} {n : Str} {c : Value} (hc : mg n = some c) {mb ms : DS} : LS Wx (fun D σ H => tSof (wOnly K c (fun _ _ _ => tSof Wx ms) Wx D) mb D σ H) (dTry K mg n mb ms) := by
  intro S M H0 H σ σd Dd Dn E hm r
  obtain ⟨c', hc', hm⟩ := hm
  cases hc.symm.trans hc'
  refine ⟨S, M, H0, σd, _, E, hm, r.1, r.2.1, r.2.2.1, r.2.2.2.1, fun cls σd' σ' H' q E' => ?_⟩
  obtain ⟨b, hb, h1, h2⟩ := q
  exact ⟨b, hb, fun hb a _ => ⟨S, M, H0, σd', Dd, E', h1 hb, r⟩, fun hb => r.2.2.2.2 cls σd' σ' H' (h2 hb) E'⟩
theorem psd_try {K : PySem.W.Frag} {mg : Str → Option Value} {b₀ : Stmt} {body suite : List Stmt} {np pos' : Pos} {c : Value} {mb ms : DS} (hs : X.stack = X.env :: X.outer) (hf : X.env.frame = some X.env.locals) (hm : mg x = some c) (tk : Takes X Wx) (hg : Gl X x)
    (hb : ∀ (W : WX) (pn : List (Addr × Obj)) (xe : Value → Shared → Prop), Takes (X.tr pn xe) W → PDSs W (X.tr pn xe) body mb) (hsu : ∀ (a : Addr) (oe : Obj) (pn : List (Addr × Obj)), PDSs Wx (X.suite a ((a, oe) :: pn)) (b₀ :: suite) ms) (hdb : (x == ("__debug__" : Str)) = false := by decide) :
    (eM : X.mg = mg) → (eK : X.K = K) → PDS Wx X (.Try body [.ExceptHandler (some (.Name x np)) none (b₀ :: suite) pos'] [] [] pos) (dTry K mg x mb ms) := fun eM eK => by
  subst eM
  subst eK
  exact ⟨_, ps_try_only (tb := fun W => tSof W mb) (ts := fun _ _ _ => tSof Wx ms) hs hf ⟨hg, hdb, .inl hm⟩ tk (fun W pn xe tk' _ => pds_ps (hb W pn xe tk')) (fun a oe cls d pn _ _ => pds_ps (hsu a oe pn)), ls_try hm⟩
end
end PH

/-! gcd and max of three; is for bools; an own class's facts as one Bool. -/
namespace PySem.W
open PySem PySem.Calls
theorem g3_run (a : Int) (t : Tok) (b : Int) (u : Tok) (c : Int) (v : Tok) : Gives (Builtin.«math.gcd» ⟨[.int a t, .int b u, .int c v], []⟩) (.int (((((Nat.gcd 0 a.natAbs).gcd b.natAbs).gcd c.natAbs : Nat) : Int))) :=
  .of_wp fun M A E s Q h => by obtain ⟨hp, g, d, tk, os⟩ := s; wp_walk; exact ⟨_, rfl, h⟩
theorem g3_args (a b c : Value) : argsOk "math.gcd" ⟨[a, b, c], []⟩ := by unfold argsOk; kernel_rfl
end PySem.W
namespace PH
open PySem PySem.Spec L2
open PyProof.Rows (envOfC AllBare IntsAre)
section
variable {X : Cx}
def dGcd3 : DRC := fun ds Q => match ds with | [.int a, .int b, .int c] => Q (.int (((Nat.gcd (Nat.gcd a.natAbs b.natAbs) c.natAbs : Nat)) : Int)) | _ => False
def rGcd3 : List V → Hp → VK → Prop := fun vs H Q => ∃ a b c : Int, vs = [.int a, .int b, .int c] ∧ Q (.int (((Nat.gcd (Nat.gcd a.natAbs b.natAbs) c.natAbs : Nat)) : Int)) H
theorem lc_gcd3 : LC rGcd3 dGcd3 := by
  intro S M H xs ds Qd Q hm r h k
  unfold dGcd3 at h
  split at h
  · cases r with
    | cons a r =>
    cases r with
    | cons b r =>
    cases r with
    | cons c r =>
    cases r; cases a; cases b; cases c
    exact ⟨_, _, _, rfl, k _ _ H h (Same.refl _) (.int _)⟩
  · exact h.elim
theorem cr_gcd3 : CallR X (.builtin "math.gcd") rGcd3 := by
  intro pins s σ H vs us Q I r h
  obtain ⟨a, b, c, rfl, q⟩ := h
  obtain ⟨u1, u2, u3, rfl, ⟨t1, rfl⟩, ⟨t2, rfl⟩, ⟨t3, rfl⟩⟩ := vals3 r
  have g := PySem.W.g3_run a t1 b t2 c t3
  rw [Nat.gcd_zero_left] at g
  exact PySem.call_function_meets PySem.W.MGF.kind_gcd PySem.W.MGF.plain_gcd PySem.W.MGF.entry_gcd (PySem.W.g3_args _ _ _) g.meets ⟨.int _, H, I.tok _, ⟨_, rfl⟩, q⟩
def dMax3 : DRC := fun ds Q => match ds with | [.int a, .int b, .int c] => Q (.int (max (max a b) c)) | _ => False
theorem lc_max3 : LC (rNuC3 nuMax3) dMax3 := by
  intro S M H xs ds Qd Q hm r h k
  unfold dMax3 at h
  split at h
  · rename_i a b c
    cases r with
    | cons x r =>
    cases r with
    | cons y r =>
    cases r with
    | cons z r =>
    cases r; cases x; cases y; cases z
    refine ⟨_, _, _, .int (max (max a b) c), rfl, ?_, k _ _ H h (Same.refl _) (.int _)⟩
    by_cases h1 : a < b
    · by_cases h2 : b < c
      · simp [nuMax3, nuMax2, nuLt, nuCB, h1, h2]; omega
      · simp [nuMax3, nuMax2, nuLt, nuCB, h1, h2]; omega
    · by_cases h2 : a < c
      · simp [nuMax3, nuMax2, nuLt, nuCB, h1, h2]; omega
      · simp [nuMax3, nuMax2, nuLt, nuCB, h1, h2]; omega
  · exact h.elim
def dIsB (neg : Bool) : DR2 := fun x y Q => match x, y with | .bool a, .bool b => Q (.bool (if neg = true then !(a == b) else a == b)) | _, _ => False
def rIsB (neg : Bool) : R2 := fun x y H Q => ∃ a b, x = .bl a ∧ y = .bl b ∧ Q (.bl (if neg = true then !(a == b) else a == b)) H
theorem lr_isB {neg : Bool} : LR (rIsB neg) (dIsB neg) := by
  intro S M H x y dx dy Qd Q hm rx ry h k
  unfold dIsB at h
  split at h
  · cases rx; cases ry
    exact ⟨_, _, rfl, rfl, k _ _ H h (Same.refl _) (.bl _)⟩
  · exact h.elim
theorem op_isB : OpR X (compareOp .Is) (rIsB false) := by
  intro pins s σ H x y v u Q I rx ry h
  obtain ⟨a, b, rfl, rfl, q⟩ := h
  cases rx; cases ry
  refine PyProof.Rows.is_bool (fin_bl I q ?_)
  cases a <;> cases b <;> rfl
theorem op_isnotB : OpR X (compareOp .IsNot) (rIsB true) := by
  intro pins s σ H x y v u Q I rx ry h
  obtain ⟨a, b, rfl, rfl, q⟩ := h
  cases rx; cases ry
  refine PyProof.Rows.isnot_bool (fin_bl I q ?_)
  cases a <;> cases b <;> rfl
variable {a b : Expr} {ma mb : DE} {pos : Pos}
theorem pdt_isB {j pos2 : _} {c : Bool} (ha : PD X a ma) : PDT X (.Compare a [.Is] [.Constant (.bool c) j pos2] pos) (dBoolT (dOp (dIsB false) ma (dC (.bool c)))) := pdt_cmp op_isB lr_isB ha pd_bl (nomark _)
theorem pdt_isnotB {j pos2 : _} {c : Bool} (ha : PD X a ma) : PDT X (.Compare a [.IsNot] [.Constant (.bool c) j pos2] pos) (dBoolT (dOp (dIsB true) ma (dC (.bool c)))) := pdt_cmp op_isnotB lr_isB ha pd_bl (nomark _)
end
/-- an own class of ValueError's, by the module's name -/
def ownB (K : PySem.W.Frag) (x : Str) : Bool := match PySem.W.nsIn K mainGlobals x with
  | some (some (.ref C)) => PySem.W.keepIn K (.ref C) && PySem.W.excIn K C [.type "ValueError", .type "Exception", .type "BaseException", .type "object"] "ValueError.__new__" && (PySem.W.subIn K (.ref C) (.type "BaseException") == some true) && (PySem.W.typeIn K (.ref C) == some (.type "type")) && (PySem.W.exmOne K (.ref C) (.ref C) == some true)
  | _ => false
abbrev OwnV (K : PySem.W.Frag) (mg : Str → Option Value) (x : Str) : Prop := ∃ C, OwnX K mg x C [.type "ValueError", .type "Exception", .type "BaseException", .type "object"] "ValueError.__new__" ∧ PySem.W.exmOne K (.ref C) (.ref C) = some true
theorem ownB_ok {K : PySem.W.Frag} {h : Heap} {mg : Str → Option Value} {x : Str} (X : K.In h) (G : h.Ns mainGlobals mg) (c : ownB K x = true) : OwnV K mg x := by
  unfold ownB at c
  split at c
  · rename_i C e
    simp only [Bool.and_eq_true, beq_iff_eq] at c
    exact ⟨C, ⟨PySem.W.mg_of X G e, c.1.1.1.1, c.1.1.1.2, c.1.1.2, c.1.2⟩, c.2⟩
  · cases c
end PH

/-! a op b op c. -/
namespace PH
open PySem PySem.Spec L2
open PyProof.Rows (envOfC AllBare IntsAre)
section
variable {X : Cx} {a b c : Expr} {pos : Pos} {ma mb mc : DE}
def dChain (dr dr' : DR2) (ma mb mc : DE) : DE := fun σd Q => ma σd fun x => mb σd fun y => dr x y fun z => match z with
  | .bool k => (if k = true then mc σd fun w => dr' y w Q else Q (.bool false))
  | _ => False
theorem le_chain {r r' : R2} {dr dr' : DR2} {ta tb tc : TE} (l : LR r dr) (l' : LR r' dr') (ha : LE ta ma) (hb : LE tb mb) (hc : LE tc mc) : LE (tChain r r' ta tb tc) (dChain dr dr' ma mb mc) := by
  intro S M H0 H σ σd Qd Q E h k
  refine ha S M H0 H σ σd _ _ E h fun x v H1 q E1 k1 r1 => ?_
  refine hb S M H0 H1 σ σd _ _ E1 q fun y u H2 q E2 k2 r2 => ?_
  refine l S (MO M σd) H2 v u x y _ _ E2.mtO (E1.dq k2 r1) r2 q fun d w H3 q s r3 => ?_
  have E3 := E2.same s
  cases r3 <;> first | exact q.elim | skip
  rename_i z
  refine ⟨z, rfl, ?_⟩
  cases z with
  | false => exact k _ _ H3 q E3 (k1.trans (k2.trans (.of s))) (.bl _)
  | true =>
    refine hc S M H0 H3 σ σd _ _ E3 q fun y' u' H4 q4 E4 k4 r4 => ?_
    refine l' S (MO M σd) H4 u u' y y' _ _ E4.mtO (E3.dq k4 (E2.dq (.of s) r2)) r4 q4 fun d w H5 q5 s5 r5 => ?_
    exact k d w H5 q5 (E4.same s5) (k1.trans (k2.trans ((KeepS.of s).trans (k4.trans (.of s5))))) r5
theorem pdt_chainEq (hu : X.A.units + 64 < cLine) (ha : PD X a ma) (hb : PD X b mb) (hc : PD X c mc) (hm : lastMarks [.Eq, .Eq] [b, c] = false := by with_unfolding_all rfl) : PDT X (.Compare a [.Eq, .Eq] [b, c] pos) (dBoolT (dChain dEq dEq ma mb mc)) :=
  let ⟨_, h1, l1⟩ := ha; let ⟨_, h2, l2⟩ := hb; let ⟨_, h3, l3⟩ := hc; ⟨_, pt_chain (op_eqA hu) (op_eqA hu) h1 h2 h3 hm, lt_of (le_chain lr_eq lr_eq l1 l2 l3)⟩
end
end PH

/-! Statements one by one, the rest of a body kept folded. -/
namespace PH
open PySem PySem.Spec L2
theorem eSeq {m n : DS} {Dd : DEnds} {σd : DSt} : dSeq m n Dd σd = m { Dd with nx := n Dd } σd := rfl
theorem dFor_k {mi : DA} {g : DG} {mb rest : DS} {Dd : DEnds} {σd : DSt} (ys : List D) (W : DSt → Prop) (hi : ∀ R : List D → Prop, R ys → mi σd R) (h0 : W σd)
    (ht : ∀ y, y ∈ ys → ∀ σ', W σ' → g y σ' fun σ2 => mb { Dd with nx := W, ct := W, bk := rest Dd } σ2) (hr : ∀ σ', W σ' → rest Dd σ') : dSeq (dFor mi g mb) rest Dd σd :=
  hi _ ⟨fun _ => W, h0, fun _ y σ' e w => ht y (List.mem_of_getElem? e) σ' w, hr⟩
/-- if c: body, the rest once: either way P holds behind it -/
theorem dIf_k {c : DT} {t e rest : DS} {Dd : DEnds} {σd : DSt} (b : Bool) (P : DSt → Prop) (hc : ∀ R : Bool → Prop, R b → c σd R) (ht : b = true → ∀ N : DSt → Prop, (∀ σ, P σ → N σ) → t { Dd with nx := N } σd)
    (he : b = false → ∀ N : DSt → Prop, (∀ σ, P σ → N σ) → e { Dd with nx := N } σd) (hr : ∀ σ, P σ → rest Dd σ) : dSeq (dIf c t e) rest Dd σd :=
  hc _ (by cases b with
    | true => exact iteT (ht rfl _ hr)
    | false => exact iteF (he rfl _ hr))
/-- if c: .., never -/
theorem dIf_no {c : DT} {t rest : DS} {Dd : DEnds} {σd : DSt} (hc : ∀ R : Bool → Prop, R false → c σd R) (hr : rest Dd σd) : dSeq (dIf c t dNext) rest Dd σd := hc _ (iteF hr)
theorem dAsg_k {m : DE} {i : Nat} {rest : DS} {Dd : DEnds} {σd : DSt} (P : D → Prop) (hm : ∀ R : D → Prop, (∀ d, P d → R d) → m σd R) (hr : ∀ d, P d → rest Dd (σd.set i (.val d))) : dSeq (dAsg m (dgName i)) rest Dd σd := hm _ hr
end PH
namespace PH
open PySem PySem.Spec L2
theorem dSeq_g {m n : DS} {Dd : DEnds} {σd : DSt} (P : DSt → Prop) (hm : ∀ N : DSt → Prop, (∀ σ, P σ → N σ) → m { Dd with nx := N } σd) (hn : ∀ σ, P σ → n Dd σ) : dSeq m n Dd σd := hm _ hn
end PH

/-! < of data; slices; in, not in; is None. -/
namespace PH
open PySem PySem.Spec L2
open PyProof.Rows (envOfC AllBare IntsAre)
section
variable {X : Cx} {a b e : Expr} {pos p2 : Pos} {ma mb : DE}
/-! < of data -/
def dLtD : DR2 := fun x y Q => match x, y with
  | .int i, .int j => Q (.bool (decide (i < j)))
  | .tuple xs, .tuple ys => PySem.W.alike (.tuple xs) (.tuple ys) = true ∧ (PyData.tuple xs).canLay0 = true ∧ (PyData.tuple ys).canLay0 = true ∧ (PyData.tuple xs).depth ≤ 60 ∧ Q (.bool (PySem.W.dataLt (.tuple xs) (.tuple ys)))
  | _, _ => False
def rLtD (K : PySem.W.Frag) : R2 := fun x y H Q => ∃ d e, Dp K H x d ∧ Dp K H y e ∧ PySem.W.alike d e = true ∧ d ≠ .none ∧ d.depth ≤ 60 ∧ Q (.bl (PySem.W.dataLt d e)) H
theorem op_ltD (hu : X.A.units + 64 < cLine) : OpR X (compareOp .Lt) (rLtD X.K) := by
  intro pins s σ H x y v u Q I rx ry h
  obtain ⟨d, e, hd, he, al, nn, dp, q⟩ := h
  obtain ⟨as, r1⟩ := Dp.reads I d x v hd rx
  obtain ⟨bs, r2⟩ := Dp.reads I e y u he ry
  exact PySem.W.lt_data r1 r2 al nn (by omega) ⟨.bl _, H, I, rfl, q⟩
abbrev rLtA (K : PySem.W.Frag) : R2 := fun x y H Q => rI0 (fun i j => .bl (decide (i < j))) x y H Q ∨ rLtD K x y H Q
theorem lr_ltD : LR (rLtA X.K) dLtD := by
  intro S M H x y dx dy Qd Q hm rx ry h k
  unfold dLtD at h
  split at h
  · exact .inl (lr_B0 (f := fun i j => decide (i < j)) S M H x y _ _ Qd Q hm rx ry h k)
  · obtain ⟨h1, h2, h3, h4, h5⟩ := h
    exact .inr ⟨_, _, rx.dp h2, ry.dp h3, h1, (fun z => nomatch z), h4, k _ _ H h5 (Same.refl _) (.bl _)⟩
  · exact h.elim
theorem pd_ltD (hu : X.A.units + 64 < cLine) (ha : PD X a ma) (hb : PD X b mb) : PD X (.Compare a [.Lt] [b] pos) (dOp dLtD ma mb) := pd_cmp (opr_or op_lt (op_ltD hu)) lr_ltD ha hb (nomark _)
theorem pdt_ltD (hu : X.A.units + 64 < cLine) (ha : PD X a ma) (hb : PD X b mb) : PDT X (.Compare a [.Lt] [b] pos) (dBoolT (dOp dLtD ma mb)) := pdt_cmp (opr_or op_lt (op_ltD hu)) lr_ltD ha hb (nomark _)
theorem dLt_ii {i j k l : Int} {Q : D → Prop} (h : Q (.bool (decide (i < k ∨ (i = k ∧ j < l))))) : dLtD (.tuple [.int i, .int j]) (.tuple [.int k, .int l]) Q := by
  refine ⟨by simp [PySem.W.alike, PySem.W.alikeAll], by simp [PyData.canLay0, PyData.canLayAll0], by simp [PyData.canLay0, PyData.canLayAll0], by simp [PyData.depth, PyData.depthAll], ?_⟩
  have e : PySem.W.dataLt (.tuple [.int i, .int j]) (.tuple [.int k, .int l]) = decide (i < k ∨ (i = k ∧ j < l)) := by
    simp only [PySem.W.dataLt, PySem.W.keyToks, PySem.W.keyToksAll, List.cons_append, List.nil_append]
    simp only [PyProof.Rows.lexLt]
    simp only [PyProof.Rows.itemLt]
    rcases Int.lt_trichotomy i k with z | z | z
    · simp [z]
    · subst z; simp
    · have h1 : ¬ i < k := by omega
      have h2 : ¬ i = k := by omega
      simp [z, h1, h2]
  rw [e]; exact h
/-! slices -/
abbrev DO := DSt → (Option Int → Prop) → Prop
def LO (t : TO) (m : DO) : Prop := ∀ (S : Sr) (M : Addr → Prop) (H0 H : Hp) (σ : L2.St) (σd : DSt) (Qd : Option Int → Prop) (Q : Option Int → Hp → Prop), Ev S M H0 H σ σd → m σd Qd →
  (∀ o H', Qd o → Ev S M H0 H' σ σd → KeepS S H H' → Q o H') → t σ H Q
def PDO (X : Cx) (e : Option Expr) (m : DO) : Prop := ∃ t, PO X e t ∧ LO t m
def dNoPart : DO := fun _ Q => Q none
def dPart (m : DE) : DO := fun σd Q => m σd fun d => match d with | .int i => Q (some i) | _ => False
theorem pdo_none : PDO X none dNoPart := ⟨_, po_none, fun S M H0 H σ σd Qd Q E h k => k none H h E .refl⟩
theorem pdo_some (h : PD X e ma) : PDO X (some e) (dPart ma) := by
  obtain ⟨t, h1, l1⟩ := h
  refine ⟨_, po_some h1, fun S M H0 H σ σd Qd Q E h k => l1 S M H0 H σ σd _ _ E h fun d v H1 q E1 k1 r1 => ?_⟩
  cases r1 <;> first | exact q.elim | skip
  exact ⟨_, rfl, k _ H1 q E1 k1⟩
def cutD (xs : List D) (lo hi : Option Int) : List D := (xs.drop (HT.sIx xs.length 0 lo)).take (HT.sIx xs.length xs.length hi - HT.sIx xs.length 0 lo)
theorem Dqs.cut {S : Sr} {M : Addr → Prop} {H : Hp} {xs : List V} {ds : List D} (r : Dqs S M H xs ds) (lo hi : Option Int) : Dqs S M H (cutV xs lo hi) (cutD ds lo hi) := by
  unfold cutV cutD
  rw [r.length]
  exact (r.drop _).take _
def dSlA (x : D) (lo hi : Option Int) (Q : D → Prop) : Prop := match x with
  | .list xs => Q (.list (cutD xs lo hi))
  | .tuple xs => Q (.tuple (cutD xs lo hi))
  | _ => False
def dSl (m : DE) (lo hi : DO) : DE := fun σd Q => m σd fun x => lo σd fun l => hi σd fun u => dSlA x l u Q
abbrev rSlE (K : PySem.W.Frag) : V → Option Int → Option Int → Hp → VK → Prop := fun x lo hi H Q => rSlL K x lo hi H Q ∨ rSlA K x lo hi H Q
theorem le_sl {t : TE} {tl th : TO} {m : DE} {lo hi : DO} (h : LE t m) (hl : LO tl lo) (hh : LO th hi) : LE (tSl (rSlE X.K) t tl th) (dSl m lo hi) := by
  intro S M H0 H σ σd Qd Q E hm k
  refine h S M H0 H σ σd _ _ E hm fun d v H1 q E1 k1 r1 => hl S M H0 H1 σ σd _ _ E1 q fun l H2 q E2 k2 => hh S M H0 H2 σ σd _ _ E2 q fun u H3 q E3 k3 => ?_
  have r3 := E2.dq k3 (E1.dq k2 r1)
  have kk := k1.trans (k2.trans k3)
  cases r3 with
  | non => exact q.elim
  | bl b => exact q.elim
  | int i => exact q.elim
  | str x => exact q.elim
  | dic n e => exact q.elim
  | src e => exact q.elim
  | @lst a xs ds na e r =>
    refine .inl ⟨a, xs, rfl, .inl (.inl e), fun p hp => ?_⟩
    have s := Same.upd (o := .lst (cutV xs l u)) hp
    refine k _ _ _ q (E3.same s) (kk.trans (.of s)) (.lst (fun z => E3.mtO p z hp) upd_same ?_)
    exact E3.dqs (.of s) (r.cut l u)
  | @tup a xs ds na e r =>
    have hlen := r.length
    refine .inr ⟨a, xs, rfl, .inl (.inl e), fun hw => ?_, fun hw p hp => ?_⟩
    · have e2 : cutD ds l u = ds := by
        unfold cutD
        rw [← hlen, hw.1, hw.2, hlen]
        simp
      refine k _ _ H3 q E3 kk ?_
      rw [e2]
      exact .tup na e r
    · have s := Same.upd (o := .tup (cutV xs l u)) hp
      refine k _ _ _ q (E3.same s) (kk.trans (.of s)) (.tup (fun z => E3.mtO p z hp) upd_same ?_)
      exact E3.dqs (.of s) (r.cut l u)
theorem pd_sl {lo hi : Option Expr} {ml mh : DO} (ha : PD X e ma) (hl : PDO X lo ml) (hh : PDO X hi mh) : PD X (.Subscript e (.Slice lo hi none p2) pos) (dSl ma ml mh) :=
  let ⟨_, h1, l1⟩ := ha; let ⟨_, h2, l2⟩ := hl; let ⟨_, h3, l3⟩ := hh; ⟨_, pe_slice (SlR.or sl_list sl_tupA) h1 h2 h3, le_sl l1 l2 l3⟩
/-! in, not in -/
def dIn (neg : Bool) : DR2 := fun x y Q => match y with
  | .list ds => SeqAt.shaped x = true ∧ SeqAt.shaped (.list ds) = true ∧ Q (.bool (if neg = true then !(ds.any fun z => PyData.eqv z x) else ds.any fun z => PyData.eqv z x))
  | .tuple ds => SeqAt.shaped x = true ∧ SeqAt.shaped (.list ds) = true ∧ Q (.bool (if neg = true then !(ds.any fun z => PyData.eqv z x) else ds.any fun z => PyData.eqv z x))
  | _ => False
def rInT (K : PySem.W.Frag) (neg : Bool) : R2 := fun x y H Q => ∃ d ds, Dp K H x d ∧ (Dp K H y (.list ds) ∨ Dp K H y (.tuple ds)) ∧ SeqAt.shaped d = true ∧ SeqAt.shaped (.list ds) = true ∧ Q (.bl (if neg = true then !(ds.any fun z => PyData.eqv z d) else ds.any fun z => PyData.eqv z d)) H
theorem op_inT (hu : X.A.units + 65 < cLine) : OpR X (compareOp .In) (rInT X.K false) := by
  intro pins s σ H x y v u Q I rx ry h
  obtain ⟨d, ds, hd, he, sd, se, q⟩ := h
  obtain ⟨as, r1⟩ := Dp.reads I d x v hd rx
  rcases he with he | he
  · obtain ⟨bs, r2⟩ := Dp.reads I (.list ds) y u he ry
    exact SeqAt.in_list_reads r2 r1 (SeqAt.canLay_of_shaped se) (SeqAt.canLay_of_shaped sd) (PyProof.Rows.room_in_shaped sd hu) ⟨.bl _, H, I, rfl, q⟩
  · obtain ⟨bs, r2⟩ := Dp.reads I (.tuple ds) y u he ry
    exact SeqAt.in_tuple_reads r2 r1 (SeqAt.canLay_of_shaped se) (SeqAt.canLay_of_shaped sd) (PyProof.Rows.room_in_shaped sd hu) ⟨.bl _, H, I, rfl, q⟩
theorem op_notInT (hu : X.A.units + 65 < cLine) : OpR X (compareOp .NotIn) (rInT X.K true) := by
  intro pins s σ H x y v u Q I rx ry h
  obtain ⟨d, ds, hd, he, sd, se, q⟩ := h
  obtain ⟨as, r1⟩ := Dp.reads I d x v hd rx
  rcases he with he | he
  · obtain ⟨bs, r2⟩ := Dp.reads I (.list ds) y u he ry
    exact SeqAt.notIn_list_reads r2 r1 (SeqAt.canLay_of_shaped se) (SeqAt.canLay_of_shaped sd) (PyProof.Rows.room_in_shaped sd hu) ⟨.bl _, H, I, rfl, q⟩
  · obtain ⟨bs, r2⟩ := Dp.reads I (.tuple ds) y u he ry
    exact SeqAt.notIn_tuple_reads r2 r1 (SeqAt.canLay_of_shaped se) (SeqAt.canLay_of_shaped sd) (PyProof.Rows.room_in_shaped sd hu) ⟨.bl _, H, I, rfl, q⟩
theorem shaped_lay {ds : List D} (h : SeqAt.shaped (.list ds) = true) : (PyData.tuple ds).canLay0 = true := by
  have := lay_of h
  simpa [PyData.canLay0] using this
theorem lr_inT {neg : Bool} : LR (rInT X.K neg) (dIn neg) := by
  intro S M H x y dx dy Qd Q hm rx ry h k
  unfold dIn at h
  split at h
  · obtain ⟨h1, h2, h3⟩ := h
    exact ⟨_, _, rx.dp (lay_of h1), .inl (ry.dp (lay_of h2)), h1, h2, k _ _ H h3 (Same.refl _) (.bl _)⟩
  · obtain ⟨h1, h2, h3⟩ := h
    exact ⟨_, _, rx.dp (lay_of h1), .inr (ry.dp (shaped_lay h2)), h1, h2, k _ _ H h3 (Same.refl _) (.bl _)⟩
  · exact h.elim
theorem pd_in (hu : X.A.units + 65 < cLine) (ha : PD X a ma) (hb : PD X b mb) (hm : behindInMarks .In b = false := by rfl) : PD X (.Compare a [.In] [b] pos) (dOp (dIn false) ma mb) := pd_cmp (op_inT hu) lr_inT ha hb hm
theorem pd_notin (hu : X.A.units + 65 < cLine) (ha : PD X a ma) (hb : PD X b mb) (hm : behindInMarks .NotIn b = false := by rfl) : PD X (.Compare a [.NotIn] [b] pos) (dOp (dIn true) ma mb) := pd_cmp (op_notInT hu) lr_inT ha hb hm
theorem pdt_in (hu : X.A.units + 65 < cLine) (ha : PD X a ma) (hb : PD X b mb) (hm : behindInMarks .In b = false := by rfl) : PDT X (.Compare a [.In] [b] pos) (dBoolT (dOp (dIn false) ma mb)) := pdt_cmp (op_inT hu) lr_inT ha hb hm
theorem pdt_notin (hu : X.A.units + 65 < cLine) (ha : PD X a ma) (hb : PD X b mb) (hm : behindInMarks .NotIn b = false := by rfl) : PDT X (.Compare a [.NotIn] [b] pos) (dBoolT (dOp (dIn true) ma mb)) := pdt_cmp (op_notInT hu) lr_inT ha hb hm
/-! is None -/
def isNon : D → Bool
  | .none => true
  | _ => false
def dIsN (neg : Bool) : DR2 := fun x y Q => match y with | .none => Q (.bool (if neg = true then !isNon x else isNon x)) | _ => False
theorem isNon_iff {S : Sr} {M : Addr → Prop} {H : Hp} {x : V} {d : D} (r : Dq S M H x d) : decide (x = V.non) = isNon d := by
  cases r <;> simp [isNon]
theorem lr_isN : LR (fun x y H Q => y = .non ∧ Q (.bl (decide (x = .non))) H) (dIsN false) := by
  intro S M H x y dx dy Qd Q hm rx ry h k
  unfold dIsN at h
  split at h
  · cases ry
    refine ⟨rfl, ?_⟩
    rw [isNon_iff rx]
    exact k _ _ H h (Same.refl _) (.bl _)
  · exact h.elim
theorem lr_notN : LR (fun x y H Q => y = .non ∧ Q (.bl (!decide (x = .non))) H) (dIsN true) := by
  intro S M H x y dx dy Qd Q hm rx ry h k
  unfold dIsN at h
  split at h
  · cases ry
    refine ⟨rfl, ?_⟩
    rw [isNon_iff rx]
    exact k _ _ H h (Same.refl _) (.bl _)
  · exact h.elim
theorem pd_isN (ha : PD X a ma) (hb : PD X b mb) : PD X (.Compare a [.Is] [b] pos) (dOp (dIsN false) ma mb) := pd_cmp op_isN lr_isN ha hb (nomark _)
theorem pd_notN (ha : PD X a ma) (hb : PD X b mb) : PD X (.Compare a [.IsNot] [b] pos) (dOp (dIsN true) ma mb) := pd_cmp op_notN lr_notN ha hb (nomark _)
theorem pdt_isN (ha : PD X a ma) (hb : PD X b mb) : PDT X (.Compare a [.Is] [b] pos) (dBoolT (dOp (dIsN false) ma mb)) := pdt_cmp op_isN lr_isN ha hb (nomark _)
theorem pdt_notN (ha : PD X a ma) (hb : PD X b mb) : PDT X (.Compare a [.IsNot] [b] pos) (dBoolT (dOp (dIsN true) ma mb)) := pdt_cmp op_notN lr_notN ha hb (nomark _)

/-! targets of comprehensions; y = [.. if ..] -/
theorem dgl_nil : ∀ ds σd Q, dgNil ds σd Q → ds.length = 0 := fun ds σd Q h => by cases ds with | nil => rfl | cons _ _ => exact h.elim
theorem dgl_cons {i n : Nat} {dg : DGs} (q : ∀ ds σd Q, dg ds σd Q → ds.length = n) : ∀ ds σd Q, dgCons (dgName i) dg ds σd Q → ds.length = n + 1 := fun ds σd Q z => by
  cases ds with
  | nil => exact z.elim
  | cons d r => exact congrArg (· + 1) (q r _ Q z)
theorem psd_setLci {Wx : WX} {tg iter elt c : Expr} {i : Nat} {y : Str} {py spos : Pos} {scope : Scope} {own : List (Str × Nat)} {mi : DA} {g : TG} {dg : DG} {mt : DT} {me : DE} (hc : X.calm = true) (hN : X.N.Nodup) (hy : X.N[i]? = some y) (hyl : X.env.scope.names.lookup y = some .local)
    (hsw : swapsWith (.ListComp elt [⟨tg, iter, [c], 0⟩] scope pos) (some (.Name y py)) spos.line X.env = pure true) (hi : PDI X tg iter mi) (ok : blkC X.N X.env.scope scope own = true)
    (hg : ∀ (s : Shared) (H : Hp) (C : Addr) (cl : List (Str × Addr)) (fp : List Addr), PG (X.blk s H scope (compEnvC scope cl C X.env) fp) tg g) (lg : LG g dg) (sg : Sets g (own.map (·.2)))
    (ht : ∀ (s : Shared) (H : Hp) (C : Addr) (cl : List (Str × Addr)) (fp : List Addr), PDT (X.blk s H scope (compEnvC scope cl C X.env) fp) c mt)
    (he : ∀ (s : Shared) (H : Hp) (C : Addr) (cl : List (Str × Addr)) (fp : List Addr), PD (X.blk s H scope (compEnvC scope cl C X.env) fp) elt me) (hs : ∀ x, foldedSetIterable iter X.env x = pure x := by intro _; rfl) :
    PDS Wx X (.Assign [.Name y py] (.ListComp elt [⟨tg, iter, [c], 0⟩] scope pos) spos) (dAsg (dLst (dLcc mi dg mt me (own.map (·.2)))) (dgName i)) :=
  let ⟨_, h1, l1⟩ := hi; ⟨_, ps_setLc hc hN hy hyl hsw h1 (blkOk_by ok) hg (fun s H C cl fp => pts_one (ht s H C cl fp).pt) (fun s H C cl fp => (he s H C cl fp).pe) hs, ls_asg (ln_lc l1 lg sg lt_ofT le_of).le (lg_name i)⟩
end
end PH
namespace PH
open L2
theorem _root_.L2.Room.units2 {k : Nat} {A : PySem.Around} (r : L2.Room k A) : A.units + 65 < PySem.cLine := by have := r.un; omega
end PH

/-! sum, tuple(..), list(..); x, y = [], ..; lists new from calls. -/
namespace PH
open PySem PySem.Spec L2
open PyProof.Rows (envOfC AllBare IntsAre)
/-! sum, any, tuple, list -/
def intsOf : List D → Option (List Int)
  | [] => some []
  | .int b :: r => (intsOf r).map (b :: ·)
  | _ => none
theorem intsOf_vs {S : Sr} {M : Addr → Prop} {H : Hp} : ∀ {vs : List V} {ds : List D} {bs : List Int}, Dqs S M H vs ds → intsOf ds = some bs → vs = bs.map V.int
  | _, _, _, .nil, h => by cases h; rfl
  | _, _, _, .cons a r, h => by
    cases a <;> simp only [intsOf] at h <;> try cases h
    obtain ⟨b', h1, h2⟩ := Option.map_eq_some_iff.mp h
    subst h2
    rw [intsOf_vs r h1]; rfl
theorem intsOf_map (ns : List Int) : intsOf (ns.map PyData.int) = some ns := by
  induction ns with
  | nil => rfl
  | cons n ns ih => simp [intsOf, ih]
def dSum : DRC := fun ds Q => match ds with
  | [.list xs] => (match intsOf xs with | some ns => Q (.int ns.sum) | none => False)
  | _ => False
theorem lc_sum {K : PySem.W.Frag} : LC (rSum K) dSum := by
  intro S M H xs ds Qd Q hm r h k
  unfold dSum at h
  split at h
  · split at h
    · rename_i bs e
      cases r with
      | cons a b =>
        cases b
        cases a with
        | lst na ea ra => exact ⟨_, bs, rfl, .inl (.inl (by rw [← intsOf_vs ra e]; exact ea)), k _ _ H h (Same.refl _) (.int _)⟩
    · exact h.elim
  · exact h.elim
def dAny : DRC := fun ds Q => match ds with
  | [.list xs] => (match boolsD xs with | some bs => Q (.bool (bs.any id)) | none => False)
  | _ => False
theorem lc_any {K : PySem.W.Frag} : LC (rAny K) dAny := by
  intro S M H xs ds Qd Q hm r h k
  unfold dAny at h
  split at h
  · split at h
    · rename_i bs e
      cases r with
      | cons a b =>
        cases b
        cases a with
        | lst na ea ra => exact ⟨_, bs, rfl, .inl (.inl (by rw [← boolsD_vs ra e]; exact ea)), k _ _ H h (Same.refl _) (.bl _)⟩
    · exact h.elim
  · exact h.elim
def dTupOf : DRC := fun ds Q => match ds with
  | [.list xs] => Q (.tuple xs)
  | [.tuple xs] => Q (.tuple xs)
  | _ => False
theorem lc_tupOf {K : PySem.W.Frag} : LC (fun xs H Q => ∃ p ys, xs = [.ref p] ∧ ((SqL K H p ys ∧ ∀ l, H l = none → Q (.ref l) (upd H l (.tup ys))) ∨ (SqT K H p ys ∧ Q (.ref p) H))) dTupOf := by
  intro S M H xs ds Qd Q hm r h k
  unfold dTupOf at h
  split at h
  · cases r with
    | cons a b =>
      cases b
      cases a with
      | @lst a' vs _ na ea ra =>
        refine ⟨_, _, rfl, .inl ⟨.inl (.inl ea), fun l hl => ?_⟩⟩
        have s := Same.upd (o := .tup vs) hl
        exact k _ _ _ h s (.tup (fun z => hm l z hl) upd_same (ra.go fun a o n e => ⟨n, s a o e⟩))
  · cases r with
    | cons a b =>
      cases b
      cases a with
      | tup na ea ra => exact ⟨_, _, rfl, .inr ⟨.inl (.inl ea), k _ _ H h (Same.refl _) (.tup na ea ra)⟩⟩
  · exact h.elim
def dLstOf : DRC := fun ds Q => match ds with
  | [.list xs] => Q (.list xs)
  | [.tuple xs] => Q (.list xs)
  | _ => False
theorem lc_lstOf {K : PySem.W.Frag} : LC (fun xs H Q => ∃ p ys, xs = [.ref p] ∧ (SqL K H p ys ∨ SqT K H p ys) ∧ ∀ l, H l = none → Q (.ref l) (upd H l (.lst ys))) dLstOf := by
  intro S M H xs ds Qd Q hm r h k
  unfold dLstOf at h
  split at h
  · cases r with
    | cons a b =>
      cases b
      cases a with
      | @lst a' vs _ na ea ra =>
        refine ⟨_, _, rfl, .inl (.inl (.inl ea)), fun l hl => ?_⟩
        have s := Same.upd (o := .lst vs) hl
        exact k _ _ _ h s (.lst (fun z => hm l z hl) upd_same (ra.go fun a o n e => ⟨n, s a o e⟩))
  · cases r with
    | cons a b =>
      cases b
      cases a with
      | @tup a' vs _ na ea ra =>
        refine ⟨_, _, rfl, .inr (.inl (.inl ea)), fun l hl => ?_⟩
        have s := Same.upd (o := .lst vs) hl
        exact k _ _ _ h s (.lst (fun z => hm l z hl) upd_same (ra.go fun a o n e => ⟨n, s a o e⟩))
  · exact h.elim
/-! a frame with one place more that none may reach -/
section
variable {S : Sr} {M : Addr → Prop} {H0 H H2 : Hp} {σ : L2.St} {σd : DSt}
theorem Ev.noMO (E : Ev S M H0 H σ σd) {p : Addr} (h : H p = none) : ¬ MO M σd p := fun z => E.mtO p z h
theorem Ev.plus (E : Ev S M H0 H σ σd) (k : KeepS S H H2) (src : SrcOk S M H2) {p : Addr} (hp : H p = none) (h2 : H2 p ≠ none) (hmt : ∀ a, M a → H2 a ≠ none) : Ev S (fun a => M a ∨ a = p) (less H2 σd) H2 σ σd := by
  refine E.remakeT (fun a o n e => ⟨fun z => ?_, (E.kp k a o n e).2⟩) (fun a ds z => ?_) (src.more fun _ z => .inl z) (fun a z => ?_)
  · rcases z with (z | z) | z
    · exact n (.inl z)
    · rw [z, hp] at e; cases e
    · exact n (.inr z)
  · obtain ⟨i, hi⟩ := List.getElem?_of_mem z
    obtain ⟨o, _, _, xs, e, _⟩ := E.slot hi
    refine ⟨by rw [k.k a _ e (E.ownNe z), e], fun y => ?_⟩
    rcases y with y | y
    · exact E.ownM z y
    · rw [y, hp] at e; cases e
  · rcases z with z | z
    · exact hmt a z
    · rw [z]; exact h2
theorem Ev.forget (E : Ev S M H0 H σ σd) (i : Nat) (x : Option V) : Ev S M H0 H (σ.set i x) (σd.set i .emp) := by
  have sub : ∀ a, MO M (σd.set i .emp) a → MO M σd a := fun a h => by
    rcases h with h | ⟨ds, h⟩
    · exact .inl h
    · rcases List.mem_or_eq_of_mem_set h with h | h
      · exact .inr ⟨ds, h⟩
      · cases h
  have g : ∀ a o, ¬ MO M σd a → H a = some o → ¬ MO M (σd.set i .emp) a ∧ H a = some o := fun a o n e => ⟨fun z => n (sub a z), e⟩
  have ow : ∀ {j : Nat} {a : Addr} {ds : List D}, (σd.set i .emp)[j]? = some (Sl.own a ds) → σd[j]? = some (Sl.own a ds) := fun {j a ds} h => by
    rw [List.getElem?_set] at h
    split at h
    · first
        | cases h
        | (split at h <;> cases h)
    · exact h
  refine ⟨by rw [List.length_set, List.length_set]; exact E.len, fun j o s h1 h2 => ?_, fun j k a ds es h1 h2 => E.uni j k a ds es (ow h1) (ow h2), fun a ds h => ?_, E.src, E.src0, E.keep, E.mt, E.mt0⟩
  · rw [List.getElem?_set] at h1 h2
    by_cases hj : i = j
    · rw [if_pos hj] at h1 h2
      split at h2
      · cases h2; trivial
      · cases h2
    · rw [if_neg hj] at h1 h2
      have z := E.sl j o s h1 h2
      cases s with
      | emp => trivial
      | val d => obtain ⟨w, e, q⟩ := z; exact ⟨w, e, q.go g⟩
      | own a ds => obtain ⟨e, xs, h, q⟩ := z; exact ⟨e, xs, h, q.go g⟩
  · rcases List.mem_or_eq_of_mem_set h with h | h
    · exact E.new a ds h
    · cases h
end
/-! x, y = [], e; x is changed behind -/
section
variable {X : Cx} {Wx : WX} {b : Expr} {pos p1 : Pos}
def dParO (i j : Nat) (m : DE) : DS := fun Dd σd => m σd fun e => ∀ p, Dd.nx ((σd.set i (Sl.own p [])).set j (.val e))
theorem ls_parO {i j : Nat} {te : TE} {me : DE} (h : LE te me) : LS Wx (tPar i j (tCons (tLst tNil) (tCons te tNil))) (dParO i j me) := by
  intro S M H0 H σ σd Dd Dn E hm r
  unfold tPar tCons
  refine (ln_lst la_nil) S M H0 H σ σd (fun ds => ds = []) _ E rfl fun ds p xs H1 q E1 k1 hp e1 r1 => ?_
  subst q
  have E1' := E.plus k1 E1.src hp (by rw [e1]; exact fun z => nomatch z) E1.mt
  refine h S _ _ H1 σ σd _ _ E1' hm fun d v H2 q E2 k2 r2 => ?_
  have src2 : SrcOk S M H2 := E1.src.at E2.src
  have E2' := E1.ext k2 src2
  have np : ∀ p' c, S = some (p', c) → p ≠ p' ∧ p ≠ c := fun p' c e => by
    obtain ⟨a, b, _⟩ := E.src.go p' c e
    exact ⟨fun z => E.mt p' a (z ▸ hp), fun z => E.mt c b (z ▸ hp)⟩
  have e2 : H2 p = some (.lst xs) := k2.k p _ e1 np
  have r1' : Dqs S (fun a => MO M σd a ∨ a = p) H2 xs [] := by cases r1; exact .nil
  refine ⟨_, _, rfl, r.1 _ _ _ (q p) ((E2'.own (i := i) E (k1.trans k2) hp e2 r1').put (r2.go fun a o n e => ⟨fun z => n ?_, e⟩))⟩
  rcases z with z | ⟨ds, z⟩
  · exact .inl (.inl z)
  · rcases List.mem_or_eq_of_mem_set z with z | z
    · exact .inr ⟨ds, z⟩
    · cases z; exact .inl (.inr rfl)
theorem psd_parO {i j : Nat} {x y : Str} {px py pt : Pos} {kt k2 pt2} {me : DE} (hc : X.calm = true) (hN : X.N.Nodup) (hi : X.N[i]? = some x) (hj : X.N[j]? = some y) (hij : i ≠ j)
    (hx : X.env.scope.names.lookup x = some .local) (hy : X.env.scope.names.lookup y = some .local) (hb : PD X b me)
    (hw : swappedStores [.Tuple [.Name x px, .Name y py] kt pt] (.Tuple [.List [] p1, b] k2 pt2) X.env = pure (some [x, y]))
    (hs1 : starEach [.List [] p1, b] X.env = (false, eval (.List [] p1) X.env) :: starEach [b] X.env := by rfl) (hs2 : starEach [b] X.env = (false, eval b X.env) :: starEach [] X.env := by rfl)
    (hs : swapsWithSole [.Tuple [.Name x px, .Name y py] kt pt] (.Tuple [.List [] p1, b] k2 pt2) pos.line X.env = pure false := by rfl) :
    PDS Wx X (.Assign [.Tuple [.Name x px, .Name y py] kt pt] (.Tuple [.List [] p1, b] k2 pt2) pos) (dParO i j me) := let ⟨_, h1, l1⟩ := hb; ⟨_, ps_par hc hN hi hj hij hx hy (pa_cons (pe_lst pa_nil) (pa_cons h1 pa_nil hs2) hs1) hw hs, ls_parO l1⟩
end
end PH

/-! Lists that calls hand out are new; such within a new list, changed behind. -/
namespace PH
open PySem PySem.Spec L2
open PyProof.Rows (envOfC AllBare IntsAre)
mutual
/-- no list, no dict in it -/
def listFree : D → Bool
  | .list _ => false
  | .dict _ => false
  | .tuple xs => listFrees xs
  | _ => true
def listFrees : List D → Bool
  | [] => true
  | x :: xs => listFree x && listFrees xs
end
section
variable {S : Sr} {M M' : Addr → Prop} {H : Hp}
mutual
theorem Dq.lf (hM : ∀ b, M' b → M b ∨ ∃ xs, H b = some (.lst xs)) : ∀ {d : D} {v : V}, Dq S M H v d → listFree d = true → Dq S M' H v d
  | _, _, .non, _ => .non
  | _, _, .bl b, _ => .bl b
  | _, _, .int i, _ => .int i
  | _, _, .str x, _ => .str x
  | _, _, .lst n e r, h => by simp [listFree] at h
  | _, _, .tup n e r, h => .tup (fun z => by
      rcases hM _ z with z | ⟨xs, z⟩
      · exact n z
      · rw [e] at z; cases z) e (Dqs.lf hM r (by simpa [listFree] using h))
  | _, _, .dic _ _, h => by simp [listFree] at h
  | _, _, .src _, h => by simp [listFree] at h
theorem Dqs.lf (hM : ∀ b, M' b → M b ∨ ∃ xs, H b = some (.lst xs)) : ∀ {ds : List D} {vs : List V}, Dqs S M H vs ds → listFrees ds = true → Dqs S M' H vs ds
  | _, _, .nil, _ => .nil
  | _, _, .cons a b, h => by
    simp only [listFrees, Bool.and_eq_true] at h
    exact .cons (Dq.lf hM a h.1) (Dqs.lf hM b h.2)
end
end
/-- a list that a call hands out, the arguments without lists: it is new -/
theorem lf_call {n : Nat} {spd : DSp} {tA : TA} {mA : DA} (hA : LA n tA mA) {S : Sr} {M : Addr → Prop} {H0 H : Hp} {σ : L2.St} {σd : DSt} (d1 : List D) {Q : VK} (E : Ev S M H0 H σ σd) (hl : listFrees d1 = true)
    (hm : mA σd fun ds => listFrees ds = true ∧ spd ds fun d => d = .list d1)
    (k : ∀ (a : Addr) (xs : List V) (H' : Hp), H a = none → KeepS S H H' → Ev S M H0 H' σ σd → H' a = some (.lst xs) → Dqs S (fun b => MO M σd b ∨ b = a) H' xs d1 → Q (.ref a) H') : tCallG (SpD n spd) tA σ H Q := by
  refine hA S M H0 H σ σd _ _ E hm fun ds vs HA q EA kA rA hlen => ?_
  let M1 : Addr → Prop := fun b => MO M σd b ∨ ∃ xs, HA b = some (.lst xs)
  have so : SrcOk S M1 HA := EA.src.more fun _ z => .inl (.inl z)
  have mt1 : ∀ a, M1 a → HA a ≠ none := fun a h => by
    rcases h with h | ⟨xs, h⟩
    · exact EA.mtO a h
    · rw [h]; exact fun z => nomatch z
  refine ⟨S, M1, ds, _, mt1, so, rA.lf (fun b z => z) q.1, hlen, q.2, fun d v H' qd k' s' r' => ?_⟩
  subst qd
  cases r' with
  | @lst a xs _ na e r =>
    have hsrc : ∀ p c, S = some (p, c) → a ≠ p ∧ a ≠ c := fun p c e' => by
      obtain ⟨h1, h2, _⟩ := so.go p c e'
      exact ⟨fun z => na (z ▸ h1), fun z => na (z ▸ h2)⟩
    have an : HA a = none := by
      cases z : HA a with
      | none => rfl
      | some o =>
        rcases k' a o z hsrc with this | ⟨_, _, _, this⟩
        · rw [e] at this
          cases this
          exact absurd (.inr ⟨xs, z⟩) na
        · rw [e] at this
          cases this
    have src2 : SrcOk S M H' := EA.src.at s'
    have E' := EA.ext k' src2
    refine k a xs H' (fresh_back E kA an EA.src) (kA.trans k') E' e (r.lf (fun b z => ?_) hl)
    rcases z with z | z
    · exact .inl (.inl z)
    · exact .inr ⟨xs, by rw [z]; exact e⟩
section
variable {X : Cx} {Wx : WX}
def dNest (i nF nG : Nat) (spF spG : DSp) (mA mB : DA) (mT : DT) : DS := fun Dd σd => ∃ d1 d2 : List D, (mA σd fun ds => listFrees ds = true ∧ spF ds fun d => d = .list d1) ∧ (mB σd fun ds => listFrees ds = true ∧ spG ds fun d => d = .list d2) ∧
  (listFrees d1 = true ∧ listFrees d2 = true ∧ d1.length ≤ 1000000 ∧ d2.length ≤ 1000000 ∧ i < σd.length) ∧ (mT (σd.set i (.val (.list [.list d1, .list d2]))) fun b => b = false) ∧ Dd.nx (σd.set i .emp)
theorem ls_nest {K : PySem.W.Frag} {i nF nG : Nat} {spF spG : DSp} {tA tB : TA} {mA mB : DA} {tT : TT} {mT : DT} {tR : TS} (hA : LA nF tA mA) (hB : LA nG tB mB) (hT : LT tT mT) :
    LS Wx (tSeq (tAsg (tLst (tCons (tCallG (SpD nF spF) tA) (tCons (tCallG (SpD nG spG) tB) tNil))) (gName i)) (tSeq (tIfS tT tR tNext)
      (tSeq (tDrop (tBM K "list" rAppend (tOp (rIx K) (tVar i) (tC (.int 0))) (tCons (tC .non) tNil))) (tDrop (tBM K "list" rAppend (tOp (rIx K) (tVar i) (tC (.int 1))) (tCons (tC .non) tNil)))))) (dNest i nF nG spF spG mA mB mT) := by
  intro S M H0 H σ σd Dd Dn E hm r
  obtain ⟨d1, d2, ha, hb, ⟨l1, l2, n1, n2, hi⟩, ht, hnx⟩ := hm
  have hi' : i < σ.length := by rw [← E.len]; exact hi
  unfold tSeq tAsg tLst tCons
  refine lf_call hA d1 E l1 ha fun a1 xs1 H1 f1 k1 E1 e1 r1 => ?_
  refine lf_call hB d2 E1 l2 hb fun a2 xs2 H2 f2 k2 E2 e2 r2 => ⟨by show 2 ≤ sizeLine; rw [sizeLine_eq]; omega, fun p hp => ?_⟩
  have ns1 : ∀ p c, S = some (p, c) → a1 ≠ p ∧ a1 ≠ c := fun p' c e' => by
    obtain ⟨a, b, _⟩ := E.src.go p' c e'
    exact ⟨fun z => E.mt p' a (z ▸ f1), fun z => E.mt c b (z ▸ f1)⟩
  have ns2 : ∀ p c, S = some (p, c) → a2 ≠ p ∧ a2 ≠ c := fun p' c e' => by
    obtain ⟨a, b, _⟩ := E1.src.go p' c e'
    exact ⟨fun z => E1.mt p' a (z ▸ f2), fun z => E1.mt c b (z ▸ f2)⟩
  have e1' : H2 a1 = some (.lst xs1) := k2.k a1 _ e1 ns1
  have n12 : a1 ≠ a2 := fun z => by rw [z, f2] at e1; cases e1
  have np1 : a1 ≠ p := ne_of_none e1' hp
  have np2 : a2 ≠ p := ne_of_none e2 hp
  have s3 : Same H2 (upd H2 p (.lst [.ref a1, .ref a2])) := Same.upd hp
  have E3 := E2.same s3
  have o1 : ¬ MO M σd a1 := E.noMO f1
  have o2 : ¬ MO M σd a2 := E1.noMO f2
  have o3 : ¬ MO M σd p := E2.noMO hp
  have r1' : Dqs S (MO M σd) (upd H2 p (.lst [.ref a1, .ref a2])) xs1 d1 := (r1.goT fun a o n e => ⟨fun z => n (.inl z), (E1.kp k2 a o (fun z => n (.inl z)) e).2⟩).go fun a o n e => ⟨n, s3 a o e⟩
  have r2' : Dqs S (MO M σd) (upd H2 p (.lst [.ref a1, .ref a2])) xs2 d2 := r2.go fun a o n e => ⟨fun z => n (.inl z), s3 a o e⟩
  have D3 : Dq S (MO M σd) (upd H2 p (.lst [.ref a1, .ref a2])) (.ref p) (.list [.list d1, .list d2]) :=
    .lst o3 upd_same (.cons (.lst o1 (s3 _ _ e1') r1') (.cons (.lst o2 (s3 _ _ e2) r2') .nil))
  have E3' := E3.put (i := i) D3
  show tIfS tT tR tNext _ (σ.set i (some (.ref p))) _
  unfold tIfS
  refine hT S M H0 _ _ _ _ _ E3' ht fun b H4 qb E4 k4 => ?_
  subst qb
  rw [if_neg (by decide)]
  have nsp : ∀ p' c, S = some (p', c) → p ≠ p' ∧ p ≠ c := fun p' c e' => by
    obtain ⟨a, b, _⟩ := E2.src.go p' c e'
    exact ⟨fun z => E2.mt p' a (z ▸ hp), fun z => E2.mt c b (z ▸ hp)⟩
  have ep : H4 p = some (.lst [.ref a1, .ref a2]) := k4.k p _ upd_same nsp
  have e14 : H4 a1 = some (.lst xs1) := k4.k a1 _ (s3 _ _ e1') ns1
  have e24 : H4 a2 = some (.lst xs2) := k4.k a2 _ (s3 _ _ e2) ns2
  have sl : (σ.set i (some (.ref p)))[i]? = some (some (.ref p)) := by rw [List.getElem?_set, if_pos rfl, if_pos hi']
  have z1 : xs1.length < sizeLine := by rw [r1.length, sizeLine_eq]; omega
  have z2 : xs2.length < sizeLine := by rw [r2.length, sizeLine_eq]; omega
  show tDrop (tBM K "list" rAppend (tOp (rIx K) (tVar i) (tC (.int 0))) (tCons (tC .non) tNil)) _ _ H4
  refine ⟨.ref p, sl, .inl ⟨p, _, 0, .ref a1, rfl, rfl, .inl (.inl ep), rfl, .inl ⟨rfl, _, .inl (.inl e14)⟩, a1, xs1, .non, rfl, rfl, e14, z1, ?_⟩⟩
  have ep5 : upd H4 a1 (.lst (xs1 ++ [.non])) p = some (.lst [.ref a1, .ref a2]) := by rw [upd_ne np1.symm]; exact ep
  have e25 : upd H4 a1 (.lst (xs1 ++ [.non])) a2 = some (.lst xs2) := by rw [upd_ne n12.symm]; exact e24
  show tDrop (tBM K "list" rAppend (tOp (rIx K) (tVar i) (tC (.int 1))) (tCons (tC .non) tNil)) Dn _ _
  refine ⟨.ref p, sl, .inl ⟨p, _, 1, .ref a2, rfl, rfl, .inl (.inl ep5), rfl, .inl ⟨rfl, _, .inl (.inl e25)⟩, a2, xs2, .non, rfl, rfl, e25, z2, ?_⟩⟩
  -- the frame behind
  have kall : KeepS S H (upd (upd H4 a1 (.lst (xs1 ++ [.non]))) a2 (.lst (xs2 ++ [.non]))) := fun b o e n => by
    have nb1 := ne_of_none e f1
    have nb2 : b ≠ a2 := fun z => absurd f2 (z ▸ k1.nn (by rw [e]; exact fun y => nomatch y) n)
    rw [upd_ne nb2, upd_ne nb1]
    exact ((k1.trans k2).trans ((KeepS.of s3).trans k4)) b o e n
  have src6 : SrcOk S M (upd (upd H4 a1 (.lst (xs1 ++ [.non]))) a2 (.lst (xs2 ++ [.non]))) := ⟨fun p' c e' => by
    obtain ⟨x1, x2, x3, ns, l, m, t, h1, h2⟩ := E4.src.go p' c e'
    refine ⟨x1, x2, x3, ns, l, m, t, ?_, ?_⟩
    · rw [upd_ne (ns2 p' c e').2.symm, upd_ne (ns1 p' c e').2.symm]; exact h1
    · rw [upd_ne (ns2 p' c e').1.symm, upd_ne (ns1 p' c e').1.symm]; exact h2, tabs_upd (tabs_upd E4.src.tab e14) e25⟩
  exact r.1 _ _ _ hnx ((E.ext kall src6).forget i _)
end
end PH
namespace PH
open PySem PySem.Spec L2
open PyProof.Rows (envOfC AllBare IntsAre)
section
variable {X : Cx} {Wx : WX} {k jF jG i : Nat} {x xF xG : Str} {psF psG : List Str} {spF spG : DSp} {mA mB : DA} {mT : DT} {eA eB c rv : Expr} {esA esB : List Expr} {pF pG posF posG posL px pos1 pos2 pos3 pos4 posR : Pos}
  {pn3 pn4 ps3 ps4 pa3 pa4 pc3 pc4 pi3 pi4 pN3 pN4 : Pos} {q3 q4 r3 r4 : _} {tR : TE}
/-- x = [f(..), g(..)]; if c: return ..; x[0].append(None); x[1].append(None) -/
theorem pss_nest (DF : DefOk X.prog X.w X.K X.mg X.base jF xF psF spF) (DG : DefOk X.prog X.w X.K X.mg X.base jG xG psG spG) (hr : Room k X.A) (hjF : jF ≤ k) (hjG : jG ≤ k) (hgu : X.A.guards = some []) (hA : PDA X (eA :: esA) psF.length mA) (hB : PDA X (eB :: esB) psG.length mB) (hT : PDT X c mT) (hR : PE X rv tR)
    (hN : X.N.Nodup) (hi : X.N[i]? = some x) (hx : Loc X.env.scope x) (hv : Vis X.env.scope x)
    (gF : Gl X xF := by rfl) (gG : Gl X xG := by rfl) (dF : (xF == ("__debug__" : Str)) = false := by decide) (dG : (xG == ("__debug__" : Str)) = false := by decide)
    (hsF : starEach (eA :: esA) X.env = (false, eval eA X.env) :: starEach esA X.env := by rfl) (hpF : (backTo posF (starEach esA X.env)).any (·.1) = false := by rfl)
    (hsG : starEach (eB :: esB) X.env = (false, eval eB X.env) :: starEach esB X.env := by rfl) (hpG : (backTo posG (starEach esB X.env)).any (·.1) = false := by rfl)
    (hl1 : starEach [.Call (.Name xF pF) (eA :: esA) [] posF, .Call (.Name xG pG) (eB :: esB) [] posG] X.env = (false, eval (.Call (.Name xF pF) (eA :: esA) [] posF) X.env) :: starEach [.Call (.Name xG pG) (eB :: esB) [] posG] X.env := by rfl)
    (hl2 : starEach [.Call (.Name xG pG) (eB :: esB) [] posG] X.env = (false, eval (.Call (.Name xG pG) (eB :: esB) [] posG) X.env) :: starEach [] X.env := by rfl)
    (hs : swapsWith (.List [.Call (.Name xF pF) (eA :: esA) [] posF, .Call (.Name xG pG) (eB :: esB) [] posG] posL) (some (.Name x px)) pos1.line X.env = pure false := by rfl)
    (hf : X.fn x = true ∨ X.env.scope.names.lookup x = some .local := by first | exact .inl rfl | exact .inr rfl)
    (hd : (x == ("__debug__" : Str)) = false := by decide) (hcd : (x == ("__classdict__" : Str)) = false := by decide)
    (b3 : attributeBase (.Subscript (.Name x pn3) (.Constant (.int 0) q3 pi3) ps3) "append" X.env (eval (.Subscript (.Name x pn3) (.Constant (.int 0) q3 pi3) ps3) X.env) = eval (.Subscript (.Name x pn3) (.Constant (.int 0) q3 pi3) ps3) X.env := by rfl)
    (b4 : attributeBase (.Subscript (.Name x pn4) (.Constant (.int 1) q4 pi4) ps4) "append" X.env (eval (.Subscript (.Name x pn4) (.Constant (.int 1) q4 pi4) ps4) X.env) = eval (.Subscript (.Name x pn4) (.Constant (.int 1) q4 pi4) ps4) X.env := by rfl)
    (f3 : ((backTo pc3 (starEach [.Constant .none r3 pN3] X.env)).all (fun x => !x.1) && (backToKw pc3 (keywordEach [] X.env)).all (fun x => x.1.isSome) && decide (([.Constant .none r3 pN3] : List Expr).length + ([] : List Keyword).length + (if ([] : List Keyword).isEmpty then 0 else 1) < 30)) = true := by rfl)
    (f4 : ((backTo pc4 (starEach [.Constant .none r4 pN4] X.env)).all (fun x => !x.1) && (backToKw pc4 (keywordEach [] X.env)).all (fun x => x.1.isSome) && decide (([.Constant .none r4 pN4] : List Expr).length + ([] : List Keyword).length + (if ([] : List Keyword).isEmpty then 0 else 1) < 30)) = true := by rfl)
    (n3 : (pa3.endLine == pc3.line) = true := by rfl) (n4 : (pa4.endLine == pc4.line) = true := by rfl)
    (e3 : starEach [.Constant .none r3 pN3] X.env = (false, eval (.Constant .none r3 pN3) X.env) :: starEach [] X.env := by rfl) (e4 : starEach [.Constant .none r4 pN4] X.env = (false, eval (.Constant .none r4 pN4) X.env) :: starEach [] X.env := by rfl)
    (l3 : (backTo pc3 (starEach [] X.env)).any (·.1) = false := by rfl) (l4 : (backTo pc4 (starEach [] X.env)).any (·.1) = false := by rfl)
    (w3 : swapsWith (.Call (.Attribute (.Subscript (.Name x pn3) (.Constant (.int 0) q3 pi3) ps3) "append" pa3) [.Constant .none r3 pN3] [] pc3) none pos3.line X.env = pure false := by rfl)
    (w4 : swapsWith (.Call (.Attribute (.Subscript (.Name x pn4) (.Constant (.int 1) q4 pi4) ps4) "append" pa4) [.Constant .none r4 pN4] [] pc4) none pos4.line X.env = pure false := by rfl) :
    PDSs Wx X [.Assign [.Name x px] (.List [.Call (.Name xF pF) (eA :: esA) [] posF, .Call (.Name xG pG) (eB :: esB) [] posG] posL) pos1, .If c [.Return (some rv) posR] [] pos2,
      .Expr (.Call (.Attribute (.Subscript (.Name x pn3) (.Constant (.int 0) q3 pi3) ps3) "append" pa3) [.Constant .none r3 pN3] [] pc3) pos3,
      .Expr (.Call (.Attribute (.Subscript (.Name x pn4) (.Constant (.int 1) q4 pi4) ps4) "append" pa4) [.Constant .none r4 pN4] [] pc4) pos4] (dNest i psF.length psG.length spF spG mA mB mT) := by
  obtain ⟨fF, fdF, hmF, kpF, hbF, FF⟩ := DF
  obtain ⟨fG, fdG, hmG, kpG, hbG, FG⟩ := DG
  obtain ⟨tA, hA, lA⟩ := hA
  obtain ⟨tB, hB, lB⟩ := hB
  obtain ⟨tT, hT, lT⟩ := hT
  exact ⟨_, pss_cons (ps_set hN hi hx (pe_lst (pa_cons (pe_callG FF (hr.mono hjF) hgu gF hmF kpF hbF hA dF hsF hpF) (pa_cons (pe_callG FG (hr.mono hjG) hgu gG hmG kpG hbG hB dG hsG hpG) pa_nil hl2) hl1)) hs hf)
    (pss_cons (ps_if hT (pss_one (ps_ret hR)) pss_nil)
    (pss_cons (ps_expr (pe_bm PySem.F.plainAttrs_list PySem.F.slot_list_append PySem.F.type_list_append mt_append (pe_ix ix_seq (pe_var hi hv hd hcd) pe_int (fun _ _ => rfl)) (pa_cons pe_non pa_nil e3) b3 f3 n3 e3 l3) w3)
    (pss_one (ps_expr (pe_bm PySem.F.plainAttrs_list PySem.F.slot_list_append PySem.F.type_list_append mt_append (pe_ix ix_seq (pe_var hi hv hd hcd) pe_int (fun _ _ => rfl)) (pa_cons pe_non pa_nil e4) b4 f4 n4 e4 l4) w4)))), ls_nest lA lB lT⟩
end
end PH

/-! xs[::-1] over data. -/
namespace PH
open PySem PySem.Spec L2
open PyProof.Rows (envOfC AllBare IntsAre)
section
variable {X : Cx} {e : Expr} {ma : DE}
def dRev (m : DE) : DE := fun σd Q => m σd fun x => match x with
  | .list xs => Q (.list xs.reverse)
  | _ => False
theorem le_rev {t : TE} {m : DE} (h : LE t m) : LE (tRevL X.K t) (dRev m) := by
  intro S M H0 H σ σd Qd Q E hm k
  refine h S M H0 H σ σd _ _ E hm fun d v H1 q E1 k1 r1 => ?_
  cases r1 <;> first | exact q.elim | skip
  rename_i a xs ds na e r
  refine ⟨a, xs, rfl, .inl (.inl e), fun p hp => ?_⟩
  have s := Same.upd (o := .lst xs.reverse) hp
  refine k _ _ _ q (E1.same s) (k1.trans (.of s)) (.lst (fun z => E1.mtO p z hp) upd_same ?_)
  exact E1.dqs (.of s) r.rev
theorem pd_rev {k : Nat} {p1 p2 p3 pos : Pos} (ha : PD X e ma) : PD X (.Subscript e (.Slice none none (some (.UnaryOp .USub (.Constant (.int 1) k p1) p2)) p3) pos) (dRev ma) := let ⟨_, h1, l1⟩ := ha; ⟨_, pe_revL h1, le_rev l1⟩
end
end PH

/-! list(zip(a, b)) of tuples: one turn. -/
namespace PH
open PySem
section
variable {prog : Program} {w : World} {A : Around} {E : Value → Shared → Prop} {s : Shared}
theorem heldNext {zz ti tO T j1 j2 m1 m2 : Addr} {f : Bool} {oT : Obj} {n1 n2 : Nat} {us vs : Array Value} {u v : Value} {Q : Option Value → Shared → Prop} (D : ZipApart zz ti tO j1 j2 m1 m2)
    (Z : IsZipHeld s.heap zz ti tO T f) (aT : s.heap.get? T = some oT) (pI : IsPair s.heap ti (.ref j1) (.ref j2))
    (t1 : s.heap.IsTupleIter j1 m1 n1) (t2 : s.heap.IsTupleIter j2 m2 n2) (c1 : s.heap.IsTuple m1 us) (c2 : s.heap.IsTuple m2 vs) (eu : us[n1]? = some u) (ev : vs[n2]? = some v)
    (hQ : ∀ g, IsZipHeld g zz ti tO T true → g.IsTupleIter j1 m1 (n1 + 1) → g.IsTupleIter j2 m2 (n2 + 1) → IsPair g s.heap.objs.size u v → g.objs.size = s.heap.objs.size + 1 →
      (∀ c o, c ≠ zz → c ≠ j1 → c ≠ j2 → s.heap.get? c = some o → g.get? c = some o) → Q (some (.ref s.heap.objs.size)) { s with heap := g }) :
    wpAny (model prog w) A (pyNext (.ref zz)) Q E s := by
  have ty : s.TypeIs (.ref zz) "zip" := ⟨_, Z, rfl⟩
  have body : ∀ {A : Around} {Q : Value → Shared → Prop} {E : Value → Shared → Prop}, (∀ g, IsZipHeld g zz ti tO T true → g.IsTupleIter j1 m1 (n1 + 1) → g.IsTupleIter j2 m2 (n2 + 1) → IsPair g s.heap.objs.size u v → g.objs.size = s.heap.objs.size + 1 →
      (∀ c o, c ≠ zz → c ≠ j1 → c ≠ j2 → s.heap.get? c = some o → g.get? c = some o) → Q (.ref s.heap.objs.size) { s with heap := g }) →
      wpAny (model prog w) A (Builtin.«zip.__next__» ⟨[.ref zz], []⟩) (fun r s' => ∃ v, r = .done (.ret v) ∧ Q v s') E s := fun {A Q E} hQ => by
    show wpAny _ _ (field (.ref zz) 2 >>= _) _ _ _
    refine wpAny_bind (wpAny_field Z rfl (x := .bool false) rfl ?_)
    show wpAny _ _ (field (.ref zz) 3 >>= _) _ _ _
    refine wpAny_bind (wpAny_field Z rfl (x := .ref ti) rfl ?_)
    refine wpAny_bind (wpAny_seqItems pI rfl ?_)
    show wpAny _ _ (Builtin.SmallTypes.ownedTupleIsFree (.ref zz) >>= _) _ _ _
    refine wpAny_bind (wpAny_tupleHeld_zip Z aT fun g1 Z1 b1 => ?_)
    simp only [Bool.false_eq_true, if_false]
    refine wpAny_bind ?_
    rw [← Array.forIn_toList]
    simp only [List.forIn_cons, List.forIn_nil]
    refine wpAny_bind (wpAny_bind (wpAny_holding ?_))
    show wpAny _ _ (Builtin.SmallTypes.nextOf (.ref j1) >>= _) _ _ _
    refine wpAny_bind (RZ.nextOf_tuple_item (s := { s with heap := g1 }) (t1.extBut b1.extBut D.i1z) (c1.extBut b1.extBut D.l1z) eu fun g2 t12 b2 => wpAny_pure ?_)
    refine wpAny_pure ?_
    refine wpAny_bind (wpAny_bind (wpAny_holding ?_))
    show wpAny _ _ (Builtin.SmallTypes.nextOf (.ref j2) >>= _) _ _ _
    refine wpAny_bind (RZ.nextOf_tuple_item (s := { s with heap := g2 }) ((t2.extBut b1.extBut D.i2z).extBut b2.extBut D.i12.symm) ((c2.extBut b1.extBut D.l2z).extBut b2.extBut D.l2i1) ev fun g3 t23 b3 => wpAny_pure ?_)
    refine wpAny_pure (wpAny_pure ?_)
    show wpAny _ _ (newTuple [u, v] >>= _) _ _ _
    refine wpAny_bind (wpAny_newTuple ?_)
    have sz : g3.objs.size = s.heap.objs.size := by rw [b3.1, b2.1, b1.1]
    have Z3 : IsZipHeld g3 zz ti tO T true := b3.extBut _ _ D.i2z.symm (b2.extBut _ _ D.i1z.symm Z1)
    have kp : ∀ c o, c ≠ zz → c ≠ j1 → c ≠ j2 → s.heap.get? c = some o → g3.get? c = some o := fun c o x1 x2 x3 e => b3.extBut _ _ x3 (b2.extBut _ _ x2 (b1.extBut _ _ x1 e))
    have t13 : g3.IsTupleIter j1 m1 (n1 + 1) := t12.extBut b3.extBut D.i12
    refine wpAny_pure ⟨_, rfl, ?_⟩
    show Q (.ref g3.objs.size) _
    have np : IsPair (g3.push { cls := .type "tuple", data := .seq #[u, v] }) g3.objs.size u v := Heap.get?_push_size _ rfl
    have ns : (g3.push { cls := .type "tuple", data := .seq #[u, v] }).objs.size = g3.objs.size + 1 := Heap.size_push ..
    rw [sz] at np ns ⊢
    exact hQ _ (Heap.get?_push_of_some _ Z3) (t13.at fun o e => Heap.get?_push_of_some _ e) (t23.at fun o e => Heap.get?_push_of_some _ e) np ns fun c o x1 x2 x3 e => Heap.get?_push_of_some _ (kp c o x1 x2 x3 e)
  unfold pyNext
  exact wpAny_bind (wpAny_attempt (wpAny_callSpecial?_slot (name := Str.ofString "__next__") ty F.slot_zip_next
    (wpAny_call_entry F.slot_zip_next ty F.entry_zip_next (body fun g a1 a2 a3 a4 a5 a6 => wpAny_pure (hQ g a1 a2 a3 a4 a5 a6)) (F.args_zip_next_1 _))))
theorem heldEnd {zz ti tO T j1 j2 m1 m2 : Addr} {f : Bool} {oT : Obj} {n1 n2 : Nat} {us vs : Array Value} {Q : Option Value → Shared → Prop} (hh : A.handled = none) (D : ZipApart zz ti tO j1 j2 m1 m2)
    (Z : IsZipHeld s.heap zz ti tO T f) (aT : s.heap.get? T = some oT) (pI : IsPair s.heap ti (.ref j1) (.ref j2))
    (t1 : s.heap.IsTupleIter j1 m1 n1) (c1 : s.heap.IsTuple m1 us) (eu : us[n1]? = none)
    (hQ : ∀ g, (∀ c o, c ≠ zz → c ≠ j1 → s.heap.get? c = some o → g.get? c = some o) → Q none { s with heap := g }) :
    wpAny (model prog w) A (pyNext (.ref zz)) Q E s := by
  have ty : s.TypeIs (.ref zz) "zip" := ⟨_, Z, rfl⟩
  unfold pyNext
  refine wpAny_bind (wpAny_attempt (wpAny_callSpecial?_slot (name := Str.ofString "__next__") ty F.slot_zip_next
    (wpAny_call_entry F.slot_zip_next ty F.entry_zip_next ?_ (F.args_zip_next_1 _))))
  show wpAny _ _ (field (.ref zz) 2 >>= _) _ _ _
  refine wpAny_bind (wpAny_field Z rfl (x := .bool false) rfl ?_)
  show wpAny _ _ (field (.ref zz) 3 >>= _) _ _ _
  refine wpAny_bind (wpAny_field Z rfl (x := .ref ti) rfl ?_)
  refine wpAny_bind (wpAny_seqItems pI rfl ?_)
  show wpAny _ _ (Builtin.SmallTypes.ownedTupleIsFree (.ref zz) >>= _) _ _ _
  refine wpAny_bind (wpAny_tupleHeld_zip Z aT fun g1 Z1 b1 => ?_)
  simp only [Bool.false_eq_true, if_false]
  refine wpAny_bind ?_
  rw [← Array.forIn_toList]
  simp only [List.forIn_cons, List.forIn_nil]
  refine wpAny_bind (wpAny_bind (wpAny_holding ?_))
  show wpAny _ _ (Builtin.SmallTypes.nextOf (.ref j1) >>= _) _ _ _
  refine wpAny_bind (RZ.nextOf_tuple_end (s := { s with heap := g1 }) hh (t1.extBut b1.extBut D.i1z) (c1.extBut b1.extBut D.l1z) eu fun g2 e b2 he => ?_)
  obtain ⟨o, ho, hc⟩ := he
  refine wpAny_bind (wpAny_isInstance (T := "StopIteration") (b := true) ⟨o, ho, hc⟩ isSubtype_stop ?_)
  exact wpAny_pure (hQ _ fun c o' x1 x2 x => b2 _ _ x2 (b1.extBut _ _ x1 x))
end
end PH

/-! list(zip(a, b)) of tuples: the loop, the call. -/
namespace PH
open PySem PySem.W
theorem zipLen0 : typeLookup (.type "zip") "__len__" = pure none := am_miss_of_fast (by decide +kernel)
theorem zipHint0 : typeLookup (.type "zip") "__length_hint__" = pure none := am_miss_of_fast (by decide +kernel)
structure ZS (us vs : Array Value) (zz ti tO j1 j2 m1 m2 S : Addr) (h : Heap) (i : Nat) : Prop where
  st : (i = 0 ∧ IsZip h zz ti tO .none ∧ ∃ x y, IsPair h tO x y) ∨ ∃ (T : Addr) (f : Bool) (oT : Obj), IsZipHeld h zz ti tO T f ∧ h.get? T = some oT ∧ T ≠ zz ∧ T ≠ j1 ∧ T ≠ j2 ∧ T ≠ S
  pI : IsPair h ti (.ref j1) (.ref j2)
  t1 : h.IsTupleIter j1 m1 i
  t2 : h.IsTupleIter j2 m2 i
  c1 : h.IsTuple m1 us
  c2 : h.IsTuple m2 vs
structure Off (zz ti tO j1 j2 m1 m2 S : Addr) : Prop where
  zz : zz ≠ S
  ti : ti ≠ S
  tO : tO ≠ S
  j1 : j1 ≠ S
  j2 : j2 ≠ S
  m1 : m1 ≠ S
  m2 : m2 ≠ S
variable {us vs : Array Value} {zz ti tO j1 j2 m1 m2 S : Addr}
theorem ZS.keep {h g : Heap} {i : Nat} (Z : ZS us vs zz ti tO j1 j2 m1 m2 S h i) (F : Off zz ti tO j1 j2 m1 m2 S) (k : ∀ b o, b ≠ S → h.get? b = some o → g.get? b = some o) : ZS us vs zz ti tO j1 j2 m1 m2 S g i where
  st := by
    rcases Z.st with ⟨e, z, x, y, p⟩ | ⟨T, f, oT, z, a, n1, n2, n3, n4⟩
    · exact .inl ⟨e, k _ _ F.zz z, x, y, k _ _ F.tO p⟩
    · exact .inr ⟨T, f, oT, k _ _ F.zz z, k _ _ n4 a, n1, n2, n3, n4⟩
  pI := k _ _ F.ti Z.pI
  t1 := Z.t1.at fun o e => k _ o F.j1 e
  t2 := Z.t2.at fun o e => k _ o F.j2 e
  c1 := Heap.IsTuple.at Z.c1 fun o e => k _ o F.m1 e
  c2 := Heap.IsTuple.at Z.c2 fun o e => k _ o F.m2 e
section
variable {prog : Program} {w : World} {A : Around} {E : Value → Shared → Prop} {s : Shared}
theorem zsNext {i : Nat} {u v : Value} {Q : Option Value → Shared → Prop} (D : ZipApart zz ti tO j1 j2 m1 m2) (Z : ZS us vs zz ti tO j1 j2 m1 m2 S s.heap i) (hS : S < s.heap.objs.size) (eu : us[i]? = some u) (ev : vs[i]? = some v)
    (hQ : ∀ g, ZS us vs zz ti tO j1 j2 m1 m2 S g (i + 1) → IsPair g s.heap.objs.size u v → g.objs.size = s.heap.objs.size + 1 → (∀ c o, c ≠ zz → c ≠ tO → c ≠ j1 → c ≠ j2 → s.heap.get? c = some o → g.get? c = some o) → Q (some (.ref s.heap.objs.size)) { s with heap := g }) :
    wpAny (model prog w) A (pyNext (.ref zz)) Q E s := by
  rcases Z.st with ⟨rfl, z, x, y, p⟩ | ⟨T, f, oT, z, a, n1, n2, n3, n4⟩
  · refine RZ.pyNext_zipT_item D z Z.pI p Z.t1 Z.t2 Z.c1 Z.c2 eu ev fun g z' p' t1' t2' np ns kp => ?_
    obtain ⟨o1, e1, _⟩ := id Z.t1
    obtain ⟨o2, e2, _⟩ := id Z.t2
    refine hQ g ⟨.inr ⟨s.heap.objs.size, false, _, z', np, Nat.ne_of_gt (Heap.lt_size z), Nat.ne_of_gt (Heap.lt_size e1), Nat.ne_of_gt (Heap.lt_size e2), Nat.ne_of_gt hS⟩, kp _ _ D.TIz D.TITO D.TIi1 D.TIi2 Z.pI, t1', t2', Heap.IsTuple.at Z.c1 fun o e => kp _ o D.l1z D.l1TO D.l1i1 D.l1i2 e, Heap.IsTuple.at Z.c2 fun o e => kp _ o D.l2z D.l2TO D.l2i1 D.l2i2 e⟩ np ns kp
  · refine heldNext D z a Z.pI Z.t1 Z.t2 Z.c1 Z.c2 eu ev fun g z' t1' t2' np ns kp => ?_
    exact hQ g ⟨.inr ⟨T, true, oT, z', kp _ _ n1 n2 n3 a, n1, n2, n3, n4⟩, kp _ _ D.TIz D.TIi1 D.TIi2 Z.pI, t1', t2', Heap.IsTuple.at Z.c1 fun o e => kp _ o D.l1z D.l1i1 D.l1i2 e, Heap.IsTuple.at Z.c2 fun o e => kp _ o D.l2z D.l2i1 D.l2i2 e⟩ np ns fun c o x1 _ x3 x4 e => kp c o x1 x3 x4 e
theorem zsEnd {i : Nat} {Q : Option Value → Shared → Prop} (hh : A.handled = none) (D : ZipApart zz ti tO j1 j2 m1 m2) (Z : ZS us vs zz ti tO j1 j2 m1 m2 S s.heap i) (eu : us[i]? = none)
    (hQ : ∀ g, (∀ c o, c ≠ zz → c ≠ tO → c ≠ j1 → c ≠ j2 → s.heap.get? c = some o → g.get? c = some o) → Q none { s with heap := g }) :
    wpAny (model prog w) A (pyNext (.ref zz)) Q E s := by
  rcases Z.st with ⟨rfl, z, x, y, p⟩ | ⟨T, f, oT, z, a, n1, n2, n3, n4⟩
  · exact RZ.pyNext_zipT_end hh D z Z.pI p Z.t1 Z.t2 Z.c1 Z.c2 (.inl eu) hQ
  · exact heldEnd (n2 := 0) (vs := #[]) hh D z a Z.pI Z.t1 Z.c1 eu fun g kp => hQ g fun c o x1 _ x3 _ e => kp c o x1 x3 e
/-- the pairs made so far -/
structure Prs (us vs : Array Value) (lo : Addr) (h : Heap) (as : List Addr) : Prop where
  rise : as.Pairwise (· < ·)
  above : ∀ a ∈ as, lo ≤ a
  pr : ∀ (j : Nat) (a : Addr), as[j]? = some a → ∃ u v, us[j]? = some u ∧ vs[j]? = some v ∧ IsPair h a u v
end
section
variable {prog : Program} {w : World} {A : Around} {s : Shared} {R : Result → Shared → Prop}
theorem zsLoop (hh : A.handled = none) (D : ZipApart zz ti tO j1 j2 m1 m2) (F : Off zz ti tO j1 j2 m1 m2 S) (hl : us.size = vs.size) (hn : us.size ≤ sizeLine) (res : Value) {h0 : Heap} {lo : Addr} (hlo : zz < lo ∧ tO < lo ∧ j1 < lo ∧ j2 < lo ∧ S < lo)
    (hR : ∀ g acc c as, (∀ b o, b ≠ S → b ≠ zz → b ≠ tO → b ≠ j1 → b ≠ j2 → h0.get? b = some o → g.get? b = some o) → g.get? S = some { cls := .type "list", dict := none, data := .seq acc c, slots := #[] } → as.length = us.size → Prs us vs lo g as →
      acc.toList = as.map Value.ref → R (.ok (.ret res)) { s with heap := g }) :
    ∀ (k i : Nat) (h : Heap) (c : Nat) (acc : Array Value) (as : List Addr), us.size - i = k → i ≤ us.size → lo ≤ h.objs.size → ZS us vs zz ti tO j1 j2 m1 m2 S h i → (∀ b o, b ≠ S → b ≠ zz → b ≠ tO → b ≠ j1 → b ≠ j2 → h0.get? b = some o → h.get? b = some o) →
      h.get? S = some { cls := .type "list", dict := none, data := .seq acc c, slots := #[] } → acc.toList = as.map Value.ref → as.length = i → Prs us vs lo h as →
      codeAny (model prog w) A (.builtin "list.extend.loop" ⟨[.ref S, .ref zz, res], []⟩) R { s with heap := h } := by
  intro k
  induction k with
  | zero =>
    intro i h c acc as hk hi hlh Z kp oS ha al P
    refine codeAny_builtin PySem.F.entry_extend_loop ?_
    rw [Around.under_plainId PySem.F.plain_extend_loop _]
    show wpAny _ A.in1 (pyNext (.ref zz) >>= _) _ _ _
    refine wpAny_bind (zsEnd (s := { s with heap := h }) (A := A.in1) hh D Z (Array.getElem?_eq_none (by omega)) fun g gk => ?_)
    have up : ∀ b o, lo ≤ b → h.get? b = some o → g.get? b = some o := fun b o hb e => gk b o (Nat.ne_of_gt (Nat.lt_of_lt_of_le hlo.1 hb)) (Nat.ne_of_gt (Nat.lt_of_lt_of_le hlo.2.1 hb)) (Nat.ne_of_gt (Nat.lt_of_lt_of_le hlo.2.2.1 hb)) (Nat.ne_of_gt (Nat.lt_of_lt_of_le hlo.2.2.2.1 hb)) e
    refine wpAny_pure (hR g acc c as (fun b o x1 x2 x3 x4 x5 e => gk b o x2 x3 x4 x5 (kp b o x1 x2 x3 x4 x5 e)) (gk _ _ F.zz.symm F.tO.symm F.j1.symm F.j2.symm oS) (by omega) ⟨P.rise, P.above, fun j a hj => ?_⟩ ha)
    obtain ⟨u, v, e1, e2, e3⟩ := P.pr j a hj
    exact ⟨u, v, e1, e2, up a _ (P.above a (List.mem_of_getElem? hj)) e3⟩
  | succ k ih =>
    intro i h c acc as hk hi hlh Z kp oS ha al P
    have lt : i < us.size := by omega
    have sz : acc.size = i := by rw [← Array.length_toList, ha, List.length_map, al]
    have eu : us[i]? = some us[i] := Array.getElem?_eq_getElem lt
    have ev : vs[i]? = some (vs[i]'(by omega)) := Array.getElem?_eq_getElem (by omega)
    refine codeAny_builtin PySem.F.entry_extend_loop ?_
    rw [Around.under_plainId PySem.F.plain_extend_loop _]
    show wpAny _ A.in1 (pyNext (.ref zz) >>= _) _ _ _
    refine wpAny_bind (zsNext (s := { s with heap := h }) (S := S) D Z (Heap.lt_size oS) eu ev fun g Z' np ns gk => ?_)
    dsimp only at np ns gk ⊢
    have oS' := gk S _ F.zz.symm F.tO.symm F.j1.symm F.j2.symm oS
    have up : ∀ b o, b ≠ S → g.get? b = some o → (g.update S (Obj.mapSeq (·.push (Value.ref h.objs.size)))).get? b = some o := fun b o hb e => (Heap.get?_update_other _ _ (Ne.symm hb)).trans e
    have sl : S < h.objs.size := Heap.lt_size oS
    have hi2 : ∀ b o, lo ≤ b → h.get? b = some o → g.get? b = some o := fun b o hb e => gk b o (Nat.ne_of_gt (Nat.lt_of_lt_of_le hlo.1 hb)) (Nat.ne_of_gt (Nat.lt_of_lt_of_le hlo.2.1 hb)) (Nat.ne_of_gt (Nat.lt_of_lt_of_le hlo.2.2.1 hb)) (Nat.ne_of_gt (Nat.lt_of_lt_of_le hlo.2.2.2.1 hb)) e
    show wpAny _ A.in1 (updateSeq S (·.push (Value.ref h.objs.size)) >>= _) _ _ _
    refine wpAny_bind ?_
    refine wpAny_updateSeq oS' rfl (wpAny_pure ⟨plainId_quiet PySem.F.plain_extend_loop _, ih (i + 1) _ _ (acc.push (Value.ref h.objs.size)) (as ++ [h.objs.size]) (by omega) lt ?_ (Z'.keep F up)
      (fun b o x1 x2 x3 x4 x5 e => up b o x1 (gk b o x2 x3 x4 x5 (kp b o x1 x2 x3 x4 x5 e))) (Heap.get?_update_self _ oS' rfl) (by rw [Array.toList_push, ha, List.map_append]; rfl) (by rw [List.length_append, al]; rfl) ⟨?_, ?_, ?_⟩⟩) (by rw [sz]; omega) (by show (acc.push (Value.ref h.objs.size)).size ≤ sizeLine + 1; rw [Array.size_push, sz]; omega)
    · have nl : (g.update S (Obj.mapSeq (·.push (Value.ref h.objs.size)))).get? h.objs.size = _ := up _ _ (Nat.ne_of_gt sl) np
      exact Nat.le_of_lt (Nat.lt_of_le_of_lt hlh (Heap.lt_size nl))
    · refine List.pairwise_append.mpr ⟨P.rise, List.pairwise_singleton _ _, fun a ha' b hb => ?_⟩
      rw [List.mem_singleton.mp hb]
      obtain ⟨j, hj⟩ := List.mem_iff_getElem?.mp ha'
      obtain ⟨_, _, _, _, e3⟩ := P.pr j a hj
      exact Heap.lt_size e3
    · intro a ha'
      rcases List.mem_append.mp ha' with y | y
      · exact P.above a y
      · rw [List.mem_singleton.mp y]; exact hlh
    · intro j b hj
      rcases Nat.lt_trichotomy j as.length with y | y | y
      · rw [List.getElem?_append_left y] at hj
        obtain ⟨u, v, e1, e2, e3⟩ := P.pr j b hj
        have hb := P.above b (List.mem_of_getElem? hj)
        exact ⟨u, v, e1, e2, up b _ (Nat.ne_of_gt (Nat.lt_of_lt_of_le hlo.2.2.2.2 hb)) (hi2 b _ hb e3)⟩
      · subst y
        have hb : h.objs.size = b := by simpa using hj
        subst hb
        rw [al]
        exact ⟨_, _, eu, ev, up _ _ (Nat.ne_of_gt sl) np⟩
      · have no : (as ++ [h.objs.size])[j]? = none := List.getElem?_eq_none (by rw [List.length_append, List.length_singleton]; omega)
        rw [no] at hj; cases hj
end
end PH

/-! list(zip(a, b)) of tuples: the call. -/
namespace PH
open PySem PySem.W
section
variable {us vs : Array Value} {zz ti tO j1 j2 m1 m2 : Addr} {prog : Program} {w : World} {A : Around} {E : Value → Shared → Prop} {s : Shared}
theorem zsExt {S : Addr} {R : Result → Shared → Prop} (hh : A.handled = none) (D : ZipApart zz ti tO j1 j2 m1 m2) (F : Off zz ti tO j1 j2 m1 m2 S) (hl : us.size = vs.size) (hn : us.size ≤ sizeLine) (res : Value) {lo : Addr} (hlo : zz < lo ∧ tO < lo ∧ j1 < lo ∧ j2 < lo ∧ S < lo) (hls : lo ≤ s.heap.objs.size)
    (Z : ZS us vs zz ti tO j1 j2 m1 m2 S s.heap 0) (z0 : IsZip s.heap zz ti tO .none) (c0 : Nat) (oS : s.heap.get? S = some { cls := .type "list", data := .seq #[] c0 })
    (hR : ∀ g acc c as, (∀ b o, b ≠ S → b ≠ zz → b ≠ tO → b ≠ j1 → b ≠ j2 → s.heap.get? b = some o → g.get? b = some o) → g.get? S = some { cls := .type "list", dict := none, data := .seq acc c, slots := #[] } → as.length = us.size → Prs us vs lo g as →
      acc.toList = as.map Value.ref → R (.ok (.ret res)) { s with heap := g }) :
    wpAny (model prog w) A.in1 (Builtin.List.listExtendWith (.ref S) (.ref zz) res)
      (fun fin s' => match fin with | .done f => R (.ok f) s' | .again c' => c'.quiet = true ∧ codeAny (model prog w) A c' R s') (fun e s' => R (.error e) s') s := by
  have ty : s.TypeIs (.ref zz) "zip" := ⟨_, z0, rfl⟩
  unfold Builtin.List.listExtendWith
  refine wpAny_bind (wpAny_typeOf (T := "zip") ty ?_)
  have e1 : Builtin.List.listSameRef (.ref S) (.ref zz) = false := by simp [Builtin.List.listSameRef, F.zz.symm]
  have e2 : (Value.type "zip" == Value.type "list") = false := by decide
  have e3 : (Value.type "zip" == Value.type "tuple") = false := by decide
  simp only [e1, e2, e3, Bool.or_false, Bool.false_eq_true, if_false]
  refine wpAny_bind (wpAny_pyIter_zip z0 ?_)
  refine wpAny_bind (wpAny_holding ?_)
  unfold Builtin.List.listLengthHint
  refine wpAny_bind (wpAny_specialOf ty zipLen0 ?_)
  show wpAny _ A.in1 (specialOf (Value.ref zz) (Str.ofString "__length_hint__") >>= _) _ _ _
  refine wpAny_bind (wpAny_specialOf ty zipHint0 ?_)
  refine wpAny_pure ?_
  show wpAny _ A.in1 (rule "list.extend.makes-room" >>= fun _ => Builtin.List.listTouch (.ref S) >>= fun _ => again (.builtin "list.extend.loop" ⟨[.ref S, .ref zz, res], []⟩)) _ _ _
  refine wpAny_bind (wpAny_rule ?_)
  refine wpAny_bind ?_
  show wpAny _ A.in1 (updateSeq S (·.push .none) >>= fun _ => updateSeq S (·.pop)) _ _ _
  refine wpAny_bind (wpAny_updateSeq oS rfl ?_)
  have o2 := Heap.get?_update_self (Obj.mapSeq (·.push Value.none)) oS rfl
  refine wpAny_updateSeq (hz := by seq_fits) o2 rfl ?_
  have o3 := Heap.get?_update_self (Obj.mapSeq (·.pop)) o2 rfl
  have up : ∀ b o, b ≠ S → s.heap.get? b = some o → ((s.heap.update S (Obj.mapSeq (·.push Value.none))).update S (Obj.mapSeq (·.pop))).get? b = some o := fun b o hb e => (Heap.get?_update_other _ _ (Ne.symm hb)).trans ((Heap.get?_update_other _ _ (Ne.symm hb)).trans e)
  refine wpAny_pure ⟨plainId_quiet PySem.F.plain_extend_loop _, ?_⟩
  exact zsLoop (s := s) (h0 := s.heap) hh D F hl hn res hlo hR us.size 0 _ _ #[] [] (Nat.sub_zero _) (Nat.zero_le _) (by show lo ≤ (Heap.update _ _ _).objs.size; rw [Heap.size_update, Heap.size_update]; exact hls) (Z.keep F up) (fun b o x1 _ _ _ _ e => up b o x1 e) o3 rfl rfl ⟨List.Pairwise.nil, (fun _ h => nomatch h), (fun j a h => by simp at h)⟩
/-- list(z), z a zip of two tuples of one length, not begun -/
theorem zsList {Q : Value → Shared → Prop} (hh : A.handled = none) (D : ZipApart zz ti tO j1 j2 m1 m2) (hl : us.size = vs.size) (hn : us.size ≤ sizeLine)
    (z0 : IsZip s.heap zz ti tO .none) (pO : ∃ x y, IsPair s.heap tO x y) (pI : IsPair s.heap ti (.ref j1) (.ref j2)) (t1 : s.heap.IsTupleIter j1 m1 0) (t2 : s.heap.IsTupleIter j2 m2 0) (c1 : s.heap.IsTuple m1 us) (c2 : s.heap.IsTuple m2 vs)
    (hQ : ∀ g acc c as, (∀ b o, b ≠ zz → b ≠ tO → b ≠ j1 → b ≠ j2 → s.heap.get? b = some o → g.get? b = some o) → g.get? s.heap.objs.size = some { cls := .type "list", dict := none, data := .seq acc c, slots := #[] } → as.length = us.size → Prs us vs (s.heap.objs.size + 1) g as →
      acc.toList = as.map Value.ref → Q (.ref s.heap.objs.size) { s with heap := g }) :
    wpAny (model prog w) A (call (.type "list") [.ref zz]) Q E s := by
  obtain ⟨x, y, pO⟩ := pO
  obtain ⟨o1, e1, _⟩ := id t1
  obtain ⟨o2, e2, _⟩ := id t2
  obtain ⟨o3, e3, _⟩ := id c1
  obtain ⟨o4, e4, _⟩ := id c2
  have F : Off zz ti tO j1 j2 m1 m2 s.heap.objs.size := ⟨Nat.ne_of_lt (Heap.lt_size z0), Nat.ne_of_lt (Heap.lt_size pI), Nat.ne_of_lt (Heap.lt_size pO), Nat.ne_of_lt (Heap.lt_size e1), Nat.ne_of_lt (Heap.lt_size e2), Nat.ne_of_lt (Heap.lt_size e3), Nat.ne_of_lt (Heap.lt_size e4)⟩
  refine callType_codes (Q₁ := fun obj s₁ => obj = .ref s.heap.objs.size ∧ s₁ = { s with heap := s.heap.push { cls := .type "list", data := .seq #[] } }) PySem.F.called_list (PySem.F.typeCall_list_1 _) PySem.F.entry_list_init
    (code_list_new _ ⟨rfl, rfl⟩) fun obj s₁ h₁ => ?_
  obtain ⟨rfl, rfl⟩ := h₁
  have oS : (s.heap.push { cls := .type "list", data := .seq #[] }).get? s.heap.objs.size = some { cls := .type "list", data := .seq #[] } := Heap.get?_push_size _ rfl
  have pk : ∀ b o, s.heap.get? b = some o → (s.heap.push { cls := .type "list", data := .seq #[] }).get? b = some o := fun b o e => Heap.get?_push_of_some _ e
  refine ⟨⟨_, oS, rfl⟩, PySem.F.args_list_init_2 _ _, ?_⟩
  show wpAny _ _ (do let old ← Builtin.List.listItems (.ref s.heap.objs.size); Builtin.List.listUpdate (.ref s.heap.objs.size) (fun _ => #[]); letGo old.toList.reverse; Builtin.List.listExtendWith (.ref s.heap.objs.size) (.ref zz) .none) _ _ _
  refine wpAny_bind ?_
  unfold Builtin.List.listItems
  refine wpAny_bind (wpAny_seqItems oS rfl (wpAny_pure ?_))
  show wpAny _ _ (updateSeq s.heap.objs.size (fun _ => #[]) >>= fun _ => letGo (#[] : Array Value).toList.reverse >>= fun _ => Builtin.List.listExtendWith (.ref s.heap.objs.size) (.ref zz) .none) _ _ _
  refine wpAny_bind (wpAny_updateSeq oS rfl ?_)
  have oS2 := Heap.get?_update_self (Obj.mapSeq (fun _ => (#[] : Array Value))) oS rfl
  have up : ∀ b o, b ≠ s.heap.objs.size → s.heap.get? b = some o → ((s.heap.push { cls := .type "list", data := .seq #[] }).update s.heap.objs.size (Obj.mapSeq (fun _ => (#[] : Array Value)))).get? b = some o :=
    fun b o hb e => (Heap.get?_update_other _ _ (Ne.symm hb)).trans (pk b o e)
  refine wpAny_bind (wpAny_letGo ?_)
  have Z0 : ZS us vs zz ti tO j1 j2 m1 m2 s.heap.objs.size s.heap 0 := ⟨.inl ⟨rfl, z0, x, y, pO⟩, pI, t1, t2, c1, c2⟩
  have lt : ∀ {b : Addr} {o : Obj}, s.heap.get? b = some o → b < s.heap.objs.size + 1 := fun e => Nat.lt_succ_of_lt (Heap.lt_size e)
  refine zsExt (A := A.in1) (s := { s with heap := (s.heap.push { cls := .type "list", data := .seq #[] }).update s.heap.objs.size (Obj.mapSeq (fun _ => (#[] : Array Value))) }) (S := s.heap.objs.size) (lo := s.heap.objs.size + 1) hh D F hl hn .none ⟨lt z0, lt pO, lt e1, lt e2, Nat.lt_succ_self _⟩ (by show s.heap.objs.size + 1 ≤ (Heap.update _ _ _).objs.size; rw [Heap.size_update, Heap.size_push]; exact Nat.le_refl _) (Z0.keep F up) (up _ _ F.zz z0) _ oS2 fun g acc c as gk gS al P ha => ?_
  exact ⟨rfl, hQ g acc c as (fun b o x1 x2 x3 x4 e => gk b o (Nat.ne_of_lt (Heap.lt_size e)) x1 x2 x3 x4 (up b o (Nat.ne_of_lt (Heap.lt_size e)) e)) gS al P ha⟩
end
end PH

/-! list(zip(a, b)) of tuples, over the layer and over data. -/
namespace PH
open PySem PySem.Spec L2
open PyProof.Rows
section
variable {X : Cx} {pins : List (Addr × Obj)} {σ : L2.St} {H : Hp} {s : Shared}
/-- pairs, each at its place, tracked one behind another -/
theorem laidPairs {g : Heap} (I : Inv X pins σ H s) (k : ∀ b u, s.heap.get? b = some u → g.get? b = some u) : ∀ (ns : List (Addr × V × V)), (ns.map (·.1)).Nodup → (∀ q ∈ ns, s.heap.objs.size ≤ q.1 ∧ ∃ u v, RelV q.2.1 u ∧ RelV q.2.2 v ∧ IsPair g q.1 u v) →
    ∃ (G : Heap) (H' : Hp), Inv X pins σ H' { s with heap := G } ∧ (∀ b o, G.get? b = some o → g.get? b = some o) ∧ (∀ b, s.heap.objs.size ≤ b → b ∉ ns.map (·.1) → G.get? b = none) ∧ (∀ b, b ∉ ns.map (·.1) → H' b = H b) ∧ ∀ q ∈ ns, H' q.1 = some (.tup [q.2.1, q.2.2])
  | [], _, _ => by
    obtain ⟨G, g1, g2⟩ := restrict g fun b => decide (b < s.heap.objs.size)
    refine ⟨G, H, I.kept (t' := s.toks) fun b u e => ?_, fun b o e => ?_, fun b hb _ => g2 b (decide_eq_false (Nat.not_lt.mpr hb)), fun _ _ => rfl, fun q hq => by simp at hq⟩
    · rw [g1 b (decide_eq_true (Heap.lt_size e))]; exact k b u e
    · cases z : decide (b < s.heap.objs.size) with
      | true => rw [← g1 b z]; exact e
      | false => rw [g2 b z] at e; cases e
  | (a, x, y) :: ns, nd, hq => by
    rw [List.map_cons, List.nodup_cons] at nd
    obtain ⟨G, H', I', b1, b2, b3, b4⟩ := laidPairs I k ns nd.2 fun q h => hq q (List.mem_cons_of_mem _ h)
    obtain ⟨ha, u, v, ru, rv, pr⟩ := hq (a, x, y) (by simp)
    dsimp only at ha ru rv pr
    have Ga : G.get? a = none := b2 a ha nd.1
    have Ha : H' a = none := by rw [b3 a nd.1]; exact I.hok.fresh ha
    obtain ⟨G2, g1, g2⟩ := restrict g fun b => (G.get? b).isSome || decide (b = a)
    have up : ∀ b o, G.get? b = some o → G2.get? b = some o := fun b o e => by
      rw [g1 b (by rw [e]; rfl)]; exact b1 b o e
    have pa : IsPair G2 a u v := (g1 a (by simp)).trans pr
    have new : ObjOk X.prog X.w (upd H' a (.tup [x, y])) G2 a (.tup [x, y]) := ⟨by show 2 ≤ sizeLine; decide, [u, v], .cons ru (.cons rv .nil), ⟨_, pa, rfl, _, rfl⟩⟩
    refine ⟨G2, upd H' a (.tup [x, y]), I'.laidN (t' := s.toks) up Ga Ha new, fun b o e => ?_, fun b hb hn => ?_, fun b hn => ?_, fun q h => ?_⟩
    · cases z : ((G.get? b).isSome || decide (b = a)) with
      | true => rw [← g1 b z]; exact e
      | false => rw [g2 b z] at e; cases e
    · simp only [List.map_cons, List.mem_cons, not_or] at hn
      refine g2 b ?_
      rw [b2 b hb hn.2, decide_eq_false hn.1]; rfl
    · simp only [List.map_cons, List.mem_cons, not_or] at hn
      rw [upd_ne hn.1]; exact b3 b hn.2
    · rcases List.mem_cons.mp h with rfl | h
      · exact upd_same
      · have ne : q.1 ≠ a := fun z => nd.1 (by have := List.mem_map_of_mem (f := fun q : Addr × V × V => q.1) h; rw [z] at this; exact this)
        rw [upd_ne ne]; exact b4 q h
end
section
variable {X : Cx} {e e2 : Expr} {ta : TA}
def tLZ (K : PySem.W.Frag) (ta : TA) : TE := fun σ H Q => ta σ H fun vs H1 => ∃ (a b : Addr) (xs ys : List V), vs = [.ref a, .ref b] ∧ SqT K H1 a xs ∧ SqT K H1 b ys ∧ xs.length = ys.length ∧
  ∀ (H2 : Hp) (l : Addr) (as : List Addr), (∀ b o, H1 b = some o → H2 b = some o) → H1 l = none → H2 l = some (.lst (as.map V.ref)) → as.length = xs.length → (∀ a ∈ as, H1 a = none) →
    (∀ (j : Nat) (a : Addr) (x y : V), as[j]? = some a → xs[j]? = some x → ys[j]? = some y → H2 a = some (.tup [x, y])) → Q (.ref l) H2
theorem pe_listZip {p p2 pos pos2 : Pos} (hc : X.calm = true) (hg : Gl X "list") (hm : X.mg "list" = none) (hgz : Gl X "zip") (hmz : X.mg "zip" = none) (ha : PA X [e, e2] ta)
    (na : starEach [.Call (.Name "zip" p2) [e, e2] [] pos2] X.env = (false, eval (.Call (.Name "zip" p2) [e, e2] [] pos2) X.env) :: starEach [] X.env := by rfl)
    (hs : starEach [e, e2] X.env = (false, eval e X.env) :: starEach [e2] X.env := by rfl) (hpl : (backTo pos2 (starEach [e2] X.env)).any (·.1) = false := by rfl) :
    PE X (.Call (.Name "list" p) [.Call (.Name "zip" p2) [e, e2] [] pos2] [] pos) (tLZ X.K ta) := by
  refine ⟨fun pins s σ H Q I h => ?_⟩
  refine Call_ (ld_blt I hg hm PyProof.Rows.boot_list (PyProof.Rows.callWith_type1 (args_cons ?_ na) na))
  refine Call_ (ld_blt I hgz hmz PyProof.Rows.boot_zip (PyProof.Rows.callWith_type1 (thn (ha.run pos2 pins s σ H _ I h) fun us s1 ⟨vs, H1, I1, r1, q1⟩ => ?_) hs hpl))
  obtain ⟨a, b, xs, ys, ex, sx, sy, hl, q⟩ := q1
  subst ex
  cases r1 with
  | cons r rr =>
    cases rr with
    | cons r' rr =>
      cases rr
      cases r
      cases r'
      obtain ⟨us, rv, tx, zx⟩ := I1.tuple sx
      obtain ⟨vs, rv2, ty, zy⟩ := I1.tuple sy
      have l1 := rv.length
      have l2 := rv2.length
      refine RZ.call_zipT (show s1.heap.IsTuple a us.toArray from tx) (show s1.heap.IsTuple b vs.toArray from ty) fun h' z0 pI pO t1 t2 sz hk => args_nil ?_
      obtain ⟨o1, ho1, _⟩ := id tx
      obtain ⟨o2, ho2, _⟩ := id ty
      have D := PySem.W.ktu_apart s1.heap.objs.size a b (Heap.lt_size ho1) (Heap.lt_size ho2)
      refine zsList (s := { s1 with heap := h' }) (I1.ok.hd hc) D (us := us.toArray) (vs := vs.toArray) (by simp; omega) (by simp; omega) z0 ⟨_, _, pO⟩ pI t1 t2 (Heap.IsTuple.at (show s1.heap.IsTuple a us.toArray from tx) fun o e => hk _ o e) (Heap.IsTuple.at (show s1.heap.IsTuple b vs.toArray from ty) fun o e => hk _ o e) fun g acc c as gk gS al P hacc => ?_
      dsimp only at gk gS P ⊢
      rw [sz] at gS P ⊢
      have kg : ∀ b o, s1.heap.get? b = some o → g.get? b = some o := fun b o e => by
        have lt := Heap.lt_size e
        exact gk b o (Nat.ne_of_lt (Nat.lt_of_lt_of_le lt (Nat.le_add_right _ _))) (Nat.ne_of_lt (Nat.lt_of_lt_of_le lt (Nat.le_add_right _ _))) (Nat.ne_of_lt lt) (Nat.ne_of_lt (Nat.lt_of_lt_of_le lt (Nat.le_add_right _ _))) (hk b o e)
      have al' : as.length = xs.length := by rw [al]; simp; omega
      have fst : (as.zip (xs.zip ys)).map (fun q : Addr × V × V => q.1) = as := List.map_fst_zip (by rw [List.length_zip]; omega)
      have nda : as.Nodup := P.rise.imp fun {x y} h e => by rw [e] at h; exact Nat.lt_irrefl _ h
      obtain ⟨G, H2, I2, b1, b2, b3, b4⟩ := laidPairs I1 kg (as.zip (xs.zip ys)) (by rw [fst]; exact nda) (fun w hw => by
        obtain ⟨t, x, y⟩ := w
        obtain ⟨j, hj⟩ := List.mem_iff_getElem?.mp hw
        rw [List.getElem?_zip_eq_some, List.getElem?_zip_eq_some] at hj
        obtain ⟨j1, j2, j3⟩ := hj
        dsimp only at j1 j2 j3 ⊢
        obtain ⟨u, v, e1, e2, e3⟩ := P.pr j t j1
        obtain ⟨u', f1, ru⟩ := rv.get j2
        obtain ⟨v', f2, rv'⟩ := rv2.get j3
        have g1 : us.toArray[j]? = some u' := by simpa using f1
        have g2 : vs.toArray[j]? = some v' := by simpa using f2
        rw [g1] at e1; rw [g2] at e2
        cases e1; cases e2
        exact ⟨Nat.le_trans (show s1.heap.objs.size ≤ s1.heap.objs.size + 5 + 1 from Nat.le_add_right _ 6) (P.above t (List.mem_of_getElem? j1)), _, _, ru, rv', e3⟩)
      rw [fst] at b2 b3
      have Sas : s1.heap.objs.size + 5 ∉ as := fun z => Nat.lt_irrefl _ (P.above _ z)
      have GS : G.get? (s1.heap.objs.size + 5) = none := b2 _ (Nat.le_add_right _ _) Sas
      have fr : ∀ t, s1.heap.objs.size ≤ t → H1 t = none := fun t ht => I1.hok.fresh ht
      have HS : H2 (s1.heap.objs.size + 5) = none := by rw [b3 _ Sas]; exact fr _ (Nat.le_add_right _ _)
      have lo : ∀ t ∈ as, s1.heap.objs.size ≤ t := fun t ht => Nat.le_trans (Nat.le_add_right _ 6) (P.above t ht)
      have new : ObjOk X.prog X.w (upd H2 (s1.heap.objs.size + 5) (.lst (as.map V.ref))) g (s1.heap.objs.size + 5) (.lst (as.map V.ref)) :=
        ⟨by rw [List.length_map, al']; exact zx, acc.toList, c, by rw [hacc]; exact vals_refs as, by rw [Array.toArray_toList]; exact gS⟩
      have I3 : Inv X pins σ (upd H2 (s1.heap.objs.size + 5) (.lst (as.map V.ref))) { s1 with heap := g } := I2.laidN (t' := s1.toks) b1 GS HS new
      refine ⟨.ref (s1.heap.objs.size + 5), _, I3, rfl, q _ _ as (fun t o ht => ?_) (fr _ (Nat.le_add_right _ _)) upd_same al' (fun t ht => fr t (lo t ht)) (fun j t x y e1 e2 e3 => ?_)⟩
      · have n1 : t ∉ as := fun z => by rw [fr t (lo t z)] at ht; cases ht
        have n2 : t ≠ s1.heap.objs.size + 5 := fun z => by rw [z, fr _ (Nat.le_add_right _ _)] at ht; cases ht
        rw [upd_ne n2, b3 t n1]; exact ht
      · have n2 : t ≠ s1.heap.objs.size + 5 := fun z => Sas (z ▸ List.mem_of_getElem? e1)
        rw [upd_ne n2]
        refine b4 (t, x, y) (List.mem_iff_getElem?.mpr ⟨j, ?_⟩)
        rw [List.getElem?_zip_eq_some, List.getElem?_zip_eq_some]
        exact ⟨e1, e2, e3⟩
end
end PH

namespace PH
open PySem PySem.Spec L2
open PyProof.Rows (envOfC AllBare IntsAre)
theorem dqs_pairs {S : Sr} {M : Addr → Prop} {H : Hp} : ∀ {xs ys : List V} {ds es : List D} {as : List Addr}, Dqs S M H xs ds → Dqs S M H ys es → xs.length = ys.length → as.length = xs.length → (∀ a ∈ as, ¬ M a) →
    (∀ (j : Nat) (a : Addr) (x y : V), as[j]? = some a → xs[j]? = some x → ys[j]? = some y → H a = some (.tup [x, y])) → Dqs S M H (as.map V.ref) (zipD ds es)
  | _, _, _, _, [], .nil, .nil, _, _, _, _ => .nil
  | _, _, _, _, _ :: _, .nil, .nil, _, h, _, _ => by simp at h
  | _, _, _, _, _, .nil, .cons _ _, h, _, _, _ => by simp at h
  | _, _, _, _, _, .cons _ _, .nil, h, _, _, _ => by simp at h
  | _, _, _, _, [], .cons _ _, .cons _ _, _, h, _, _ => by simp at h
  | _, _, _, _, a :: as, .cons p ps, .cons r rs, h, hl, hM, hp => by
    refine .cons (.tup (hM a (by simp)) (hp 0 a _ _ rfl rfl rfl) (.cons p (.cons r .nil))) (dqs_pairs (as := as) ps rs (by simpa using h) (by simpa using hl) (fun b hb => hM b (by simp [hb])) fun j b x y e1 e2 e3 => hp (j + 1) b x y (by simpa using e1) (by simpa using e2) (by simpa using e3))
section
variable {X : Cx} {e e2 : Expr} {ma : DA}
def dLZ (m : DA) : DE := fun σd Q => m σd fun ds => match ds with
  | [.tuple xs, .tuple ys] => xs.length = ys.length ∧ Q (.list (zipD xs ys))
  | _ => False
theorem le_lz {n : Nat} {ta : TA} (hA : LA n ta ma) : LE (tLZ X.K ta) (dLZ ma) := by
  intro S M H0 H σ σd Qd Q E hm k
  refine hA S M H0 H σ σd _ _ E hm fun ds vs H1 q E1 k1 r1 _ => ?_
  split at q
  · rename_i ds es
    obtain ⟨hl, q⟩ := q
    cases r1 with
    | cons a b =>
      cases b with
      | cons b c =>
        cases c
        cases a with
        | @tup p xs _ na ea ra =>
        cases b with
        | @tup p' ys _ nb eb rb =>
        have l1 := ra.length
        have l2 := rb.length
        refine ⟨p, p', xs, ys, rfl, .inl (.inl ea), .inl (.inl eb), by omega, fun H2 l as kp hl' el al fr pr => ?_⟩
        have sm : Same H1 H2 := kp
        refine k _ _ H2 q (E1.same sm) (k1.trans (.of sm)) (.lst (fun z => E1.mtO l z hl') el ?_)
        exact dqs_pairs (E1.dqs (.of sm) ra) (E1.dqs (.of sm) rb) (by omega) al (fun a ha z => E1.mtO a z (fr a ha)) pr
  · exact q.elim
theorem pd_listZip {p p2 pos pos2 : Pos} (hc : X.calm = true) (hg : Gl X "list") (hm : X.mg "list" = none) (hgz : Gl X "zip") (hmz : X.mg "zip" = none) (ha : PDA X [e, e2] n ma)
    (na : starEach [.Call (.Name "zip" p2) [e, e2] [] pos2] X.env = (false, eval (.Call (.Name "zip" p2) [e, e2] [] pos2) X.env) :: starEach [] X.env := by rfl)
    (hs : starEach [e, e2] X.env = (false, eval e X.env) :: starEach [e2] X.env := by rfl) (hpl : (backTo pos2 (starEach [e2] X.env)).any (·.1) = false := by rfl) :
    PD X (.Call (.Name "list" p) [.Call (.Name "zip" p2) [e, e2] [] pos2] [] pos) (dLZ ma) := let ⟨_, h1, l1⟩ := ha; ⟨_, pe_listZip hc hg hm hgz hmz h1 na hs hpl, le_lz l1⟩
end
end PH
namespace PH
open PySem PySem.Spec L2
section
variable {X : Cx} {a b : Expr} {ma mb : DE}
def dCatT : DR2 := fun x y Q => match x, y with
  | .tuple xs, .tuple ys => xs ≠ [] ∧ ys ≠ [] ∧ xs.length + ys.length ≤ 10000000 ∧ Q (.tuple (xs ++ ys))
  | _, _ => False
theorem lr_catT {K : PySem.W.Frag} : LR (rCatT K) dCatT := by
  intro S M H x y dx dy Qd Q hm rx ry h k
  unfold dCatT at h
  split at h
  · obtain ⟨h1, h2, h3, h4⟩ := h
    cases rx with
    | @tup _ us _ na ea ra =>
    cases ry with
    | @tup _ ws _ nb eb rb =>
    have l1 := ra.length
    have l2 := rb.length
    refine ⟨_, _, us, ws, rfl, rfl, .inl (.inl ea), .inl (.inl eb), fun z => h1 (List.length_eq_zero_iff.mp (by rw [← l1, z]; rfl)), by rw [l1, l2, sizeLine_eq]; omega, fun z => absurd (List.length_eq_zero_iff.mp (by rw [← l2, z]; rfl)) h2, fun _ p hp => ?_⟩
    have sm := Same.upd (o := HO.tup (us ++ ws)) hp
    exact k _ _ _ h4 sm (.tup (fun z => hm p z hp) upd_same ((ra.append rb).go fun a o n e => ⟨n, sm a o e⟩))
  · exact h.elim
theorem pd_catT (ha : PD X a ma) (hb : PD X b mb) : PD X (.BinOp a .Add b pos) (dOp dCatT ma mb) := pd_bin op_catT lr_catT ha hb
end
end PH

/-! A list that a call hands out, kept by its name to be changed; tests that read it ahead. -/
namespace PH
open PySem PySem.Spec L2
open PyProof.Rows (envOfC AllBare IntsAre)
section
variable {X : Cx} {Wx : WX}
/-- x, y = e, g(..); y is changed behind -/
def dParC (i j : Nat) (spG : DSp) (me : DE) (mB : DA) : DS := fun Dd σd => me σd fun d1 => ∃ d2 : List D, listFrees d2 = true ∧ (mB σd fun ds => listFrees ds = true ∧ spG ds fun d => d = .list d2) ∧ ∀ p, Dd.nx ((σd.set i (.val d1)).set j (Sl.own p d2))
theorem ls_parC {i j nG : Nat} {te : TE} {me : DE} {spG : DSp} {tB : TA} {mB : DA} (he : LE te me) (hB : LA nG tB mB) : LS Wx (tPar i j (tCons te (tCons (tCallG (SpD nG spG) tB) tNil))) (dParC i j spG me mB) := by
  intro S M H0 H σ σd Dd Dn E hm r
  unfold tPar tCons
  refine he S M H0 H σ σd _ _ E hm fun d1 v H1 q E1 k1 r1 => ?_
  obtain ⟨d2, l2, hb, hnx⟩ := q
  refine lf_call hB d2 E1 l2 hb fun a xs H2 f2 k2 E2 e2 r2 => ?_
  refine ⟨_, _, rfl, r.1 _ _ _ (hnx a) ?_⟩
  have P1 := E1.put (i := i) r1
  have P2 := E2.put (i := i) (E1.dq k2 r1)
  refine P2.own P1 k2 f2 e2 (r2.go fun b o n e => ⟨fun z => n ?_, e⟩)
  rcases z with z | z
  · exact .inl (MOset z)
  · exact .inr z
theorem psd_parC {i j k jG : Nat} {x y xG : Str} {psG : List Str} {spG : DSp} {b eB : Expr} {esB : List Expr} {px py pt pG posG pos : Pos} {kt k2 pt2} {me : DE} {mB : DA} (DG : DefOk X.prog X.w X.K X.mg X.base jG xG psG spG) (hr : Room k X.A) (hjG : jG ≤ k) (hgu : X.A.guards = some [])
    (hc : X.calm = true) (hN : X.N.Nodup) (hi : X.N[i]? = some x) (hj : X.N[j]? = some y) (hij : i ≠ j)
    (hx : X.env.scope.names.lookup x = some .local) (hy : X.env.scope.names.lookup y = some .local) (hb : PD X b me) (hB : PDA X (eB :: esB) psG.length mB)
    (hw : swappedStores [.Tuple [.Name x px, .Name y py] kt pt] (.Tuple [b, .Call (.Name xG pG) (eB :: esB) [] posG] k2 pt2) X.env = pure (some [x, y]))
    (gG : Gl X xG := by rfl) (dG : (xG == ("__debug__" : Str)) = false := by decide)
    (hsG : starEach (eB :: esB) X.env = (false, eval eB X.env) :: starEach esB X.env := by rfl) (hpG : (backTo posG (starEach esB X.env)).any (·.1) = false := by rfl)
    (hs1 : starEach [b, .Call (.Name xG pG) (eB :: esB) [] posG] X.env = (false, eval b X.env) :: starEach [.Call (.Name xG pG) (eB :: esB) [] posG] X.env := by rfl)
    (hs2 : starEach [.Call (.Name xG pG) (eB :: esB) [] posG] X.env = (false, eval (.Call (.Name xG pG) (eB :: esB) [] posG) X.env) :: starEach [] X.env := by rfl)
    (hs : swapsWithSole [.Tuple [.Name x px, .Name y py] kt pt] (.Tuple [b, .Call (.Name xG pG) (eB :: esB) [] posG] k2 pt2) pos.line X.env = pure false := by rfl) :
    PDS Wx X (.Assign [.Tuple [.Name x px, .Name y py] kt pt] (.Tuple [b, .Call (.Name xG pG) (eB :: esB) [] posG] k2 pt2) pos) (dParC i j spG me mB) := by
  obtain ⟨fG, fdG, hmG, kpG, hbG, FG⟩ := DG
  obtain ⟨te, hE, lE⟩ := hb
  obtain ⟨tB, hB, lB⟩ := hB
  exact ⟨_, ps_par hc hN hi hj hij hx hy (pa_cons hE (pa_cons (pe_callG FG (hr.mono hjG) hgu gG hmG kpG hbG hB dG hsG hpG) pa_nil hs2) hs1) hw hs, ls_parC lE lB⟩
/-- x = g(..); x is changed behind -/
def dOwnC (i : Nat) (spG : DSp) (mB : DA) : DS := fun Dd σd => ∃ d2 : List D, listFrees d2 = true ∧ (mB σd fun ds => listFrees ds = true ∧ spG ds fun d => d = .list d2) ∧ ∀ p, Dd.nx (σd.set i (Sl.own p d2))
theorem ls_ownC {i nG : Nat} {spG : DSp} {tB : TA} {mB : DA} (hB : LA nG tB mB) : LS Wx (tAsg (tCallG (SpD nG spG) tB) (gName i)) (dOwnC i spG mB) := by
  intro S M H0 H σ σd Dd Dn E hm r
  obtain ⟨d2, l2, hb, hnx⟩ := hm
  unfold tAsg
  refine lf_call hB d2 E l2 hb fun a xs H2 f2 k2 E2 e2 r2 => ?_
  exact r.1 _ _ _ (hnx a) (E2.own E k2 f2 e2 r2)
theorem psd_ownC {i k jG : Nat} {x xG : Str} {psG : List Str} {spG : DSp} {eB : Expr} {esB : List Expr} {px pG posG pos : Pos} {mB : DA} (DG : DefOk X.prog X.w X.K X.mg X.base jG xG psG spG) (hr : Room k X.A) (hjG : jG ≤ k) (hgu : X.A.guards = some [])
    (hN : X.N.Nodup) (hi : X.N[i]? = some x) (hx : Loc X.env.scope x) (hB : PDA X (eB :: esB) psG.length mB)
    (gG : Gl X xG := by rfl) (dG : (xG == ("__debug__" : Str)) = false := by decide)
    (hsG : starEach (eB :: esB) X.env = (false, eval eB X.env) :: starEach esB X.env := by rfl) (hpG : (backTo posG (starEach esB X.env)).any (·.1) = false := by rfl)
    (hs : swapsWith (.Call (.Name xG pG) (eB :: esB) [] posG) (some (.Name x px)) pos.line X.env = pure false := by rfl)
    (hf : X.fn x = true ∨ X.env.scope.names.lookup x = some .local := by first | exact .inl rfl | exact .inr rfl) :
    PDS Wx X (.Assign [.Name x px] (.Call (.Name xG pG) (eB :: esB) [] posG) pos) (dOwnC i spG mB) := by
  obtain ⟨fG, fdG, hmG, kpG, hbG, FG⟩ := DG
  obtain ⟨tB, hB, lB⟩ := hB
  exact ⟨_, ps_set hN hi hx (pe_callG FG (hr.mono hjG) hgu gG hmG kpG hbG hB dG hsG hpG) hs hf, ls_ownC lB⟩
/-- if c: .., the list read in c -/
def dLend (i : Nat) (c : DT) (m : DS) : DS := fun Dd σd => ∃ a ds, σd[i]? = some (Sl.own a ds) ∧ c (σd.set i (.val (.list ds))) fun b => if b = true then m Dd (σd.set i (.val (.list ds))) else Dd.nx σd
theorem ls_lend {i : Nat} {c : TT} {t : TS} {dc : DT} {m : DS} (hc : LT c dc) (h1 : LS Wx t m) : LS Wx (tIfS c t tNext) (dLend i dc m) := by
  intro S M H0 H σ σd Dd Dn E hm r
  obtain ⟨a, ds, hs, h⟩ := hm
  have Ef := E.frz hs
  refine hc S M H0 H σ _ _ _ Ef h fun b H1 q E1 k1 => ?_
  cases b with
  | true => exact h1 S M H0 H1 σ _ _ _ E1 (by simpa using q) r
  | false =>
    have q' : Dd.nx σd := by simpa using q
    have src2 : SrcOk S M H1 := E1.src
    exact r.1 _ _ _ q' (E.ext k1 src2)
theorem psd_lend (i : Nat) {c : Expr} {a : List Stmt} {dc : DT} {m : DS} {pos : Pos} (hc : PDT X c dc) (ha : PDSs Wx X a m) : PDS Wx X (.If c a [] pos) (dLend i dc m) :=
  let ⟨_, h0, l0⟩ := hc; let ⟨_, h1, l1⟩ := ha; ⟨_, ps_if h0 h1 pss_nil, ls_lend l0 l1⟩
end
end PH

/-! sorted of a tuple: as of a list of its items. -/
namespace PH
open PySem PySem.Spec PySem.Calls PyProof.Rows PySem.W
section
variable {prog : Program} {w : World} {A : Around} {E : Value → Shared → Prop} {s : Shared}
/-- a list's or a tuple's items -/
def SeqAt (h : Heap) (l : Addr) (vs : List Value) : Prop := ∃ o n, h.get? l = some o ∧ (o.cls = .type "list" ∨ o.cls = .type "tuple") ∧ o.data = .seq vs.toArray n
theorem collect_seq {l : Addr} {vs : List Value} {Q : List Value → Shared → Prop} (hl : SeqAt s.heap l vs) (hz : vs.length ≤ sizeLine)
    (k : Q vs { s with heap := (s.heap.push (seqObj "list" #[] 0)).update s.heap.objs.size (Obj.mapSeq (· ++ vs.toArray)) }) : wpAny (model prog w) A (collect (.ref l)) Q E s := by
  obtain ⟨o, n, ho, hc, hd⟩ := hl
  rcases hc with hc | hc
  · exact collect_list ⟨o, ho, hc, n, hd⟩ k hz
  unfold collect
  refine wpAny_bind (wpAny_runValue (codeAny_builtin entry_proto_collect' ?_))
  show wpAny _ _ (do again (.builtin "list.__iadd__" ⟨[← newList [], .ref l], []⟩)) _ _ s
  refine wpAny_bind (wpAny_newList (wpAny_pure ⟨Code.quiet_builtin _ (by decide +kernel), codeAny_builtin entry_list_iadd' ?_⟩))
  show wpAny _ _ (Builtin.List.listExtendWith (.ref s.heap.objs.size) (.ref l) (.ref s.heap.objs.size)) _ _ { s with heap := s.heap.push (seqObj "list" #[] 0) }
  unfold Builtin.List.listExtendWith
  have e1 : (s.heap.push (seqObj "list" #[] 0)).get? l = some o := Heap.get?_push_of_some _ ho
  have e2 : (s.heap.push (seqObj "list" #[] 0)).get? s.heap.objs.size = some (seqObj "list" #[] 0) := Heap.get?_push_size _ rfl
  refine wpAny_bind (wpAny_typeOf (T := "tuple") ⟨o, e1, hc⟩ ?_)
  have tt : (Value.type "tuple" == Value.type "tuple") = true := by rfl
  rw [if_pos (by rw [tt]; simp)]
  refine wpAny_bind (listItems_at e1 hd ?_)
  refine wpAny_bind (listItems_at (xs := #[]) (n := 0) e2 rfl ?_)
  rw [if_neg (by simp)]
  refine wpAny_bind (listUpdate_at (xs := #[]) (n := 0) e2 rfl ?_ (Nat.zero_le _) (by show (#[] ++ vs.toArray).size ≤ sizeLine + 1; simp; omega))
  refine wpAny_pure ?_
  show wpAny (model prog w) A (do
      let o ← load s.heap.objs.size
      match o.data with
      | .seq xs _ => pure xs.toList
      | _ => unsupported "internal:collect") Q E { s with heap := (s.heap.push (seqObj "list" #[] 0)).update s.heap.objs.size (Obj.mapSeq (· ++ vs.toArray)) }
  refine wpAny_bind (wpAny_load (get?_update_seq e2 _) ?_)
  show wpAny _ _ (pure ((#[] : Array Value) ++ vs.toArray).toList) Q E _
  have e3 : ((#[] : Array Value) ++ vs.toArray).toList = vs := by simp
  rw [e3]
  exact wpAny_pure k
/-- sorted(xs, ..), xs a list or a tuple: list.sort(..) on a new list of its items -/
theorem sorted_of_seq {l : Addr} {vs : List Value} {kw : List (Str × Value)} {Q : Value → Shared → Prop} (hl : SeqAt s.heap l vs) (hz : vs.length ≤ sizeLine) (a1 : argsOk "sorted" ⟨[.ref l], kw⟩) (a2 : ∀ x, argsOk "list.sort" ⟨[.ref x], kw⟩)
    (go : ∀ E' : Value → Shared → Prop, wpAny (model prog w) A.in1.in1 (Builtin.«list.sort» ⟨[.ref (s.heap.objs.size + 1)], kw⟩) (fun f s' => f = .done (.ret .none) ∧ Q (.ref (s.heap.objs.size + 1)) s') E' { s with heap := copyHeap s.heap vs }) :
    wpAny (model prog w) A (call (.builtin "sorted") [.ref l] kw) Q E s := by
  refine call_function_entry_kw kind_sorted plain_sorted entry_sorted a1 ?_
  unfold Builtin.«sorted»
  refine wpAny_bind (m := checkCount "sorted" 1 1 _) (wpAny_pure ?_)
  refine wpAny_bind (collect_seq hl hz ?_)
  refine wpAny_bind (wpAny_newList ?_ hz)
  have es : ((s.heap.push (seqObj "list" #[] 0)).update s.heap.objs.size (Obj.mapSeq (· ++ vs.toArray))).objs.size = s.heap.objs.size + 1 := by rw [Heap.size_update, size_push']
  show wpAny _ _ _ _ _ { s with heap := copyHeap s.heap vs }
  rw [es]
  refine wpAny_bind (wpAny_holding (wpAny_call_entry_kw slot_list_sort ⟨_, copyHeap_at s.heap vs, rfl⟩ entry_list_sort (wpAny_mono (go _) (fun f s' hf => ?_) fun _ _ e => e) (a2 _)))
  obtain ⟨rfl, hq⟩ := hf
  exact ⟨_, rfl, wpAny_pure ⟨_, rfl, hq⟩⟩
end
end PH

/-! A lambda of one parameter: made in a def, called by a built-in. -/
namespace PH
open PySem PySem.Spec PyProof.Rows L2 LamX NdefX

/-- only tables are written -/
def KeepT (H H' : Hp) : Prop := ∀ a o, H a = some o → H' a = some o ∨ ∃ ps ps', o = .tbl ps ∧ H' a = some (.tbl ps')
theorem KeepT.ks {H H' : Hp} (h : KeepT H H') {S : Sr} : KeepS S H H' := fun a o e _ => h a o e
/-- the function object of a lambda stands at f -/
def LamAt (h : Heap) (f : Addr) (q : Str) (pa : Arguments) (bd : Expr) (sc : Scope) (cl : List (Str × Addr)) (c' : Addr) : Prop := ∃ pm ctv, h.get? f = some (PySem.W.kla_obj "<lambda>" q pa bd sc cl pm c' ctv)
/-- its words, as those of a def without statements -/
abbrev lamF (q : Str) (pa : Arguments) (sc : Scope) (cl : List (Str × Addr)) (c' : Addr) : NF := ⟨"<lambda>", q, pa, [], sc, cl, c'⟩
section
variable {X : Cx} {pins : List (Addr × Obj)} {σ : L2.St} {H : Hp} {s : Shared}
theorem lamT_make {c P : Addr} {q : Str} {pa : Arguments} {bd : Expr} {sc : Scope} {pos : Pos} {E Q : Value → Shared → Prop} (I : Inv X pins σ H s) (B : TabB X.base X.mg c P) (ec : X.env.code = .ref c) (eq : X.env.qual ++ "<lambda>" = q)
    (mT : (P, q) ∈ lamTabs) (uT : ∀ p ∈ lamTabs, p.1 = P → p.2 = q) (T : Tabs lamTabs H) (ed : defaultsOf pa X.env = ([], [])) (hf : ∀ y ∈ sc.names, y.2 = .free → ∃ c, X.env.cells.lookup y.1 = some c)
    (k : ∀ (f c' : Addr) (H1 : Hp) (s' : Shared), Inv X pins σ H1 s' → KeepT H H1 → Tabs lamTabs H1 → LamAt s'.heap f q pa bd sc (cloFrom X.env.cells sc.names []) c' → s.heap.objs.size ≤ f → H1 f = none → H1 c' = some (CodeO c' q) → Q (.ref f) s') :
    wpAny (model X.prog X.w) X.A (eval (.Lambda pa bd sc pos) X.env) Q E s := by
  obtain ⟨ps, eP, tr, am⟩ := T _ mT
  dsimp only at eP am
  refine PySem.W.kla_eval ed ?_
  rw [eq]
  have oP : s.heap.get? P = some { cls := .none, data := .fields ps } := I.hok P _ eP
  have g0 := I.mod.glob.keeps I.bk
  rcases hc : codeAmong pos ps.toList with _ | cv
  · refine PySem.W.kla_makeFunction (mg := X.mg) (c := c) (P := P) (ps := ps) (closure_ok hf) I.ok.glob g0 ec (B.code.keeps I.bk) oP tr hc B.gP (B.bm.keeps I.bk) ?_
    intro c' ctv h' tk ex ge lt rec tab
    obtain ⟨c2, oc, vs, t, z, r1, r2, r3⟩ := rec
    obtain rfl : c' = c2 := by injection z
    have nC : H c' = none := I.hok.fresh ge
    have sz : s.heap.objs.size ≤ h'.objs.size := Nat.le_trans ge (Nat.le_of_lt lt)
    let more : Array Value := #[rawInt pos.line, rawInt pos.col, .ref c']
    let Hn : Hp := upd (upd H P (.tbl (ps ++ more))) c' (CodeO c' q)
    have J := inv_table (t' := tk) (more := more) (h' := h'.push (PySem.W.kla_obj "<lambda>" q pa bd sc (cloFrom X.env.cells sc.names []) ((X.mg "__name__").getD .none) c' ctv)) I eP
      (fun b o nb e => Heap.get?_push_of_some _ (ex b o nb e)) (Heap.get?_push_of_some _ tab) ge ⟨oc, vs, t, Heap.get?_push_of_some _ r1, r2, r3⟩
    have old : ∀ b o, H b = some o → (∀ qs, o ≠ .tbl qs) → Hn b = some o := fun b o e n => by
      show upd (upd H P _) c' _ b = _
      rw [upd_ne (ne_of_none e nC), upd_ne fun z => n ps ?_, e]
      rw [z, eP] at e
      exact (Option.some.inj e).symm
    have fP : h'.objs.size ≠ P := fun z => Nat.lt_irrefl _ (Nat.lt_of_lt_of_le (Heap.lt_size oP) (z ▸ sz))
    refine k h'.objs.size c' Hn _ J (fun b o e => ?_) (fun p hp => ?_) ⟨_, _, Heap.get?_push_size _ rfl⟩ sz ?_ upd_same
    · by_cases hb : b = P
      · subst hb
        obtain rfl : o = .tbl ps := Option.some.inj (e.symm.trans eP)
        exact .inr ⟨ps, ps ++ more, rfl, by show upd (upd H b _) c' _ b = _; rw [upd_ne (ne_of_none eP nC), upd_same]⟩
      · exact .inl (by show upd (upd H P _) c' _ b = _; rw [upd_ne (ne_of_none e nC), upd_ne hb, e])
    · by_cases hb : p.1 = P
      · have e2 := uT p hp hb
        refine ⟨ps ++ more, by rw [hb]; show upd (upd H P _) c' _ P = _; rw [upd_ne (ne_of_none eP nC), upd_same], ?_, fun pos' cv hcv => ?_⟩
        · rw [Array.toList_append]; exact PySem.TriplesOk_snoc _ _ _ _ tr
        · rw [Array.toList_append] at hcv
          rw [e2]
          rcases among_app _ tr hcv with z | z
          · obtain ⟨d, z1, z2⟩ := am pos' cv z
            exact ⟨d, z1, old d _ z2 codeO_ne⟩
          · exact ⟨c', z, upd_same⟩
      · obtain ⟨qs, a1, a2, a3⟩ := T p hp
        refine ⟨qs, by show upd (upd H P _) c' _ p.1 = _; rw [upd_ne (ne_of_none a1 nC), upd_ne hb, a1], a2, fun pos' cv hcv => ?_⟩
        obtain ⟨d, z1, z2⟩ := a3 pos' cv hcv
        exact ⟨d, z1, old d _ z2 codeO_ne⟩
    · show upd (upd H P _) c' _ h'.objs.size = _
      rw [upd_ne (Nat.ne_of_gt lt), upd_ne fP]
      exact I.hok.fresh sz
  · obtain ⟨c', rfl, co⟩ := am pos cv hc
    refine PySem.W.kla_makeFunctionHit (mg := X.mg) (c := c) (P := P) (ps := ps) (closure_ok hf) I.ok.glob g0 ec (B.code.keeps I.bk) oP tr hc (B.bm.keeps I.bk) ?_
    intro ctv h' tk ex sz
    have J : Inv X pins σ H { s with heap := h'.push (PySem.W.kla_obj "<lambda>" q pa bd sc (cloFrom X.env.cells sc.names []) ((X.mg "__name__").getD .none) c' ctv), toks := tk } := I.kept fun b o e => Heap.get?_push_of_some _ (ex b o e)
    exact k h'.objs.size c' H _ J (fun _ _ e => .inl e) T ⟨_, _, Heap.get?_push_size _ rfl⟩ sz (I.hok.fresh sz) co
/-- it is called with one value -/
theorem lamT_call {k : Nat} {A : Around} {f c' : Addr} {q x : Str} {pa : Arguments} {bd : Expr} {sc : Scope} {cl : List (Str × Addr)} {N fr : List Str} {ws : List (Option V)} {v : V} {u : Value} {Q : VK} {tb : TE} (I : Inv X pins σ H s) (e0 : Env0 X.prog X.w X.K X.mg X.base A X.stack s H) (hr : Room (k + 1) A)
    (S : NScope N [x] fr sc) (eb : ∀ (pm cv ctv u : Value), bindArgs (PySem.W.kla_fn "<lambda>" q pa bd sc cl pm cv ctv) ⟨[u], []⟩ = pure [(x, u)])
    (C : CellsAt cl fr ws s.heap H) (la : LamAt s.heap f q pa bd sc cl c') (hc : H c' = some (CodeO c' q)) (rv : RelV v u)
    (hb : ∀ (outer : List Env) (s : Shared) (H : Hp), Room k (A.deeper (envF (lamF q pa sc cl c') f s.heap.objs.size)) → PE (ncx C8.CX0 X.prog X.w X.K X.mg X.base N (lamF q pa sc cl c') f A outer s H C8.E0) bd tb)
    (h : tb (startF N [v] ws) H Q) : wpAny (model X.prog X.w) A (call (.ref f) [u]) (EP X pins σ Q) (fun _ _ => False) s := by
  obtain ⟨pm, ctv, ho⟩ := la
  have lim : s.heap.NoLimit := I.nolimit
  have rc : codeAny (model X.prog X.w) A (.call (.ref f) ⟨[u], []⟩) (CR C8.CX0 X.stack X.prog X.w H s Q C8.E0) s := by
    refine PySem.W.kla_callFunE hr.depth ho rfl S.co S.gen rfl (codeO_at I.hok hc) ?_
    rw [eb]
    refine wpAny_pure (wpAny_newFunctionEnv S.nocell (fun ⟨n, w⟩ hy => S.par n ?_) (fun h₁ hns hsb => ⟨lim.fresh _ hsb, ?_⟩) S.kind)
    · simp only [List.mem_singleton, Prod.mk.injEq] at hy
      simp [hy.1]
    have kp : ∀ b o, s.heap.get? b = some o → h₁.get? b = some o := fun b o e => hsb.extBut b o (Nat.ne_of_lt (Heap.lt_size e)) (Heap.get?_push_of_some _ e)
    have J := inv_startN (CX := C8.CX0) (E := C8.E0) (F := lamF q pa sc cl c') (f := f) (h₁ := h₁) (tk := s.toks + 1) (us := [u]) (vs := [v]) S hr.hd e0 rfl (.cons rv .nil) C hns kp
    refine PySem.W.kla_codeExpr (wpAny_mono ((hb X.stack s H (hr.deeper _)).run [] _ _ H Q J h) (fun v s' hq => ?_) fun e s' hq => hq)
    obtain ⟨w', H', J', rv', q'⟩ := hq
    exact ⟨w', H', J'.os, J'.bare, J'.base, J'.hok, rv', q'⟩
  refine wpAny_call (codeAny_mono rc fun r s' hq => ?_)
  rcases r with e | fl
  · exact hq
  · cases fl with
    | ret u => exact I.after hq
    | next => exact False.elim hq
    | brk => exact False.elim hq
    | cont => exact False.elim hq
end
end PH

/-! sorted(xs, key=f), f any function object: the loop over the keys, and the end. -/
namespace PH
open PySem PySem.Spec PySem.Calls PyProof.Rows PySem.W L2

section
variable {X : Cx} {pins : List (Addr × Obj)} {σ : L2.St} {H : Hp} {s : Shared}
/-- the objects of a running sort -/
def sPins (f : Addr) (fo : Obj) (L kS : Addr) (e1 e : Nat) (us : List Value) : List (Addr × Obj) := [(f, fo), (L, seqObj "list" #[] e1), (kS, seqObj "list" us.toArray e)]
/-- one key is stored -/
theorem key_stored {f L kS : Addr} {fo : Obj} {e1 e : Nat} {us : List Value} {v : Value} {E : Value → Shared → Prop} {Q : Unit → Shared → Prop} {A : Around}
    (I : Inv X (pins ++ sPins f fo L kS e1 e us) σ H s) (nf : f ≠ kS) (nL : L ≠ kS) (np : ∀ p ∈ X.pn ++ pins, p.1 ≠ kS) (ge : X.s_0.heap.objs.size ≤ kS) (hz : us.length < sizeLine)
    (k : ∀ (e' : Nat) (s' : Shared), Inv X (pins ++ sPins f fo L kS e1 e' (us ++ [v])) σ H s' → Q () s') : wpAny (model X.prog X.w) A (Builtin.List.listUpdate (.ref kS) (·.push v)) Q E s := by
  have pin : ∀ p ∈ sPins f fo L kS e1 e us, _ := fun p hp => I.pin p (List.mem_append_right _ (List.mem_append_right _ hp))
  obtain ⟨oK, hK, lK, fK, dK⟩ := pin (kS, seqObj "list" us.toArray e) (by simp [sPins])
  obtain ⟨oL, hL, lL, fL, dL⟩ := pin (L, seqObj "list" #[] e1) (by simp [sPins])
  obtain ⟨oF, hF, lF, fF, dF⟩ := pin (f, fo) (by simp [sPins])
  have sb := Heap.SameBut.update s.heap kS (Obj.mapSeq (·.push v))
  obtain ⟨e', he'⟩ : ∃ e', (s.heap.update kS (Obj.mapSeq (·.push v))).get? kS = some (seqObj "list" (us.toArray.push v) e') := ⟨_, get?_update_seq oK (·.push v)⟩
  have ea : us.toArray.push v = (us ++ [v]).toArray := by simp
  rw [ea] at he'
  have I0 : Inv X pins σ H s := I.pins_of fun p hp => I.pin p (List.mem_append_right _ (List.mem_append_left _ hp))
  have I1 : Inv X pins σ H { s with heap := s.heap.update kS (Obj.mapSeq (·.push v)), toks := s.toks } := I0.turned (it := kS) (fun b o hb q => (sb.2 b hb).trans q) hK lK (.inr ge) (fun x c hx z => by
    obtain ⟨w, ob, o1, o2⟩ := I.cell x c hx
    rw [z, oK] at o1
    cases o1
    exact dK _ o2) np
  refine listUpdate_at oK rfl ?_ (by simpa using Nat.le_of_lt hz) (by simp; omega)
  refine k e' _ (I1.pins_of fun p hp => ?_)
  rcases List.mem_append.mp hp with hp | hp
  · exact I1.pin p (List.mem_append_right _ hp)
  · simp only [sPins, List.mem_cons, List.not_mem_nil, or_false] at hp
    rcases hp with rfl | rfl | rfl
    · exact ⟨(sb.2 f nf).trans oF, hF, lF, fF, dF⟩
    · exact ⟨(sb.2 L nL).trans oL, hL, lL, fL, dL⟩
    · exact ⟨he', hK, lK, fK, fun w z => by cases z⟩

/-- the keys, one by one -/
theorem keys_loop {f L kS : Addr} {fo : Obj} {e1 : Nat} {vs : List Value} {xs : List V} {A : Around} {E : Value → Shared → Prop} {P : PySem.Fin → Shared → Prop} {W : Nat → List V → Hp → Prop}
    (I : ∃ e, Inv X (pins ++ sPins f fo L kS e1 e []) σ H s) (rx : Vals xs vs) (nf : f ≠ kS) (nL : L ≠ kS) (np : ∀ p ∈ X.pn ++ pins, p.1 ≠ kS) (ge : X.s_0.heap.objs.size ≤ kS) (hz : vs.length ≤ sizeLine) (w0 : W 0 [] H)
    (turn : ∀ (i : Nat) (x : V) (u : Value) (acc : List V) (H2 : Hp) (pn2 : List (Addr × Obj)) (s2 : Shared), xs[i]? = some x → RelV x u → acc.length = i → W i acc H2 → Inv X pn2 σ H2 s2 → s2.heap.get? f = some fo →
      wpAny (model X.prog X.w) A (call (.ref f) [u]) (EP X pn2 σ fun kv H3 => W (i + 1) (acc ++ [kv]) H3) (fun _ _ => False) s2)
    (fin : ∀ (acc : List V) (us : List Value) (H2 : Hp) (e : Nat) (s2 : Shared), Inv X (pins ++ sPins f fo L kS e1 e us) σ H2 s2 → Vals acc us → acc.length = vs.length → W vs.length acc H2 →
      wpAny (model X.prog X.w) A (ksk_end L false vs.toArray e1 (.ref kS) us.toArray) P E s2) :
    wpAny (model X.prog X.w) A (ksk_rest L (.ref f) false vs.toArray e1 (.ref kS)) P E s := by
  unfold ksk_rest
  refine wpAny_bind (wpAny_rule ?_)
  first
    | rw [List.forIn_toArray]
    | (rw [← Array.forIn_toList]; simp only [List.toList_toArray])
    | rw [← Array.forIn_toList]
  refine wpAny_bind (ksk_fold (fun i s' => ∃ (acc : List V) (us : List Value) (H2 : Hp) (e : Nat), Inv X (pins ++ sPins f fo L kS e1 e us) σ H2 s' ∧ Vals acc us ∧ acc.length = i ∧ W i acc H2) vs 0 s ?start ?step ?done)
  case start => obtain ⟨e, I⟩ := I; exact ⟨[], [], H, e, I, .nil, rfl, w0⟩
  case step =>
    rintro j u s' hu ⟨acc, us, H2, e, I2, ra, la, hw⟩
    simp only [Nat.zero_add] at la hw ⊢
    obtain ⟨x, hx, rv⟩ : ∃ x, xs[j]? = some x ∧ RelV x u := by
      have hj : j < xs.length := by rw [rx.length]; exact (List.getElem?_eq_some_iff.mp hu).1
      obtain ⟨u', h1, h2⟩ := rx.get (List.getElem?_eq_getElem hj)
      rw [hu] at h1
      cases h1
      exact ⟨_, List.getElem?_eq_getElem hj, h2⟩
    have lt : us.length < sizeLine := by
      have h1 : j < vs.length := (List.getElem?_eq_some_iff.mp hu).1
      rw [← ra.length, la]
      omega
    have oF := (I2.pin (f, fo) (List.mem_append_right _ (List.mem_append_right _ (by simp [sPins])))).1
    refine wpAny_bind (wpAny_attempt (wpAny_mono (turn j x u acc H2 _ s' hx rv la hw I2 oF) (fun v s2 hq => ?_) fun _ _ hF => hF.elim))
    obtain ⟨kv, H3, I3, rk, hw3⟩ := hq
    refine wpAny_bind (key_stored I3 nf nL np ge lt fun e' s3 I4 => ?_)
    refine wpAny_pure ⟨rfl, acc ++ [kv], us ++ [v], H3, e', I4, ?_, by simp [la], hw3⟩
    exact ra.append (.cons rk .nil)
  case done =>
    rintro s' ⟨acc, us, H2, e, I2, ra, la, hw⟩
    simp only [Nat.zero_add] at la hw
    have oK := (I2.pin (kS, seqObj "list" us.toArray e) (List.mem_append_right _ (List.mem_append_right _ (by simp [sPins])))).1
    try dsimp only
    refine wpAny_bind (listItems_at oK rfl ?_)
    exact fin acc us H2 e s' I2 ra la hw
/-- the end: the list's own object is known from now on -/
theorem keys_end {f L kS : Addr} {fo : Obj} {e1 e : Nat} {vs us : List Value} {xs : List V} {A : Around} {E : Value → Shared → Prop} {P : PySem.Fin → Shared → Prop} {es : List D} {R : Value → D → Prop} {k : D → D}
    (I : Inv X (pins ++ sPins f fo L kS e1 e us) σ H s) (nL : L ≠ kS) (np : ∀ p ∈ X.pn ++ pins, p.1 ≠ kS ∧ p.1 ≠ L) (geL : X.s_0.heap.objs.size ≤ L) (ge : X.s_0.heap.objs.size ≤ kS) (hz : vs.length ≤ sizeLine) (rx : Vals xs vs)
    (lu : us.length = vs.length) (le : EachIs R vs es) (lk : EachIs (fun v d => ∃ as, Reads s.heap v d as) us (es.map k)) (al : AllAlike (es.map k)) (so : Sortable (es.map k)) (dp : ∀ d ∈ es.map k, A.units + d.depth < cLine)
    (fin : ∀ (out : List Value) (ys : List V) (s2 : Shared), EachIs R out (es.mergeSort (dataLe false k)) → Vals ys out → H L = none → Inv X pins σ (upd H L (.lst ys)) s2 → P (.done (.ret .none)) s2) :
    wpAny (model X.prog X.w) A (ksk_end L false vs.toArray e1 (.ref kS) us.toArray) P E s := by
  have pin : ∀ p ∈ sPins f fo L kS e1 e us, _ := fun p hp => I.pin p (List.mem_append_right _ (List.mem_append_right _ hp))
  obtain ⟨oK, hK, lK, fK, dK⟩ := pin (kS, seqObj "list" us.toArray e) (by simp [sPins])
  obtain ⟨oL, hL, lL, fL, dL⟩ := pin (L, seqObj "list" #[] e1) (by simp [sPins])
  have I0 : Inv X pins σ H s := I.pins_of fun p hp => I.pin p (List.mem_append_right _ (List.mem_append_left _ hp))
  -- all but the keys' store
  let Hk : Hp := fun b => if b = kS then some (.lst []) else none
  have h1n : (hidT s.heap Hk).get? kS = none := by
    cases z : (hidT s.heap Hk).get? kS with
    | none => rfl
    | some o => have := (of_hidT z).2; simp [Hk] at this
  have kp : KeepsBut L (hidT s.heap Hk) s.heap := fun b o _ q => (of_hidT q).1
  refine keyH_end (b := false) (κ := dataKind s.heap (es.map k)) (vs := vs) kp h1n oK oL nL.symm (by simpa using SortsAt.data lk al so dp) (by simpa using lu) hz fun h' tk c kp' oL' => ?_
  have eo : EachIs R (sortVals (dataKind s.heap (es.map k)) false us vs) (es.mergeSort (dataLe false k)) :=
    keyedOut_each (vs := vs) k ⟨s.heap, us, al, rfl, lk⟩ le
  have oL2 : h'.get? L = some (seqObj "list" (sortVals (dataKind s.heap (es.map k)) false us vs).toArray c) := by simpa using oL'
  generalize hO : sortVals (dataKind s.heap (es.map k)) false us vs = out at eo oL2
  have hlen : out.length = vs.length := by rw [← hO]; exact sortVals_length false lu
  obtain ⟨ys, ry⟩ : ∃ ys : List V, Vals ys out := by
    have mem : ∀ v ∈ out, v ∈ vs := fun v hv => sortVals_mem false (by rw [hO]; exact hv)
    clear hO eo oL2 hlen oL' 
    induction out with
    | nil => exact ⟨[], .nil⟩
    | cons v r ih =>
      obtain ⟨ys, h⟩ := ih fun w hw => mem w (by simp [hw])
      obtain ⟨i, hi⟩ := List.getElem?_of_mem (mem v (by simp))
      have hj : i < xs.length := by rw [rx.length]; exact (List.getElem?_eq_some_iff.mp hi).1
      obtain ⟨u', h1, h2⟩ := rx.get (List.getElem?_eq_getElem hj)
      rw [hi] at h1
      cases h1
      exact ⟨_, .cons h2 h⟩
  have kept : ∀ b o, b ≠ L → b ≠ kS → s.heap.get? b = some o → h'.get? b = some o := fun b o n1 n2 q => kp' b o n1 (hidT_get q (by show (if b = kS then _ else _) = none; rw [if_neg n2]))
  have cne : ∀ a, (∃ its m, s.heap.get? a = some (seqObj "list" its m)) → ∀ x c, X.env.cells.lookup x = some c → c ≠ a := fun a ⟨its, m, oa⟩ x c hx z => by
    obtain ⟨w, ob, o1, o2⟩ := I.cell x c hx
    rw [z, oa] at o1
    cases o1
    cases o2
  have ch : ∀ b, b ∉ [L, kS] → b ≠ L ∧ b ≠ kS := fun b hb => by simpa using hb
  have nL' : ∀ b u, H b = some u → b ≠ L := fun b u q z => by rw [z, hL] at q; cases q
  have nK' : ∀ b u, H b = some u → b ≠ kS := fun b u q z => by rw [z, hK] at q; cases q
  refine fin out ys _ eo ry hL (I0.step (g' := s.gens) (d' := s.drawn) (ch := [L, kS]) (fun b hb => ?_) (fun b o _ _ hc q _ => kept b o (ch b hc).1 (ch b hc).2 q) (fun b o _ _ hc q _ => ⟨o.slots, kept b o (ch b hc).1 (ch b hc).2 q⟩)
    (fun b o hc _ n => by rw [upd_ne (ch b hc).1]; exact n) (fun b o hc q => ⟨o, kept b o (ch b hc).1 (ch b hc).2 q⟩) (fun b xs q => by rw [upd_ne (nL' b _ q)]; exact q) (fun b o u q => by rw [upd_ne (nL' b _ q)]; exact q)
    (fun b qs q => ⟨#[], by rw [upd_ne (nL' b _ q), q]; simp⟩) (fun m hm => ?_) (fun b u q => ?_) I.bare)
  · simp only [List.mem_cons, List.not_mem_nil, or_false] at hb
    rcases hb with rfl | rfl
    · exact ⟨.inr geL, lL, cne _ ⟨_, _, oL⟩, fun p hp => (np p hp).2⟩
    · exact ⟨.inr ge, lK, cne _ ⟨_, _, oK⟩, fun p hp => (np p hp).1⟩
  · obtain ⟨o, es', ep, ho, r⟩ := hm
    exact ⟨o, es', ep, kept _ o lL.symm lK.symm ho, r⟩
  · by_cases hb : b = L
    · subst hb
      rw [upd_same] at q
      cases q
      exact ⟨by rw [ry.length, hlen]; exact hz, out, c, ry, oL2⟩
    · rw [upd_ne hb] at q
      refine (I0.hok b u q).stay (fun d v hd q2 => ?_) (fun d q2 => by rw [upd_ne (nL' d _ q2)]; exact q2) fun d xs q2 => by rw [upd_ne (nL' d _ q2)]; exact q2
      rcases hd with rfl | hd
      · exact kept _ _ hb (nK' _ _ q) q2
      · exact kept _ _ (nL' d _ hd) (nK' d _ hd) q2
end
end PH

/-! sorted(xs, key=lambda p: body) over data. -/
namespace PH
open PySem PySem.Spec PySem.Calls PyProof.Rows PySem.W L2 LamX NdefX

/-- a captured name's datum, for the lambda's frame -/
def capD (σd : DSt) (j : Nat) : Sl := match σd[j]? with
  | some (.val d) => .val d
  | _ => .emp
theorem cap_no {σd : DSt} {js : List Nat} {x : D} {a : Addr} {es : List D} : Sl.own a es ∉ (.val x :: js.map (capD σd)) := fun h => by
  rcases List.mem_cons.mp h with h | h
  · cases h
  · obtain ⟨j, _, e⟩ := List.mem_map.mp h
    unfold capD at e
    split at e <;> cases e
theorem MO_cap {M : Addr → Prop} {σd : DSt} {js : List Nat} {x : D} {a : Addr} : MO M (.val x :: js.map (capD σd)) a ↔ M a := ⟨fun h => h.elim id fun ⟨_, z⟩ => absurd z cap_no, .inl⟩
section
variable {S : Sr} {M : Addr → Prop} {H0 H : Hp} {σ : L2.St} {σd : DSt}
/-- the frame of the lambda's body -/
theorem Ev.cap (E : Ev S M H0 H σ σd) {js : List Nat} {v : V} {d : D} {N : List Str} (hN : N.length = 1 + js.length) (q : Dq S (MO M σd) H v d) : Ev S (MO M σd) (fun a => H a) H (startF N [v] (js.map (slotAt σ))) (.val d :: js.map (capD σd)) := by
  have e0 : startF N [v] (js.map (slotAt σ)) = some v :: js.map (slotAt σ) := by
    unfold startF
    rw [hN]
    simp
  rw [e0]
  have g : ∀ {w : V} {e : D}, Dq S (MO M σd) H w e → Dq S (MO (MO M σd) (.val d :: js.map (capD σd))) H w e := fun r => r.go fun a o n e => ⟨fun z => n (MO_cap.mp z), e⟩
  refine ⟨by simp, fun i o sl h1 h2 => ?_, fun i j a ds es h1 _ => absurd (List.mem_of_getElem? h1) cap_no, fun a ds h => absurd h cap_no, E.src.more fun _ z => .inl z, fun p c e => ?_, .refl, E.mtO, E.mtO⟩
  · cases i with
    | zero =>
      simp only [List.getElem?_cons_zero, Option.some.injEq] at h1 h2
      subst h1; subst h2
      exact ⟨v, rfl, g q⟩
    | succ i =>
      simp only [List.getElem?_cons_succ, List.getElem?_map] at h1 h2
      cases hj : js[i]? with
      | none => rw [hj] at h1; cases h1
      | some j =>
        rw [hj] at h1 h2
        simp only [Option.map_some, Option.some.injEq] at h1 h2
        subst h1
        unfold capD at h2
        split at h2
        · rename_i e he
          subst h2
          obtain ⟨o, ho, w, hw, r⟩ := E.slot he
          subst hw
          exact ⟨w, slotAt_of ho, g r⟩
        · subst h2; trivial
  · obtain ⟨h1, h2, _⟩ := E.src.go p c e
    exact ⟨E.mtO p (.inl h1), E.mtO c (.inl h2)⟩
/-- a tracked object that is no list, no dict and no table stays where only the source changes -/
theorem SrcOk.ne (x : SrcOk S M H) {a : Addr} {o : HO} (e : H a = some o) (h1 : ∀ xs, o ≠ .lst xs) (h2 : ∀ kv, o ≠ .dK kv) : ∀ p c, S = some (p, c) → a ≠ p ∧ a ≠ c := fun p c q => by
  obtain ⟨_, _, _, ns, l, m, t, e1, e2⟩ := x.go p c q
  refine ⟨fun z => ?_, fun z => ?_⟩
  · rw [z, e2] at e; exact h2 _ (Option.some.inj e).symm
  · rw [z, e1] at e; exact h1 _ (Option.some.inj e).symm
end
theorem codeO_l {c : Addr} {q : Str} (xs : List V) : CodeO c q ≠ .lst xs := fun z => by unfold CodeO at z; cases z
theorem codeO_d {c : Addr} {q : Str} (kv : List (Key × V)) : CodeO c q ≠ .dK kv := fun z => by unfold CodeO at z; cases z

/-- sorted by a key: k tells each item's key -/
def sKey (js : List Nat) (me : DE) (σd : DSt) (es : List D) (Q : List D → Prop) : Prop := es.length ≤ 1000000 ∧ ∃ k : D → D, (∀ x ∈ es, me (.val x :: js.map (capD σd)) fun z => z = k x) ∧ AllAlike (es.map k) ∧ Sortable (es.map k) ∧ (∀ x ∈ es, noS (k x) = true ∧ (k x).depth ≤ 60) ∧ Q (es.mergeSort (dataLe false k))
def dSortK (m : DE) (js : List Nat) (me : DE) : DA := fun σd Q => m σd fun d => match d with
  | .list es => sKey js me σd es Q
  | .tuple es => sKey js me σd es Q
  | _ => False
/-- a reading that gives a new list -/
def tOfN (m : DA) : TE := fun σ H Q => ∃ (S : Sr) (M : Addr → Prop) (H0 : Hp) (σd : DSt) (Qd : List D → Prop), Ev S M H0 H σ σd ∧ m σd Qd ∧ ∀ (ds : List D) (p : Addr) (xs : List V) (H' : Hp), Qd ds → Ev S M H0 H' σ σd → KeepS S H H' → H p = none → H' p = some (.lst xs) → Dqs S (fun a => MO M σd a ∨ a = p) H' xs ds → Q (.ref p) H'
theorem ln_of {m : DA} : LN (tOfN m) m := fun S M H0 H σ σd Qd Q E h k => ⟨S, M, H0, σd, Qd, E, h, k⟩

theorem vals_each {R : V → D → Prop} : ∀ {xs : List V} {us : List Value} {ds : List D}, Vals xs us → EachIs R xs ds → EachIs (fun u d => ∃ x, RelV x u ∧ R x d) us ds
  | _, _, _, .nil, .nil => .nil
  | _, _, _, .cons r t, .cons q s => .cons ⟨_, r, q⟩ (vals_each t s)
theorem dqs_each {S : Sr} {M : Addr → Prop} {H : Hp} : ∀ {xs : List V} {ds : List D}, Dqs S M H xs ds → EachIs (Dq S M H) xs ds
  | _, _, .nil => .nil
  | _, _, .cons a b => .cons a (dqs_each b)
/-- values of data: the values' forms by what they stand for -/
theorem each_dqs {S : Sr} {M : Addr → Prop} {H : Hp} : ∀ {us : List Value} {ds : List D} {ys : List V}, EachIs (fun u d => ∃ x, RelV x u ∧ Dq S M H x d) us ds → Vals ys us → Dqs S M H ys ds
  | _, _, _, .nil, .nil => .nil
  | _, _, _, .cons ⟨x, r, q⟩ t, .cons r' t' => .cons (RelV.inj r r' ▸ q) (each_dqs t t')

/-- what a lambda of one parameter asks of the def that makes it -/
structure LamOk (X : Cx) (N : List Str) (x q : Str) (fr : List Str) (js : List Nat) (pa : Arguments) (sc : Scope) (c P : Addr) : Prop where
  B : TabB X.base X.mg c P
  ec : X.env.code = .ref c
  eq : X.env.qual ++ "<lambda>" = q
  mT : (P, q) ∈ lamTabs
  uT : ∀ p ∈ lamTabs, p.1 = P → p.2 = q
  S : NScope N [x] fr sc
  nN : N.length = 1 + js.length
  ed : defaultsOf pa X.env = ([], [])
  hf : ∀ y ∈ sc.names, y.2 = .free → X.env.scope.names.lookup y.1 = some .cell ∨ X.env.scope.names.lookup y.1 = some .free
  hr : ∀ y ∈ fr, (y, NameKind.free) ∈ sc.names
  at_ : js.map (fun j => X.N[j]?) = fr.map some
set_option maxHeartbeats 1000000 in
theorem pe_sortK {X : Cx} {N fr : List Str} {x q : Str} {js : List Nat} {pa : Arguments} {bd : Expr} {sc : Scope} {c P : Addr} {k : Nat} {e : Expr} {p kp lp pos : Pos} {m me : DE} (L : LamOk X N x q fr js pa sc c P) (hr : Room (k + 3) X.A) (ha : PD X e m)
    (eb : ∀ (cl : List (Str × Addr)) (pm cv ctv u : Value), bindArgs (PySem.W.kla_fn "<lambda>" q pa bd sc cl pm cv ctv) ⟨[u], []⟩ = pure [(x, u)])
    (hb : ∀ (ql : Str) (cl : List (Str × Addr)) (d f : Addr) (outer : List Env) (s : Shared) (H : Hp), Room k (X.A.in1.in1.deeper (envF (lamF ql pa sc cl d) f s.heap.objs.size)) → PD (ncx C8.CX0 X.prog X.w X.K X.mg X.base N (lamF ql pa sc cl d) f X.A.in1.in1 outer s H C8.E0) bd me)
    (hg : Gl X "sorted") (hm : X.mg "sorted" = none) (hv : bootBuiltins "sorted" = some (.builtin "sorted"))
    (hs : starEach [e] X.env = (false, eval e X.env) :: starEach [] X.env := by rfl) (he : backTo pos (starEach [e] X.env) = (false, eval e X.env) :: backTo pos (starEach [] X.env) := by rfl) (hpl : (backTo pos (starEach [e] X.env)).any (·.1) = false := by rfl) :
    PE X (.Call (.Name "sorted" p) [e] [⟨some "key", .Lambda pa bd sc lp, kp⟩] pos) (tOfN (dSortK m js me)) := by
  refine ⟨fun pins s σ H Q I ⟨S, M, H0, σd, Qd, E, hq, hk⟩ => ?_⟩
  refine wpAny_Call_Name_kw (ld_blt I hg hm hv ?_ (by decide) (by decide))
  have hcells : ∀ y ∈ sc.names, y.2 = .free → ∃ c, X.env.cells.lookup y.1 = some c := fun y hy h => (L.hf y hy h).elim (fun z => I.ok.has _ (.inl z)) fun z => I.ok.has _ (.inr z)
  -- the list
  let B : D → Prop := fun d => match d with
    | .list es => sKey js me σd es Qd
    | .tuple es => sKey js me σd es Qd
    | _ => False
  let R0 : VK := fun v H1 => ∃ d, Ev S M H0 H1 σ σd ∧ KeepS S H H1 ∧ Dq S (MO M σd) H1 v d ∧ B d
  have hA := (pa_cons ha.pe pa_nil hs).run pos pins s σ H (fun vs H1 => ∃ v, vs = [v] ∧ R0 v H1) I ⟨S, M, H0, σd, B, E, hq, fun d v H1 q1 E1 k1 r1 => ⟨v, rfl, d, E1, k1, r1, q1⟩⟩
  refine PyProof.Rows.callWith_kw (thn hA fun us s1 h1 => ?_) he hpl rfl rfl
  obtain ⟨vs, H1, I1, rvs, v1, ev, d, E1, k1, rd, q1⟩ := h1
  subst ev
  obtain ⟨u1, eu, r1⟩ := vals1 rvs
  subst eu
  -- the lambda
  refine PyProof.Rows.kwAll_cons (lamT_make I1 L.B L.ec L.eq L.mT L.uT E1.src.tab L.ed hcells fun f c' H2 s2 I2 kT T2 la gf nf hc => ?_)
  refine PyProof.Rows.kwAll_nil ?_
  obtain ⟨l, xs, es, el0, na, el, rl, q1⟩ : ∃ l xs es, v1 = .ref l ∧ ¬ MO M σd l ∧ (H1 l = some (.lst xs) ∨ H1 l = some (.tup xs)) ∧ Dqs S (MO M σd) H1 xs es ∧ sKey js me σd es Qd := by
    cases rd <;> first | exact q1.elim | skip
    · rename_i l xs es na el rl
      exact ⟨l, xs, es, rfl, na, .inl el, rl, q1⟩
    · rename_i l xs es na el rl
      exact ⟨l, xs, es, rfl, na, .inr el, rl, q1⟩
  subst el0
  obtain ⟨hlen, key, hkey, al, so, hd, hfin⟩ := q1
  obtain rfl : u1 = Value.ref l := r1
  have src2 : SrcOk S M H2 := ⟨fun p c h => by
    obtain ⟨g1, g2, g3, ns, w1, w2, w3, g4, g5⟩ := E1.src.go p c h
    exact ⟨g1, g2, g3, ns, w1, w2, w3, (kT _ _ g4).resolve_right (fun ⟨_, _, z, _⟩ => nomatch z), (kT _ _ g5).resolve_right (fun ⟨_, _, z, _⟩ => nomatch z)⟩, T2⟩
  have E2 := E1.ext kT.ks src2
  have nS : ∀ p c, S = some (p, c) → l ≠ p ∧ l ≠ c := fun p c h => by
    obtain ⟨g1, g2, _⟩ := E1.src.go p c h
    exact ⟨fun z => na (.inl (z ▸ g1)), fun z => na (.inl (z ▸ g2))⟩
  have rl2 : Dqs S (MO M σd) H2 xs es := E1.dqs kT.ks rl
  obtain ⟨its, rv, hl, hz⟩ : ∃ its : List Value, Vals xs its ∧ SeqAt s2.heap l its ∧ xs.length ≤ sizeLine := by
    rcases el with el | el
    · obtain ⟨its, rv, hl, hz⟩ := I2.list (.inl (.inl (kT.ks.k l _ el nS)))
      obtain ⟨o, ho, hc, n, hd⟩ := hl.isList
      exact ⟨its, rv, ⟨o, n, ho, .inl hc, hd⟩, hz⟩
    · obtain ⟨its, rv, hl, hz⟩ := I2.tuple (.inl (.inl (kT.ks.k l _ el nS)))
      obtain ⟨o, ho, hc, n, hd⟩ := hl
      exact ⟨its, rv, ⟨o, n, ho, .inr hc, hd⟩, hz⟩
  show wpAny _ _ (call (.builtin "sorted") [.ref l] [(Str.ofString "key", .ref f)]) _ _ _
  have hZ : its.length ≤ sizeLine := by rw [← rv.length]; exact hz
  refine sorted_of_seq hl hZ (ksk_s1 _ _) (fun x => ksk_l1 _ _) fun E' => ?_
  rw [ksk_t1]
  unfold ksk_tree
  have oC := copyHeap_at s2.heap its
  obtain ⟨e1, oL⟩ : ∃ e1, ((copyHeap s2.heap its).update (s2.heap.objs.size + 1) (Obj.mapSeq fun _ => (#[] : Array Value))).get? (s2.heap.objs.size + 1) = some (seqObj "list" #[] e1) := ⟨_, get?_update_seq oC fun _ => #[]⟩
  refine wpAny_bind (listItems_at oC rfl ?_)
  refine wpAny_bind (listUpdate_at oC rfl ?_ (by rw [List.size_toArray]; exact hZ) (Nat.zero_le _))
  refine wpAny_bind (seqEpoch_at oL rfl ?_)
  refine wpAny_bind (wpAny_newTuple ?_ (by show its.length ≤ _; exact hZ))
  refine wpAny_bind (wpAny_newList ?_ (Nat.zero_le _))
  refine wpAny_holding ?_
  generalize hkS : (((copyHeap s2.heap its).update (s2.heap.objs.size + 1) (Obj.mapSeq fun _ => (#[] : Array Value))).push (seqObj "tuple" its.toArray 0)).objs.size = kS
  have geK : s2.heap.objs.size + 1 < kS := by
    rw [← hkS, size_push', Heap.size_update]
    exact Nat.lt_succ_of_lt (Heap.lt_size oC)
  have oK : ((((copyHeap s2.heap its).update (s2.heap.objs.size + 1) (Obj.mapSeq fun _ => (#[] : Array Value))).push (seqObj "tuple" its.toArray 0)).push (seqObj "list" #[] 0)).get? kS = some (seqObj "list" ([] : List Value).toArray 0) := by
    rw [← hkS]
    exact Heap.get?_push_size _ rfl
  obtain ⟨pm, ctv, oF⟩ := la
  have ltF : f < s2.heap.objs.size := Heap.lt_size oF
  have npB : ∀ p ∈ X.pn ++ pins, p.1 ≠ kS ∧ p.1 ≠ s2.heap.objs.size + 1 := fun p hp => by
    have h : p.1 < s2.heap.objs.size := Heap.lt_size (I2.pin p hp).1
    exact ⟨Nat.ne_of_lt (Nat.lt_trans (Nat.lt_succ_of_lt h) geK), Nat.ne_of_lt (Nat.lt_succ_of_lt h)⟩
  have sz2 := I2.sz
  have I4 : Inv X (pins ++ sPins f (PySem.W.kla_obj "<lambda>" q pa bd sc (cloFrom X.env.cells sc.names []) pm c' ctv) (s2.heap.objs.size + 1) kS e1 0 []) σ H2 { s2 with heap := (((copyHeap s2.heap its).update (s2.heap.objs.size + 1) (Obj.mapSeq fun _ => (#[] : Array Value))).push (seqObj "tuple" its.toArray 0)).push (seqObj "list" #[] 0), toks := s2.toks } := by
    have J : Inv X pins σ H2 { s2 with heap := (((copyHeap s2.heap its).update (s2.heap.objs.size + 1) (Obj.mapSeq fun _ => (#[] : Array Value))).push (seqObj "tuple" its.toArray 0)).push (seqObj "list" #[] 0), toks := s2.toks } := I2.kept fun b o h => sorting_copy_old h
    refine J.pins_of fun p hp => ?_
    rcases List.mem_append.mp hp with hp | hp
    · exact J.pin p (List.mem_append_right _ hp)
    · simp only [sPins, List.mem_cons, List.not_mem_nil, or_false] at hp
      have lt2 := I2.lt
      have lt1 := I1.lt
      rcases hp with rfl | rfl | rfl
      · exact ⟨sorting_copy_old oF, nf, fun z => Nat.lt_irrefl _ (Nat.lt_of_lt_of_le lt1 (by rw [← (show f = X.env.locals from z)]; exact gf)), I1.nofs gf, fun v z => by cases z⟩
      · exact ⟨Heap.get?_push_of_some _ (Heap.get?_push_of_some _ oL), I2.hok.fresh (Nat.le_succ _), Nat.ne_of_gt (Nat.lt_succ_of_lt lt2), I2.nofs (Nat.le_succ _), fun v z => by cases z⟩
      · exact ⟨oK, I2.hok.fresh (Nat.le_of_lt (Nat.lt_trans (Nat.lt_succ_self _) geK)), Nat.ne_of_gt (Nat.lt_trans lt2 (Nat.lt_trans (Nat.lt_succ_self _) geK)), I2.nofs (Nat.le_of_lt (Nat.lt_trans (Nat.lt_succ_self _) geK)), fun v z => by cases z⟩
  have les : es.length = its.length := by rw [← rl2.length, rv.length]
  refine keys_loop (xs := xs) (W := fun i acc Hx => Ev S M H0 Hx σ σd ∧ KeepS S H2 Hx ∧ Dqs S (MO M σd) Hx acc ((es.take i).map key) ∧ Hx c' = some (CodeO c' q)) ⟨0, I4⟩ rv (Nat.ne_of_lt (Nat.lt_trans (Nat.lt_succ_of_lt ltF) geK)) (Nat.ne_of_lt geK) (fun p hp => (npB p hp).1) (by omega) hZ ⟨E2, .refl, by simpa using Dqs.nil, hc⟩ ?turn ?fin
  case turn =>
    rintro i x u acc Hx pn2 sx hx ru la ⟨Ex, kx, rk, hcx⟩ Ix of
    obtain ⟨d, hd1, qd0⟩ := rl2.getV hx
    have qd := E2.dq kx qd0
    have md : d ∈ es := List.mem_of_getElem? hd1
    refine lamT_call (k := k) Ix Ix.env0.in1.in1 hr.in1.in1 L.S (eb _) (cells_of Ix (Caps.made Ix.ok L.hf L.hr L.at_)) ⟨pm, ctv, of⟩ hcx ru (fun outer s H hr' => (hb _ _ _ f outer s H hr').pe)
      ⟨S, MO M σd, fun a => Hx a, _, fun z => z = key d, Ex.cap L.nN qd, hkey d md, fun z v' H' hz' E' k' r' => ?_⟩
    subst hz'
    have src' := Ex.src.at E'.src
    refine ⟨Ex.ext k' src', kx.trans k', ?_, k'.k c' _ hcx (Ex.src.ne hcx codeO_l codeO_d) codeO_ne⟩
    have el : (es.take (i + 1)).map key = (es.take i).map key ++ [key d] := by rw [List.take_add_one, hd1]; simp
    rw [el]
    exact (Ex.dqs k' rk).append (.cons (r'.go fun a o n h => ⟨fun z => n (MO_cap.mpr z), h⟩) .nil)
  case fin =>
    rintro acc us Hx e sx Ix ra la ⟨Ex, kx, rk, hcx⟩
    have et : (es.take its.length).map key = es.map key := by rw [← les, List.take_length]
    rw [et] at rk
    have lk := (each_mem (vals_each ra (dqs_each rk))).mono (R' := fun v d => ∃ as, Reads sx.heap v d as) fun u d ⟨⟨x, r, qx⟩, hm⟩ => by
      obtain ⟨y, hy, rfl⟩ := List.mem_map.mp hm
      obtain ⟨as, h, _⟩ := qx.reads Ix (hd y hy).1 r
      exact ⟨as, h⟩
    refine keys_end (R := fun u d => ∃ x, RelV x u ∧ Dq S (MO M σd) Hx x d) Ix (Nat.ne_of_lt geK) npB (by omega) (by omega) hZ rv (by rw [← ra.length, la]) (vals_each rv (dqs_each (E2.dqs kx rl2))) lk al so (fun d hm => ?_) fun out ys s' eo ry nL' J => ?_
    · obtain ⟨y, hy, rfl⟩ := List.mem_map.mp hm
      have := (hd y hy).2
      have := hr.in1.in1.units
      omega
    · have sm : Same Hx (upd Hx (s2.heap.objs.size + 1) (.lst ys)) := Same.upd nL'
      have kk := (k1.trans kT.ks).trans kx
      exact ⟨rfl, .ref _, _, J, rfl, hk _ _ ys _ hfin (Ex.same sm) (kk.trans (.of sm)) (fresh_back E kk nL' Ex.src) upd_same ((each_dqs eo ry).go fun a o n h => ⟨(mo_sub nL' a o n h).1, sm a o h⟩)⟩
end PH

/-! Defs that make a lambda: their code objects told; sorted by a lambda as a rule. -/
namespace PH
open PySem PySem.Spec L2 LamX NdefX
open PyProof.Rows (envOfC AllBare IntsAre)

/-- a def of the text, its code object told -/
def DfnC (K : PySem.W.Frag) (mg : Str → Option Value) (x : Str) (st : Stmt) (c : Addr) : Prop := ∃ (f : Addr) (fd : FuncData), mg x = some (.ref f) ∧ Fun K x x st f fd ∧ fd.code = .ref c
/-- read in the head's part: x's code object is c, its table P, which is not in the part -/
def lamB (K : PySem.W.Frag) (x : Str) (c P : Addr) : Bool := (match PySem.W.nsIn K mainGlobals x with
  | some (some (.ref f)) => (match K.lookup f with
    | some ⟨_, _, .func fd, _⟩ => (match fd.code with | .ref d => d == c | _ => false)
    | _ => false)
  | _ => false) && PySem.W.codeHdIn K c P && (K.lookup P).isNone
section
variable {P : Program} {w : World} {K : PySem.W.Frag} {mg : Str → Option Value} {base h : Heap} {x : Str} {st : Stmt} {c T : Addr}
theorem lamB_code (X : K.In h) (G : h.Ns mainGlobals mg) (D : Dfn K mg x st) (e : lamB K x c T = true) : DfnC K mg x st c := by
  obtain ⟨f, fd, hm, F⟩ := D
  refine ⟨f, fd, hm, F, ?_⟩
  obtain ⟨oc, od, kV, doc, pm, an, cdv, ct, osl, rfl, lk, hcd⟩ := F.ex
  unfold lamB at e
  simp only [Bool.and_eq_true] at e
  obtain ⟨⟨e1, _⟩, _⟩ := e
  split at e1
  · rename_i f' hf
    have := PySem.W.mg_of X G hf
    rw [hm] at this
    cases this
    rw [lk] at e1
    dsimp only at e1
    split at e1
    · rw [beq_iff_eq] at e1
      subst e1
      rfl
    · cases e1
  · cases e1
theorem lamB_hd (e : lamB K x c T = true) : PySem.W.codeHdIn K c T = true ∧ K.lookup T = none := by
  unfold lamB at e
  simp only [Bool.and_eq_true, Option.isNone_iff_eq_none] at e
  exact ⟨e.1.2, e.2⟩
theorem defOkC {k : Nat} {N ps : List Str} {spd : DSp} {m : DS} (hd : DfnC K mg x st c) (S : FnScope N ps (defScope st)) (bnd : BindOk x ps st)
    (hb : ∀ (f : Addr) (cdv : Value) (A : Around) (outer : List Env) (s : Shared) (H : Hp), cdv = .ref c → Room k (A.deeper (envOfC x (defScope st) s.heap.objs.size f cdv)) → A.guards = some [] →
      PDSs W0 (cxOf CX0 P w K mg base N x (defScope st) f cdv A outer s H E0).nox (defBody st) m)
    (hm : ∀ ds Qd, ds.length = ps.length → spd ds Qd → m { nx := fun _ => Qd .none, rt := Qd } (dstart N.length ds)) : DefOk P w K mg base (k + 1) x ps spd := by
  obtain ⟨f, fd, hmg, F, ec⟩ := hd
  exact ⟨f, fd, hmg, F.kp, F.binds bnd, fnDC F S (fun cdv A outer s H hc => hb f cdv A outer s H (hc.symm.trans ec)) hm⟩
end
/-- the names that the lambda takes are the def's own cells or taken ones -/
def capB (sX sc : Scope) : Bool := sc.names.all fun y => !decide (y.2 = .free) || decide (sX.names.lookup y.1 = some .cell) || decide (sX.names.lookup y.1 = some .free)
theorem capB_ok {sX sc : Scope} (h : capB sX sc = true) : ∀ y ∈ sc.names, y.2 = .free → sX.names.lookup y.1 = some .cell ∨ sX.names.lookup y.1 = some .free := fun y hy e => by
  have z := List.all_eq_true.mp h y hy
  simp only [Bool.or_eq_true, Bool.not_eq_true', decide_eq_true_eq, decide_eq_false_iff_not] at z
  rcases z with (z | z) | z
  · exact absurd e z
  · exact .inl z
  · exact .inr z
/-- what the law's defs ask of a table: it is c's own, its name is told -/
structure TabM (base : Heap) (mg : Str → Option Value) (c T : Addr) (q : Str) : Prop where
  b : TabB base mg c T
  m : (T, q) ∈ lamTabs
  u : ∀ p ∈ lamTabs, p.1 = T → p.2 = q
section
variable {X : Cx} {N fr : List Str} {x q : Str} {js : List Nat} {pa : Arguments} {bd : Expr} {sc : Scope} {c T : Addr} {k : Nat} {e : Expr} {p kp lp pos : Pos} {m me : DE}
theorem pdn_sortK (M : TabM X.base X.mg c T q) (ec : X.env.code = .ref c) (hr : Room (k + 3) X.A) (hb0 : X.mg "sorted" = none) (ha : PD X e m) (S : NScope N [x] fr sc) (eq : X.env.qual ++ "<lambda>" = q)
    (hb : ∀ (ql : Str) (cl : List (Str × Addr)) (d f : Addr) (outer : List Env) (s : Shared) (H : Hp), Room k (X.A.in1.in1.deeper (envF (lamF ql pa sc cl d) f s.heap.objs.size)) → PD (ncx C8.CX0 X.prog X.w X.K X.mg X.base N (lamF ql pa sc cl d) f X.A.in1.in1 outer s H C8.E0) bd me)
    (nN : N.length = 1 + js.length := by rfl) (at_ : js.map (fun j => X.N[j]?) = fr.map some := by rfl)
    (hf : capB X.env.scope sc = true := by rfl) (hfr : ∀ y ∈ fr, (y, NameKind.free) ∈ sc.names := by decide +kernel)
    (ed : defaultsOf pa X.env = ([], []) := by rfl) (eb : ∀ (cl : List (Str × Addr)) (pm cv ctv u : Value), bindArgs (PySem.W.kla_fn "<lambda>" q pa bd sc cl pm cv ctv) ⟨[u], []⟩ = pure [(x, u)] := by intros; rfl)
    (hg : Gl X "sorted" := by rfl) (hv : bootBuiltins "sorted" = some (.builtin "sorted") := by decide +kernel) (hs : starEach [e] X.env = (false, eval e X.env) :: starEach [] X.env := by rfl)
    (he : backTo pos (starEach [e] X.env) = (false, eval e X.env) :: backTo pos (starEach [] X.env) := by rfl) (hpl : (backTo pos (starEach [e] X.env)).any (·.1) = false := by rfl) :
    PDN X (.Call (.Name "sorted" p) [e] [⟨some "key", .Lambda pa bd sc lp, kp⟩] pos) (dSortK m js me) :=
  ⟨_, pe_sortK ⟨M.b, ec, eq, M.m, M.u, S, nN, ed, capB_ok hf, hfr, at_⟩ hr ha eb hb hg hb0 hv hs he hpl, ln_of⟩
end
end PH

/-! A law's end for programs with tables of code objects. -/
namespace PH
open PySem PySem.Spec L2 LamX
open PyProof.Rows (envOfC AllBare IntsAre)

/-- nothing is known but the script and the empty tables -/
def OnlyT (cs : List (Addr × Addr)) (H : Hp) : Prop := ∀ b, H b = none ∨ (b ∈ cs.map (·.2) ∧ H b = some (.tbl #[])) ∨ ∃ o xs, H b = some (.frz o (.lst xs))
section
variable {P : Program} {w : World} {K : PySem.W.Frag} {mg mb : Str → Option Value} {k : Nat} {fa a : Addr} {fd : FuncData} {x : Str} {sp : Sp} {s1 : Shared} {vs : List Value} {ns : List Int} {cs : List (Addr × Addr)}
/-- the run from an abstract heap that has the tables and at most the script -/
theorem goneT (KX : K.In s1.heap) (hns : s1.heap.Ns mainGlobals mg) (hb : s1.heap.Ns builtinsNs mb) (hbb : ∀ y : Str, y ≠ "__name__" → mb y = bootBuiltins y) (hlim : s1.heap.NoLimit) (hg : s1.gens = #[])
    (hT : ∀ p ∈ cs, s1.heap.get? p.2 = some { cls := .none, data := .fields #[] }) (nT : ∀ p ∈ cs, K.lookup p.2 = none) (hC : ∀ p ∈ cs, PySem.W.CodeHd s1.heap p.1 p.2)
    (hbm : ∃ (bm : Addr) (ob : Obj), mg "__builtins__" = some (.ref bm) ∧ bm ≠ builtinsNs ∧ s1.heap.get? bm = some ob ∧ ob.cls = .type "module" ∧ ob.dict = some builtinsNs ∧ ob.data = .plain)
    (ha : s1.heap.get? a = some { cls := .type "list", data := .seq vs.toArray }) (hr : Room k callerA) (F : ∀ base : Heap, K.In base → base.Ns mainGlobals mg → (∀ p ∈ cs, TabB base mg p.1 p.2) → FnG P w K mg base k fa fd [x] sp)
    (hbind : ∀ (s : Shared) (u : Value), BindsTo s fd ⟨[u], []⟩ [(x, u)]) (H : Hp) (hO : OnlyT cs H) (hsp : sp [.ref a] H (fun v _ => v = .bl true) E0) (hok : HOk P w H s1.heap) (hA : ∀ b, H b ≠ none → b = a ∨ b ∈ cs.map (·.2)) (hK : H a ≠ none → K.lookup a = none) :
    codeAny (model P w) callerA (.call (.ref fa) ⟨[.ref a], []⟩) (fun r s' => r = .ok (.ret (.bool true)) ∧ OldK s1.heap s'.heap ∧ s'.os = s1.os ∧ AllBare s'.gens) s1 := by
  have inT : ∀ {b : Addr}, b ∈ cs.map (·.2) → s1.heap.get? b = some { cls := .none, data := .fields #[] } := fun {b} hb => by
    obtain ⟨p, hp, rfl⟩ := List.mem_map.mp hb
    exact hT p hp
  have hidden : ∀ {b : Addr} {o : Obj}, s1.heap.get? b = some o → (∀ us n, o.data ≠ .seq us n) → o.data ≠ .fields #[] → H b = none := by
    intro b o e n1 n2
    cases q : H b with
    | none => rfl
    | some u =>
      rcases hA b (by rw [q]; exact fun z => nomatch z) with z | z
      · subst z
        rw [ha] at e
        cases e
        exact absurd rfl (n1 _ _)
      · rw [inT z] at e
        cases e
        exact absurd rfl n2
  have nsB : ∀ {b : Addr} {m : Str → Option Value}, s1.heap.Ns b m → (hidT s1.heap H).Ns b m := by
    rintro b m ⟨o, es, ep, e, d, r⟩
    exact ⟨o, es, ep, hidT_get e (hidden e (fun us n z => by rw [d] at z; cases z) fun z => by rw [d] at z; cases z), d, r⟩
  have inB : K.In (hidT s1.heap H) := by
    intro b o e
    refine hidT_get (KX b o e) ?_
    cases q : H b with
    | none => rfl
    | some u =>
      rcases hA b (by rw [q]; exact fun z => nomatch z) with z | z
      · subst z
        rw [hK (by rw [q]; exact fun y => nomatch y)] at e
        cases e
      · obtain ⟨p, hp, rfl⟩ := List.mem_map.mp z
        rw [nT p hp] at e
        cases e
  have md : Mod K mg (hidT s1.heap H) := ⟨inB, nsB hns, ⟨mb, nsB hb, hbb⟩, let ⟨mc, h1, h2⟩ := hlim; ⟨mc, nsB h1, h2⟩⟩
  have tb : ∀ p ∈ cs, TabB (hidT s1.heap H) mg p.1 p.2 := fun p hp => by
    have tp := hT p hp
    refine ⟨?_, ?_, fun z => ?_⟩
    · obtain ⟨o, us, fl, tf, flags, tg, inF, text, tt, e1, r1, r2, r3, rest⟩ := hC p hp
      exact ⟨o, us, fl, tf, flags, tg, inF, text, tt, hidT_get e1 (hidden e1 (fun us n z => by rw [r2] at z; cases z) fun z => by rw [r2] at z; cases z; simp at r3), r1, r2, r3, rest⟩
    · obtain ⟨bm, ob, b1, b2, b3, b4, b5, b6⟩ := hbm
      refine ⟨bm, ob, b1, b2, fun q => ?_, fun q => ?_, hidT_get b3 (hidden b3 (fun us n z => by rw [b6] at z; cases z) fun z => by rw [b6] at z; cases z), b4, b5, b6⟩
      · obtain ⟨o, es, ep, e, d, _⟩ := hns
        rw [q, e] at b3
        cases b3
        rw [d] at b6
        cases b6
      · rw [q, tp] at b3
        cases b3
        cases b6
    · obtain ⟨o, es, ep, e, d, _⟩ := hns
      rw [z, tp] at e
      cases e
      cases d
  have env : Env0 P w K mg (hidT s1.heap H) callerA [] s1 H :=
    { frames := rfl, mod := md, bs := fun b o e => of_hidT e, bsz := Nat.le_of_eq (hidT_size _ _), funs := trivial,
      frf := fun b hb => absurd (show b ∈ ([] : List Addr) from hb) (by simp), hok := hok, bare := .of_eq hg }
  have run := (F _ inB (nsB hns) tb).go callerA [] s1 H ⟨[.ref a], []⟩ [.ref a] [.ref a] (fun v _ => v = .bl true) hr rfl env (hbind s1 (.ref a)) (.cons rfl .nil) hsp
  refine codeAny_mono run ?_
  intro r s' h
  rcases r with e | fl
  · exact False.elim h
  cases fl with
  | next => exact False.elim h
  | brk => exact False.elim h
  | cont => exact False.elim h
  | ret u =>
    obtain ⟨v, H', os, bare, un, hok', ru, qv⟩ := h
    cases (show v = .bl true from qv)
    cases (show u = Value.bool true from ru)
    have old : ∀ b o, s1.heap.get? b = some o → (s'.heap.get? b = some o) ∨ (b ∈ cs.map (·.2) ∧ ∃ more : Array Value, s'.heap.get? b = some { cls := .none, data := .fields more }) := by
      intro b o e
      cases q : H b with
      | none => exact .inl (un.keep b o e q (fun z => absurd (show b ∈ ([] : List Addr) from z) (by simp)) (by simp))
      | some u =>
        rcases hO b with z | ⟨hb, z⟩ | ⟨ob, xs, z⟩
        · rw [q] at z; cases z
        · obtain ⟨more, z2⟩ := un.tbls b #[] z
          exact .inr ⟨hb, _, hok' b _ z2⟩
        · obtain ⟨e1, _⟩ := hok b _ z
          obtain ⟨e2, _⟩ := hok' b _ (un.frzs b ob _ z)
          rw [e] at e1
          cases e1
          exact .inl e2
    refine ⟨rfl, ⟨fun b o e => ?_, fun b o e => ?_⟩, os, bare⟩
    · rcases old b o e with z | ⟨hb, more, z⟩
      · exact .inl z
      · obtain ⟨p, hp, rfl⟩ := List.mem_map.mp hb
        rw [hT p hp] at e
        cases e
        exact .inr (.inl ⟨((hC p hp).tab (hT p hp)).isCodeTable, rfl, #[], more, rfl, by rw [Array.empty_append]; exact z⟩)
    · rcases old b o e with z | ⟨_, more, z⟩
      · exact ⟨_, z⟩
      · exact ⟨_, z⟩
theorem lawGoT (KX : K.In s1.heap) (hns : s1.heap.Ns mainGlobals mg) (hb : s1.heap.Ns builtinsNs mb) (hbb : ∀ y : Str, y ≠ "__name__" → mb y = bootBuiltins y) (hlim : s1.heap.NoLimit) (hg : s1.gens = #[])
    (hT : ∀ p ∈ cs, s1.heap.get? p.2 = some { cls := .none, data := .fields #[] }) (nT : ∀ p ∈ cs, K.lookup p.2 = none) (hC : ∀ p ∈ cs, PySem.W.CodeHd s1.heap p.1 p.2)
    (hbm : ∃ (bm : Addr) (ob : Obj), mg "__builtins__" = some (.ref bm) ∧ bm ≠ builtinsNs ∧ s1.heap.get? bm = some ob ∧ ob.cls = .type "module" ∧ ob.dict = some builtinsNs ∧ ob.data = .plain)
    (ha : s1.heap.get? a = some { cls := .type "list", data := .seq vs.toArray }) (hi : IntsAre vs ns) (hl : ns.length ≤ sizeLine) (hr : Room k callerA) (F : ∀ base : Heap, K.In base → base.Ns mainGlobals mg → (∀ p ∈ cs, TabB base mg p.1 p.2) → FnG P w K mg base k fa fd [x] sp)
    (hbind : ∀ (s : Shared) (u : Value), BindsTo s fd ⟨[u], []⟩ [(x, u)]) (hsp : ∀ H : Hp, (∀ p ∈ cs, H p.2 = some (.tbl #[])) → SqL K H a (ns.map V.int) → sp [.ref a] H (fun v _ => v = .bl true) E0) :
    codeAny (model P w) callerA (.call (.ref fa) ⟨[.ref a], []⟩) (fun r s' => r = .ok (.ret (.bool true)) ∧ OldK s1.heap s'.heap ∧ s'.os = s1.os ∧ AllBare s'.gens) s1 := by
  have rv := vals_ints hi
  have lv := hi.length
  have na : a ∉ cs.map (·.2) := fun z => by
    obtain ⟨p, hp, e⟩ := List.mem_map.mp z
    have := hT p hp
    rw [e, ha] at this
    cases this
  have mem : ∀ p ∈ cs, p.2 ∈ cs.map (·.2) := fun p hp => List.mem_map_of_mem hp
  let H0 : Hp := fun b => if b ∈ cs.map (·.2) then some (.tbl #[]) else none
  have t0 : ∀ b, b ∈ cs.map (·.2) → H0 b = some (.tbl #[]) := fun b h => if_pos h
  have n0 : ∀ b, b ∉ cs.map (·.2) → H0 b = none := fun b h => if_neg h
  have ok0 : ∀ b u, H0 b = some u → b ∈ cs.map (·.2) ∧ u = .tbl #[] := fun b u h => by
    by_cases hb : b ∈ cs.map (·.2)
    · exact ⟨hb, Option.some.inj (h.symm.trans (t0 b hb))⟩
    · rw [n0 b hb] at h; cases h
  have tabAt : ∀ b, b ∈ cs.map (·.2) → s1.heap.get? b = some { cls := .none, data := .fields #[] } := fun b hb => by
    obtain ⟨p, hp, rfl⟩ := List.mem_map.mp hb
    exact hT p hp
  cases hk : K.lookup a with
  | some o =>
    have e := KX a o hk
    rw [ha] at e
    cases e
    have sq : SqL K H0 a (ns.map V.int) := .inr ⟨_, vs.toArray, _, hk, rfl, rfl, rfl, by rw [List.size_toArray, lv]; exact hl, by simpa using rv⟩
    refine goneT KX hns hb hbb hlim hg hT nT hC hbm ha hr F hbind H0 (fun b => ?_) (hsp H0 (fun p hp => t0 _ (mem p hp)) sq) (fun b u z => ?_) (fun b z => ?_) fun z => absurd (n0 a na) z
    · by_cases h : b ∈ cs.map (·.2)
      · exact .inr (.inl ⟨h, t0 b h⟩)
      · exact .inl (n0 b h)
    · obtain ⟨h1, rfl⟩ := ok0 b u z
      exact tabAt b h1
    · by_cases h : b ∈ cs.map (·.2)
      · exact .inr h
      · exact absurd (n0 b h) z
  | none =>
    let Hs : Hp := fun b => if b = a then some (.frz { cls := .type "list", data := .seq vs.toArray } (.lst (ns.map V.int))) else H0 b
    have h1 : Hs a = some (.frz { cls := .type "list", data := .seq vs.toArray } (.lst (ns.map V.int))) := if_pos rfl
    have h2 : ∀ b, b ≠ a → Hs b = H0 b := fun b n => if_neg n
    have ht : ∀ p ∈ cs, Hs p.2 = some (.tbl #[]) := fun p hp => by
      rw [h2 _ fun z => na (z ▸ mem p hp)]
      exact t0 _ (mem p hp)
    refine goneT KX hns hb hbb hlim hg hT nT hC hbm ha hr F hbind Hs (fun b => ?_) (hsp Hs ht (.inl (.inr ⟨_, h1⟩))) (fun b u z => ?_) (fun b z => ?_) fun _ => hk
    · by_cases n : b = a
      · subst n; exact .inr (.inr ⟨_, _, h1⟩)
      · by_cases h : b ∈ cs.map (·.2)
        · exact .inr (.inl ⟨h, by rw [h2 b n]; exact t0 b h⟩)
        · exact .inl (by rw [h2 b n]; exact n0 b h)
    · by_cases n : b = a
      · subst n
        cases h1.symm.trans z
        exact ⟨ha, by rw [List.length_map]; exact hl, vs, _, rv, ha⟩
      · rw [h2 b n] at z
        obtain ⟨g1, rfl⟩ := ok0 b u z
        exact tabAt b g1
    · by_cases n : b = a
      · exact .inl n
      · rw [h2 b n] at z
        by_cases h : b ∈ cs.map (·.2)
        · exact .inr h
        · exact absurd (n0 b h) z
end
/-- the end of a law's row with tables -/
theorem walkGT {l : PySem.W.OpenLaw} {n k : Nat} {q : Program} {loose : List Str} {XP : (Str → Option Value) → Heap → Prop} {YP : World → Heap → Prop} {d : DefRec} {K : Params → PySem.W.Frag} {sp : PySem.W.Frag → Sp} {x : Str} {cs : List (Addr × Addr)}
    (hn : l.most = some n) (hn2 : n ≤ sizeLine) (hdf : d.params.defaults = []) (hr : Room k callerA) (hY : ∀ (w : World) (h : Heap), YP w h → (K w.params).In h ∧ ∀ p ∈ cs, h.get? p.2 = some { cls := .none, data := .fields #[] })
    (hKc : ∀ (p : Params), ∀ q ∈ cs, PySem.W.codeHdIn (K p) q.1 q.2 = true ∧ (K p).lookup q.2 = none)
    (F : ∀ (w : World) (mg : Str → Option Value) (fa : Addr) (h : Heap), (K w.params).In h → h.Ns mainGlobals mg → mg d.name = some (.ref fa) →
      ∃ fd : FuncData, (∀ (s : Shared) (u : Value), BindsTo s fd ⟨[u], []⟩ [(x, u)]) ∧ ∀ base : Heap, (K w.params).In base → base.Ns mainGlobals mg → (∀ p ∈ cs, TabB base mg p.1 p.2) → FnG l.prog w (K w.params) mg base k fa fd [x] (sp (K w.params)))
    (hsp : ∀ (K : PySem.W.Frag) (H : Hp) (a : Addr) (ns : List Int), ns.length ≤ n → (∀ z ∈ ns, Builtin.Int.intBits z ≤ 1048576) → (∀ p ∈ cs, H p.2 = some (.tbl #[])) → SqL K H a (ns.map V.int) → sp K [.ref a] H (fun v _ => v = .bl true) E0) :
    PySem.W.WalkO q loose XP YP l.row.toRowW d [] (fun f vs => PySem.call f vs) := by
  refine Att.attach_callB hn hdf ?_
  intro w s₀ s₁ mg mb fa o pm cd doc a vs ns G Y ho hd hcd hmg hobj hints hlen hbits hg
  obtain ⟨KX, hT⟩ := hY w _ Y
  obtain ⟨fd, hb, hF⟩ := F w mg fa _ KX G.T.g hmg
  exact lawGoT KX G.T.g G.T.b G.T.builtins G.T.nolimit hg hT (fun p hp => (hKc w.params p hp).2) (fun p hp => PySem.W.codeHd_of_K KX (hKc w.params p hp).1) G.T.bmain hobj hints (Nat.le_trans hlen hn2) hr hF hb
    (fun H hO hS => hsp (K w.params) H a ns hlen hbits hO hS)
/-- the law's def, for the bases that G tells -/
theorem lawOkG {P : Program} {w : World} {K : PySem.W.Frag} {mg : Str → Option Value} {k : Nat} {x p : Str} {st : Stmt} {N : List Str} {sp : Sp} {G : Heap → Prop} (hd : Dfn K mg x st) (S : FnScope N [p] (defScope st)) (bnd : BindOk x [p] st) (len : ∀ vs H Q E, sp vs H Q E → vs.length = 1)
    (hb : ∀ (base : Heap) (f : Addr) (cdv : Value) (A : Around) (outer : List Env) (s : Shared) (H : Hp) (vs : List V) (Q : VK), G base → Room k (A.deeper (envOfC x (defScope st) s.heap.objs.size f cdv)) → A.guards = some [] → sp vs H Q E0 →
      ∃ t, PSs (cxOf CX0 P w K mg base N x (defScope st) f cdv A outer s H E0).nox (defBody st) t ∧ t { nx := fun _ H' => Q .non H', rt := Q } (L2.start N vs) H) :
    ∃ (f : Addr) (fd : FuncData), mg x = some (.ref f) ∧ (∀ (s : Shared) (u : Value), BindsTo s fd ⟨[u], []⟩ [(p, u)]) ∧ ∀ base : Heap, G base → FnG P w K mg base (k + 1) f fd [p] sp := by
  obtain ⟨f, fd, hm, F⟩ := hd
  have F' := F
  obtain ⟨oc, od, kV, doc, pm, an, cdv, ct, osl, rfl, lk, hcd⟩ := F'.ex
  exact ⟨f, _, hm, fun s u => BindsTo.of_eq (bnd kV doc pm an cdv ct [u] rfl), fun base g => fnG_body F S len fun cdv A outer s H vs Q => hb base f cdv A outer s H vs Q g⟩
end PH

/-! max(xs, default=d) of a list of ints. -/
namespace PH
open PySem PySem.Spec L2
open PyProof.Rows (envOfC AllBare IntsAre)

/-- the greatest, or d -/
def maxI (d : Int) : List Int → Int
  | [] => d
  | x :: xs => xs.foldl max x
theorem reads_ints {h : Heap} : ∀ {ns : List Int} {us : List Value}, IntsAre us ns → ReadsAll h us (ns.map PyData.int) []
  | _, _, .nil => .nil
  | _, _, .cons n t r => by
    have := ReadsAll.cons (h := h) (as := []) (bs := []) (Reads.int n t) (reads_ints r)
    simpa using this
def rMaxD (K : PySem.W.Frag) : List V → List V → Hp → VK → Prop := fun vs zs H Q => ∃ (a : Addr) (ns : List Int) (d : Int), vs = [.ref a] ∧ zs = [.int d] ∧ SqL K H a (ns.map V.int) ∧ Q (.int (maxI d ns)) H
theorem cr_maxD {X : Cx} (hc : X.calm = true) (hu : X.A.units + 64 < cLine) : CallRK X (.builtin "max") [Str.ofString "default"] (rMaxD X.K) := by
  intro pins s σ H vs zs us ws Q I r rz h
  obtain ⟨a, ns, d, rfl, rfl, hs, q⟩ := h
  obtain ⟨its, rv, hl, hz⟩ := I.list hs
  obtain ⟨u, rfl, ru⟩ := vals1 r
  obtain ⟨w, rfl, rw⟩ := vals1 rz
  obtain rfl : u = Value.ref a := ru
  obtain ⟨t, rfl⟩ := rw
  have hi := rv.ints
  have dp : ∀ xs : List Int, PyData.depthAll (xs.map PyData.int) = 0 := PySem.W.depth_ints
  refine PySem.W.max_list_default (xs := ns.map PyData.int) (as := []) (I.ok.hd hc) hl.isList (by simpa using reads_ints hi) ⟨?_, ?_⟩ (by rw [dp]; omega) ?_ ?_
  · rintro x hx y hy
    obtain ⟨i, _, rfl⟩ := List.mem_map.mp hx
    obtain ⟨j, _, rfl⟩ := List.mem_map.mp hy
    simp only [PySem.W.alike]
  · rintro x hx z
    obtain ⟨i, _, rfl⟩ := List.mem_map.mp hx
    cases z
  · intro e h' tk k
    have e0 : ns = [] := List.map_eq_nil_iff.mp e
    subst e0
    exact ⟨.int d, H, I.kept k, ⟨t, rfl⟩, q⟩
  · intro y ys i v h' tk bs e _ rd k
    cases ns with
    | nil => cases e
    | cons n ns =>
      rw [List.map_cons] at e
      injection e with e1 e2
      subst e1; subst e2
      rw [PySem.W.maxD_ints] at rd
      cases rd with
      | int i t => exact ⟨.int _, H, I.kept k, ⟨t, rfl⟩, q⟩
theorem dqs_ints {S : Sr} {M : Addr → Prop} {H : Hp} : ∀ {ns : List Int} {xs : List V}, Dqs S M H xs (ns.map PyData.int) → xs = ns.map V.int
  | [], _, h => by cases h; rfl
  | n :: ns, _, h => by
    cases h with
    | cons a b =>
      cases a
      rw [dqs_ints b]; rfl
def dMaxD (m mz : DE) : DE := fun σd Q => m σd fun d => mz σd fun z => ∃ (ns : List Int) (i : Int), d = .list (ns.map .int) ∧ z = .int i ∧ Q (.int (maxI i ns))
theorem le_maxD {K : PySem.W.Frag} {t tz : TE} {m mz : DE} (h : LE t m) (hz : LE tz mz) : LE (tCKw (rMaxD K) (tCons t tNil) (tCons tz tNil)) (dMaxD m mz) := by
  intro S M H0 H σ σd Qd Q E hm k
  refine h S M H0 H σ σd _ _ E hm fun d v H1 q1 E1 k1 r1 => ?_
  refine hz S M H0 H1 σ σd _ _ E1 q1 fun z u H2 q2 E2 k2 r2 => ?_
  obtain ⟨ns, i, rfl, rfl, q⟩ := q2
  have r1' := E1.dq k2 r1
  cases r2
  cases r1' with
  | lst na e rl =>
    rw [dqs_ints rl] at e
    exact ⟨_, ns, i, rfl, rfl, .inl (.inl e), k _ _ H2 q E2 (k1.trans k2) (.int _)⟩
theorem pd_maxD {X : Cx} {e ez : Expr} {p kp pos : Pos} {m mz : DE} (hc : X.calm = true) (hu : X.A.units + 64 < cLine) (hm : X.mg "max" = none) (ha : PD X e m) (hz : PD X ez mz) (hg : Gl X "max" := by rfl)
    (hs : starEach [e] X.env = (false, eval e X.env) :: starEach [] X.env := by rfl) (he : backTo pos (starEach [e] X.env) = (false, eval e X.env) :: backTo pos (starEach [] X.env) := by rfl) (hpl : (backTo pos (starEach [e] X.env)).any (·.1) = false := by rfl) :
    PD X (.Call (.Name "max" p) [e] [⟨some "default", ez, kp⟩] pos) (dMaxD m mz) :=
  ⟨_, pe_callBK (cr_maxD hc hu) hg hm (by decide +kernel) (pa_cons ha.pe pa_nil hs) (pk_cons hz.pe pk_nil) (by decide) (by decide) he hpl rfl rfl rfl, le_maxD le_of le_of⟩
end PH

/-! enumerate, x.pop() of one's own list, tests of a loop that read it. -/
namespace PH
open PySem PySem.Spec L2
open PyProof.Rows (envOfC AllBare IntsAre)

/-! ### enumerate(list) -/
def enumD (xs : List D) : List D := (List.range xs.length).zipWith (fun (i : Nat) x => .tuple [.int (i : Int), x]) xs
theorem enumD_len (xs : List D) : (enumD xs).length = xs.length := by simp [enumD]
theorem enumD_get (xs : List D) {i : Nat} {x : D} (h : xs[i]? = some x) : (enumD xs)[i]? = some (.tuple [.int (i : Int), x]) := by
  have hi : i < xs.length := (List.getElem?_eq_some_iff.mp h).1
  simp only [enumD, List.getElem?_zipWith, List.getElem?_range hi, h]
def dEnum (m : DA) : DA := fun σd Q => m σd fun ds => match ds with | [.list xs] => Q (enumD xs) | _ => False
theorem li_enum {K : PySem.W.Frag} {n : Nat} {t : TA} {m : DA} (h : LA n t m) : LI (iEnum K t) (dEnum m) := by
  intro S M H0 H σ σd Qd R E hm k
  refine h S M H0 H σ σd _ _ E hm fun ds vs H1 q E1 k1 r1 _ => ?_
  split at q
  · rename_i ds
    cases r1 with
    | cons a b =>
      cases b
      cases a with
      | @lst p xs _ na ea ra =>
        refine ⟨p, xs, rfl, .inl (.inl ea), k _ _ H1 q E1 k1 ⟨fun H => SqL K H p xs, _, by rw [enumD_len, ← ra.length]; exact walk_enum, fun H2 st => Or.inl (Or.inl (st.k _ _ na ea)), fun i H2 x H3 hi st y => ?_⟩⟩
        obtain ⟨T, x1, y1, e1, hT, e3, hx, hy⟩ := y
        subst e1; subst e3
        have sm := Same.upd (o := .tup [x1, y1]) hT
        refine ⟨sm, fun M' h1 h2 => ?_⟩
        obtain ⟨d, hd, qd⟩ := ra.getV hy
        have g : ∀ b o, ¬ MO M σd b → H1 b = some o → ¬ M' b ∧ (upd H2 T (.tup [x1, y1]) b = some o ∨ ∃ ps ps', o = .tbl ps ∧ upd H2 T (.tup [x1, y1]) b = some (.tbl ps')) := fun b o n eb => ⟨h2 b o n eb, (st b o n eb).imp (sm b o) fun ⟨ps, ps', q1, q2⟩ => ⟨ps, ps', q1, sm _ _ q2⟩⟩
        obtain rfl : V.int (i : Int) = x1 := Option.some.inj hx
        exact ⟨.tuple [.int i, d], enumD_get _ hd, .tup (fun z => h1 T z hT) upd_same (.cons (.int _) (.cons (qd.goT g) .nil))⟩
  · exact q.elim
section
variable {X : Cx} {Wx : WX} {a : Expr} {n : Nat} {md : DA} {pos : Pos}
theorem pdi_enum {p tpos : Pos} {elts : List Expr} {kk : Nat} (hg : Gl X "enumerate") (hm : X.mg "enumerate" = none) (ha : PDA X [a] n md) (hs : starEach [a] X.env = [(false, eval a X.env)] := by rfl) :
    PDI X (.Tuple elts kk tpos) (.Call (.Name "enumerate" p) [a] [] pos) (dEnum md) := let ⟨_, h1, l1⟩ := ha; ⟨_, pi_enum hg hm h1 hs, li_enum (K := X.K) l1⟩

/-! ### x.pop(), x one's own list -/
def dPop (i : Nat) : DS := fun Dd σd => ∃ a ds z, σd[i]? = some (Sl.own a (ds ++ [z])) ∧ Dd.nx (σd.set i (.own a ds))
theorem ls_pop {K : PySem.W.Frag} {i : Nat} : LS Wx (tDrop (tBM0 K "list" rPop (tVar i))) (dPop i) := by
  intro S M H0 H σ σd Dd Dn E hm r
  obtain ⟨a, ds, z, e, q⟩ := hm
  obtain ⟨o, e2, e3, xs, hx, rx⟩ := E.slot e
  subst e3
  obtain ⟨ys, y, rfl, ry, rz⟩ : ∃ ys y, xs = ys ++ [y] ∧ Dqs S (MO M σd) H ys ds ∧ Dq S (MO M σd) H y z := by
    have hl := rx.length
    rw [List.length_append] at hl
    have nn : xs ≠ [] := fun w => by rw [w] at hl; simp at hl
    refine ⟨xs.dropLast, xs.getLast nn, (List.dropLast_concat_getLast nn).symm, ?_, ?_⟩
    · have := rx.take ds.length
      rw [List.take_left] at this
      rw [List.dropLast_eq_take, hl]
      exact this
    · have := rx.drop ds.length
      rw [List.drop_left] at this
      have e4 : xs.drop ds.length = [xs.getLast nn] := by
        conv => lhs; rw [← List.dropLast_concat_getLast nn]
        rw [List.drop_append_of_le_length (by rw [List.length_dropLast, hl]; simp)]
        rw [List.drop_of_length_le (by rw [List.length_dropLast, hl]; simp)]
        rfl
      rw [e4] at this
      cases this with
      | cons a b => exact a
  refine ⟨.ref a, e2, Or.inl ⟨rfl, _, Or.inl (Or.inl hx)⟩, a, ys ++ [y], y, rfl, rfl, hx, by simp, ?_⟩
  rw [List.dropLast_concat]
  exact r.1 _ _ _ q (E.upd e ry)
theorem psd_pop {x : Str} {px apos cpos : Pos} (i : Nat) (hN : X.N[i]? = some x) (hv : Vis X.env.scope x) (hs : swapsWith (.Call (.Attribute (.Name x px) "pop" apos) [] [] cpos) none pos.line X.env = pure false := by rfl)
    (hd : (x == ("__debug__" : Str)) = false := by decide) (hcd : (x == ("__classdict__" : Str)) = false := by decide)
    (hbase : attributeBase (.Name x px) "pop" X.env (eval (.Name x px) X.env) = eval (.Name x px) X.env := by rfl) (hline : (apos.endLine == cpos.line) = true := by rfl) :
    PDS Wx X (.Expr (.Call (.Attribute (.Name x px) "pop" apos) [] [] cpos) pos) (dPop i) :=
  ⟨_, ps_expr (pe_bm0 PySem.F.plainAttrs_list PySem.F.slot_list_pop PySem.F.type_list_pop mt_pop (pe_var hN hv hd hcd) hbase hline) hs, ls_pop⟩

/-! ### a test that reads one's own list -/
def dLendT (i : Nat) (c : DT) : DT := fun σd Q => ∃ a ds, σd[i]? = some (Sl.own a ds) ∧ c (σd.set i (.val (.list ds))) Q
theorem lt_lend {i : Nat} {c : TT} {dc : DT} (hc : LT c dc) : LT c (dLendT i dc) := by
  intro S M H0 H σ σd Qd Q E hm k
  obtain ⟨a, ds, hs, h⟩ := hm
  exact hc S M H0 H σ _ _ _ (E.frz hs) h fun b H1 q E1 k1 => k b H1 q (E.ext k1 E1.src) k1
theorem pdt_lend {c : Expr} {dc : DT} (i : Nat) (hc : PDT X c dc) : PDT X c (dLendT i dc) := let ⟨_, h, l⟩ := hc; ⟨_, h, lt_lend l⟩
end
/-! ### what is a list or a tuple -/
def dItS (m : DE) : DA := fun σd Q => dItL m σd Q ∨ dItT m σd Q
section
variable {X : Cx} {Wx : WX} {tg iter : Expr}
theorem PI.or {w1 w2 : TI} (a : PI X tg iter w1) (b : PI X tg iter w2) : PI X tg iter (fun σ H R => w1 σ H R ∨ w2 σ H R) := by
  refine ⟨fun pins s σ H R I h => ?_⟩
  rcases h with h | h
  · exact a.run pins s σ H R I h
  · exact b.run pins s σ H R I h
theorem pdi_seq {m : DE} (h : PD X iter m) : PDI X tg iter (dItS m) := by
  obtain ⟨w1, p1, l1⟩ := pdi_list (tg := tg) h
  obtain ⟨w2, p2, l2⟩ := pdi_tup (tg := tg) h
  refine ⟨_, PI.or p1 p2, fun S M H0 H σ σd Qd R E hm k => ?_⟩
  rcases hm with hm | hm
  · exact .inl (l1 S M H0 H σ σd Qd R E hm k)
  · exact .inr (l2 S M H0 H σ σd Qd R E hm k)
/-- a list or a tuple of ds -/
def seqD (b : Bool) (ds : List D) : D := cond b (.list ds) (.tuple ds)
/-! ### a call of a def that may raise, its value dropped -/
def dDropX (mg : Str → Option Value) (spd : DSpX) (m : DA) : DS := fun Dd σd => m σd fun ds => spd ds (fun _ => Dd.nx σd) fun n => ∀ c, mg n = some c → Dd.rx c σd
theorem ls_dropX {mg : Str → Option Value} {n : Nat} {spd : DSpX} {t : TA} {m : DA} (h : LA n t m) : LS Wx (tDrop (tCallS (SpX mg n spd) (WE Wx) t)) (dDropX mg spd m) := by
  intro S M H0 H σ σd Dd Dn E hm r
  refine h S M H0 H σ σd _ _ E hm fun ds vs H1 q E1 k1 r1 hl => ?_
  have so : SrcOk S (MO M σd) H1 := E1.src.more fun _ z => .inl z
  refine ⟨S, MO M σd, ds, _, _, E1.mtO, so, r1, hl, q, fun d v H2 q k2 s2 r2 => ?_, fun x c H2 q hc k2 s2 => ?_⟩
  · exact r.1 σd σ H2 q (E1.ext k2 (E1.src.at s2))
  · exact r.2.2.2.2 c σd σ H2 (q c hc) (E1.ext k2 (E1.src.at s2))
variable {k j : Nat} {x : Str} {p pos pos' : Pos} {e : Expr} {es : List Expr} {ps : List Str}
theorem psd_dropX {mg : Str → Option Value} {spd : DSpX} {m : DA} (D : DefX X.prog X.w X.K mg X.base j x ps spd) (tk : Takes X Wx) (hr : Room k X.A) (hj : j ≤ k) (hgu : X.A.guards = some []) (ha : PDA X (e :: es) ps.length m) (hs : swapsWith (.Call (.Name x p) (e :: es) [] pos) none pos'.line X.env = pure false := by rfl) (hg : Gl X x := by rfl) (hdb : (x == ("__debug__" : Str)) = false := by decide)
    (he : starEach (e :: es) X.env = (false, eval e X.env) :: starEach es X.env := by rfl) (hpl : (backTo pos (starEach es X.env)).any (·.1) = false := by rfl) (eM : X.mg = mg := by rfl) : PDS Wx X (.Expr (.Call (.Name x p) (e :: es) [] pos) pos') (dDropX mg spd m) := by
  subst eM
  exact let ⟨_, _, hm, kp, hb, F⟩ := D; let ⟨_, h1, l1⟩ := ha; ⟨_, ps_expr (pe_callGX F (hr.mono hj) hgu hg hm kp hb (fun σ => passAt tk σ) h1 hdb he hpl) hs, ls_dropX l1⟩
end
end PH

/-! return [x.pop(e) for y in range(..)], x one's own list; a class within another. -/
namespace PH
open PySem PySem.Spec L2
open PyProof.Rows (envOfC AllBare IntsAre)

def exmB (K : PySem.W.Frag) (x y : Str) : Bool := match PySem.W.nsIn K mainGlobals x, PySem.W.nsIn K mainGlobals y with
  | some (some (.ref C)), some (some (.ref D)) => PySem.W.exmOne K (.ref C) (.ref D) == some true
  | _, _ => false
theorem exmB_ok {K : PySem.W.Frag} {h : Heap} {mg : Str → Option Value} {x y : Str} (X : K.In h) (G : h.Ns mainGlobals mg) (c : exmB K x y = true) : ∃ C D, mg x = some (.ref C) ∧ mg y = some (.ref D) ∧ PySem.W.exmOne K (.ref C) (.ref D) = some true := by
  unfold exmB at c
  split at c
  · rename_i C D e1 e2
    exact ⟨C, D, PySem.W.mg_of X G e1, PySem.W.mg_of X G e2, by simpa using c⟩
  · cases c
theorem wipe_at {i : Nat} : ∀ {vs : List Nat} (σ : L2.St), i ∉ vs → (wipe σ vs)[i]? = σ[i]?
  | [], σ, _ => rfl
  | v :: vs, σ, h => by
    unfold wipe
    simp only [List.mem_cons, not_or] at h
    rw [List.getElem?_set_ne (Ne.symm h.1), wipe_at σ h.2]
theorem set_same {α : Type} {xs : List α} {i : Nat} {x : α} (h : xs[i]? = some x) : xs.set i x = xs := by
  obtain ⟨hi, e⟩ := List.getElem?_eq_some_iff.mp h
  rw [← e]; exact List.set_getElem_self hi
variable {Wx : WX}
def dRetPop (m : DA) (dg : DG) (i : Nat) (mx : DE) (vs : List Nat) : DS := fun Dd σd => ∃ a ds0, σd[i]? = some (Sl.own a ds0) ∧ m (σd.set i (.val (.list ds0))) fun ds => ∃ N : Int, ds = [.int N] ∧ -(2 ^ 62) ≤ N ∧ N < 2 ^ 62 ∧ N.toNat ≤ 1000000 ∧
  ∃ W : Nat → List D → List D → Prop, W 0 [] ds0 ∧
    (∀ j acc rest, j < N.toNat → acc.length ≤ j → W j acc rest → dg (.int (0 + (j : Int))) ((dwipe (clean σd) vs).set i (.val (.list rest))) fun σ2 => mx σ2 fun z => ∃ (n : Nat) (d : D), z = .int n ∧ n < 2 ^ 62 ∧ rest[n]? = some d ∧ W (j + 1) (acc ++ [d]) (rest.eraseIdx n)) ∧
    ∀ acc rest, W N.toNat acc rest → Dd.rt (.list acc)
theorem Dqs.erase {S : Sr} {M : Addr → Prop} {H : Hp} : ∀ {vs : List V} {ds : List D} (n : Nat), Dqs S M H vs ds → Dqs S M H (vs.eraseIdx n) (ds.eraseIdx n)
  | _, _, _, .nil => .nil
  | _, _, 0, .cons _ t => t
  | _, _, n + 1, .cons a t => .cons a (Dqs.erase n t)
set_option maxHeartbeats 1000000 in
theorem ls_retPop {K : PySem.W.Frag} {t : TA} {te : TE} {g : TG} {dg : DG} {i nA : Nat} {m : DA} {mx : DE} {vs : List Nat} (h : LA nA t m) (hg : LG g dg) (sg : Sets g vs) (he : LE te mx) (hv : i ∉ vs) :
    LS Wx (tRet (tLc (iRng1 t) g tYes (tBM K "list" rPopAt (tVar i) (tCons te tNil)) vs)) (dRetPop m dg i mx vs) := by
  intro S M H0 H σ σd Dd Dn E hm r
  obtain ⟨a, ds0, hs, hm⟩ := hm
  refine h S M H0 H σ _ _ _ (E.frz hs) hm fun ds us H1 q Ef1 k1 r1 _ => ?_
  obtain ⟨N, rfl, b1, b2, b3, W, w0, wt, wd⟩ := q
  have E1 : Ev S M H0 H1 σ σd := E.ext k1 Ef1.src
  cases r1 with
  | cons rN rest0 =>
  cases rest0
  cases rN
  refine ⟨N, rfl, b1, b2, ?_⟩
  intro Dl hD
  obtain ⟨o, hso, eo, xs0, hx0, rx0⟩ := E1.slot hs
  subst eo
  have ma : MO M σd a := .inr ⟨_, List.mem_of_getElem? hs⟩
  have nDa : Dl ≠ a := fun z => by rw [z, hx0] at hD; cases hD
  have srcN : ∀ p c, S = some (p, c) → (p ≠ Dl ∧ c ≠ Dl) ∧ a ≠ p ∧ a ≠ c := fun p c e => by
    obtain ⟨_, _, _, ns, l, mm, tt, h1, h2⟩ := E1.src.go p c e
    exact ⟨⟨ne_of_none h2 hD, ne_of_none h1 hD⟩, E1.ownNe (List.mem_of_getElem? hs) p c e⟩
  let MX : Addr → Prop := fun b => MO M σd b ∨ b = Dl
  let MY : Addr → Prop := fun b => MX b ∧ b ≠ a
  let KU : Hp → Prop := fun H2 => ∀ b o, b ≠ a → b ≠ Dl → H1 b = some o → (∀ p c, S = some (p, c) → b ≠ p ∧ b ≠ c) → H2 b = some o ∨ ∃ ps ps', o = .tbl ps ∧ H2 b = some (.tbl ps')
  let Pv : Nat → Hp → Prop := fun j H2 => ∃ (acc : List V) (accd : List D) (yv : List V) (rest : List D), H2 Dl = some (.lst acc) ∧ H2 a = some (.lst yv) ∧ Dqs S MX H2 acc accd ∧ Dqs S MX H2 yv rest ∧ W j accd rest ∧ accd.length ≤ j ∧ SrcOk S M H2 ∧ KU H2 ∧ ∀ b, MX b → H2 b ≠ none
  refine lc_it (walk_range (lo := 0) (n := N.toNat)) Pv ?_ (fun _ _ _ _ => trivial) ?_ ?_
  · have sm := Same.upd (o := HO.lst []) hD
    refine ⟨[], [], xs0, ds0, upd_same, sm _ _ hx0, .nil, rx0.go fun b o n e => ⟨fun z => z.elim n fun y => ne_of_none e hD y, sm b o e⟩, w0, Nat.le_refl _, E1.src.same sm, fun b o _ _ e _ => .inl (sm b o e), fun b hb => ?_⟩
    by_cases z : b = Dl
    · rw [z, upd_same]; exact fun y => nomatch y
    · rw [upd_ne z]; exact E1.mtO b (hb.resolve_right z)
  · intro j x Hq H2 hj pv yy
    obtain ⟨e3, hx⟩ := yy
    subst e3; subst hx
    obtain ⟨acc, accd, yv, rest, hacc, hyv, racc, ryv, hW, hle, s2, ku, mtx⟩ := pv
    have wt1 := wt j accd rest hj hle hW
    have nma : ¬ MY a := fun z => z.2 rfl
    have mo1 : ∀ b, MO MY (clean σd) b → MY b := fun b z => MO_clean.mp z
    have s2y : SrcOk S MY H2 := ⟨fun p c e => by
      obtain ⟨g1, g2, g3, rst⟩ := s2.go p c e
      exact ⟨⟨.inl (.inl g1), fun z => (srcN p c e).2.1 z.symm⟩, ⟨.inl (.inl g2), fun z => (srcN p c e).2.2 z.symm⟩, g3, rst⟩, s2.tab⟩
    have EC : Ev S MY (less H2 (clean σd)) H2 σ (clean σd) := E1.clean.remakeT (M' := MY) (H2 := H2) (fun b o n e => by
      have n' : ¬ MO M σd b := fun z => n (MO_clean.mpr z)
      refine ⟨fun z => ?_, ku b o (fun z => n' (z ▸ ma)) (ne_of_none e hD) e fun p c q => ⟨fun z => n' (z ▸ .inl (E1.src.go p c q).1), fun z => n' (z ▸ .inl (E1.src.go p c q).2.1)⟩⟩
      rcases (mo1 b z).1 with y | y
      · exact n' y
      · exact ne_of_none e hD y) (fun b ds z => absurd z clean_no) s2y fun b hb => mtx b hb.1
    have ew : (wipe σ vs)[i]? = some (some (.ref a)) := by rw [wipe_at σ hv]; exact hso
    have EW := EC.wipe vs
    have mo2 : ∀ b, MO MY (dwipe (clean σd) vs) b → MY b := fun b z => z.elim id fun ⟨es, y⟩ => absurd y dwipe_no
    have EP0 : Ev S MY (less H2 (clean σd)) H2 (wipe σ vs) ((dwipe (clean σd) vs).set i (.val (.list rest))) := by
      have := EW.put (i := i) (v := .ref a) (d := .list rest) (.lst (fun z => nma (mo2 a z)) hyv (ryv.go fun b o n e => ⟨fun z => n (mo2 b z).1, e⟩))
      rwa [set_same ew] at this
    refine sg (.int (0 + (j : Int))) (wipe σ vs) H2 (fun σ2 Hx => Hx = H2 ∧ ∃ σd2, Ev S MY (less H2 (clean σd)) H2 σ2 σd2 ∧ mx σd2 fun z => ∃ (n : Nat) (d : D), z = .int n ∧ n < 2 ^ 62 ∧ rest[n]? = some d ∧ W (j + 1) (accd ++ [d]) (rest.eraseIdx n)) _
      (hg S MY _ H2 _ _ _ _ _ _ EP0 (.int _) wt1 fun σd2 σ2 q2 E4 => ⟨rfl, σd2, E4, q2⟩) ?_
    rintro σ2 Hx ⟨rfl, σd2, E4, q2⟩ hw
    refine ⟨hw.trans (wipe_wipe σ fun _ h => h), ?_⟩
    have e5 : σ2[i]? = some (some (.ref a)) := by
      have := congrArg (fun z : L2.St => z[i]?) hw
      simp only [wipe_at _ hv] at this
      rw [this]; exact hso
    show tBM K "list" rPopAt (tVar i) (tCons te tNil) σ2 Hx _
    refine ⟨.ref a, e5, Or.inl ⟨rfl, _, Or.inl (Or.inl hyv)⟩, ?_⟩
    refine he S MY _ Hx σ2 σd2 _ _ E4 q2 fun z v H3 q3 E5 k3 r3 => ?_
    obtain ⟨n, d, rfl, hn, hd, hW'⟩ := q3
    cases r3
    obtain ⟨y, hy, ry⟩ := ryv.get hd
    have nS : ∀ b, b = a ∨ b = Dl → ∀ p c, S = some (p, c) → b ≠ p ∧ b ≠ c := fun b hb p c e => by
      rcases hb with rfl | rfl
      · exact (srcN p c e).2
      · exact ⟨(srcN p c e).1.1.symm, (srcN p c e).1.2.symm⟩
    have a3 : H3 a = some (.lst yv) := k3.k a _ hyv (nS a (.inl rfl))
    have d3 : H3 Dl = some (.lst acc) := k3.k Dl _ hacc (nS Dl (.inr rfl))
    have s3 : SrcOk S M H3 := s2.at E5.src
    have gX : ∀ b o, ¬ MX b → Hx b = some o → ¬ MX b ∧ (H3 b = some o ∨ ∃ ps ps', o = .tbl ps ∧ H3 b = some (.tbl ps')) := fun b o nb e => ⟨nb, k3 b o e fun p c q => by
      obtain ⟨g1, g2, _⟩ := s2.go p c q
      exact ⟨fun z => nb (z ▸ .inl (.inl g1)), fun z => nb (z ▸ .inl (.inl g2))⟩⟩
    have hlen : n < yv.length := (List.getElem?_eq_some_iff.mp hy).1
    refine ⟨a, yv, (n : Int), n, y, rfl, rfl, a3, by omega, by omega, ?_, hy, acc, by rw [upd_ne nDa]; exact d3, by rw [racc.length, sizeLine_eq]; omega, acc ++ [y], accd ++ [d], yv.eraseIdx n, rest.eraseIdx n, upd_same, by rw [upd_ne nDa.symm, upd_same], ?_, ?_, hW', by simp; omega, ⟨fun p c e => ?_, ?_⟩, fun b o h1 h2 e hn => ?_, fun b hb => ?_⟩
    · unfold seqIndex?
      simp
      omega
    · refine ((racc.goT gX).append (.cons (ry.goT gX) .nil)).go fun b o nb e => ⟨nb, ?_⟩
      rw [upd_ne fun z => nb (.inr z), upd_ne fun z => nb (by rw [z]; exact .inl ma)]; exact e
    · refine ((ryv.goT gX).erase n).go fun b o nb e => ⟨nb, ?_⟩
      rw [upd_ne fun z => nb (.inr z), upd_ne fun z => nb (by rw [z]; exact .inl ma)]; exact e
    · obtain ⟨g1, g2, g3, ns, l, mm, tt, g4, g5⟩ := s3.go p c e
      obtain ⟨⟨n1, n2⟩, n3, n4⟩ := srcN p c e
      exact ⟨g1, g2, g3, ns, l, mm, tt, by rw [upd_ne n2, upd_ne n4.symm]; exact g4, by rw [upd_ne n1, upd_ne n3.symm]; exact g5⟩
    · exact tabs_upd (tabs_upd s3.tab a3) (by rw [upd_ne nDa]; exact d3)
    · rcases ku b o h1 h2 e hn with z | ⟨ps, ps', z1, z2⟩
      · rcases k3 b o z hn with y | ⟨qs, qs', y1, y2⟩
        · exact .inl (by rw [upd_ne h2, upd_ne h1]; exact y)
        · exact .inr ⟨qs, qs', y1, by rw [upd_ne h2, upd_ne h1]; exact y2⟩
      · rcases k3 b _ z2 hn with y | ⟨_, qs', _, y2⟩
        · exact .inr ⟨ps, ps', z1, by rw [upd_ne h2, upd_ne h1]; exact y⟩
        · exact .inr ⟨ps, qs', z1, by rw [upd_ne h2, upd_ne h1]; exact y2⟩
    · by_cases z1 : b = Dl
      · rw [z1, upd_same]; exact fun y => nomatch y
      · rw [upd_ne z1]
        by_cases z2 : b = a
        · rw [z2, upd_same]; exact fun y => nomatch y
        · rw [upd_ne z2]; exact E5.mt b ⟨hb, z2⟩
  · rintro H2 ⟨acc, accd, yv, rest, hacc, hyv, racc, ryv, hW, hle, s2, ku, mtx⟩
    refine r.2.1 _ _ H2 (wd accd rest hW) (fun b o e n => ?_) s2 (fun b hb => mtx b (.inl (.inl hb))) (.lst (fun z => E1.mt Dl z hD) hacc (racc.go fun b o n e => ⟨fun z => n (.inl (.inl z)), e⟩))
    have na : b ≠ a := fun z => by rw [z, E1.new a _ (List.mem_of_getElem? hs)] at e; cases e
    have nD : b ≠ Dl := fun z => by
      rcases E1.keep b o e n with y | ⟨_, _, _, y⟩ <;> rw [z, hD] at y <;> cases y
    rcases E1.keep b o e n with y | ⟨ps, ps', y1, y2⟩
    · exact ku b o na nD y n
    · rcases ku b _ na nD y2 n with z | ⟨_, qs', _, z⟩
      · exact .inr ⟨ps, ps', y1, z⟩
      · exact .inr ⟨ps, qs', y1, z⟩
section
variable {X : Cx}
theorem psd_retPop {elt A tg : Expr} {scope : Scope} {own : List (Str × Nat)} {m : DA} {g : TG} {dg : DG} {mx : DE} {p pos lpos rpos : Pos} (i : Nat) (hc : X.calm = true) (hN : X.N.Nodup) (hgr : Gl X "range") (hmr : X.mg "range" = none) (ha : PDA X [A] 1 m) (ok : blkC X.N X.env.scope scope own = true)
    (hg : ∀ (s : Shared) (H : Hp) (C : Addr) (cl : List (Str × Addr)) (fp : List Addr), PG (X.blk s H scope (compEnvC scope cl C X.env) fp) tg g) (lg : LG g dg) (sg : Sets g (own.map (·.2)))
    (he : ∀ (s : Shared) (H : Hp) (C : Addr) (cl : List (Str × Addr)) (fp : List Addr), PE (X.blk s H scope (compEnvC scope cl C X.env) fp) elt (tBM X.K "list" rPopAt (tVar i) (tCons (tOfE mx) tNil))) (hv : i ∉ own.map (·.2) := by decide)
    (hs : ∀ x, foldedSetIterable (.Call (.Name "range" p) [A] [] pos) X.env x = pure x := by intro _; rfl) (hse : starEach [A] X.env = [(false, eval A X.env)] := by rfl) :
    PDS Wx X (.Return (some (.ListComp elt [⟨tg, .Call (.Name "range" p) [A] [] pos, [], 0⟩] scope lpos)) rpos) (dRetPop m dg i mx (own.map (·.2))) :=
  let ⟨_, h1, l1⟩ := ha; ⟨_, ps_ret (pe_lc hc hN (pi_range1 hgr hmr h1 hse) (blkOk_by ok) hg (fun _ _ _ _ _ => pts_nil) he hs), ls_retPop l1 lg sg le_of hv⟩
/-- list(xs): a new list -/
def dLstN (m : DA) : DA := fun σd Q => m σd fun ds => match ds with
  | [.list xs] => Q xs
  | [.tuple xs] => Q xs
  | _ => False
theorem ln_lstOf {K : PySem.W.Frag} {n : Nat} {t : TA} {m : DA} (h : LA n t m) : LN (tCB (fun xs H Q => ∃ p ys, xs = [.ref p] ∧ (SqL K H p ys ∨ SqT K H p ys) ∧ ∀ l, H l = none → Q (.ref l) (upd H l (.lst ys))) t) (dLstN m) := by
  intro S M H0 H σ σd Qd Q E hm k
  refine h S M H0 H σ σd _ _ E hm fun ds vs H1 q E1 k1 r1 _ => ?_
  have fin : ∀ (p : Addr) (ys : List V) (xs : List D), (SqL K H1 p ys ∨ SqT K H1 p ys) → Dqs S (MO M σd) H1 ys xs → Qd xs → ∃ p' ys, [V.ref p] = [V.ref p'] ∧ (SqL K H1 p' ys ∨ SqT K H1 p' ys) ∧ ∀ l, H1 l = none → Q (.ref l) (upd H1 l (.lst ys)) := fun p ys xs hs rs hq =>
    ⟨p, ys, rfl, hs, fun l hl => by
      have sm : Same H1 (upd H1 l (.lst ys)) := Same.upd hl
      exact k xs l ys _ hq (E1.same sm) (k1.trans (.of sm)) (fresh_back E k1 hl E1.src) upd_same (rs.go fun a o n e => ⟨(mo_sub hl a o n e).1, sm a o e⟩)⟩
  split at q
  · cases r1 with
    | cons a b =>
      cases b
      cases a with
      | lst n e rs => exact fin _ _ _ (.inl (.inl (.inl e))) rs q
  · cases r1 with
    | cons a b =>
      cases b
      cases a with
      | tup n e rs => exact fin _ _ _ (.inr (.inl (.inl e))) rs q
  · exact q.elim
theorem pdn_listOf {X : Cx} {e : Expr} {n : Nat} {m : DA} {p pos : Pos} (hm : X.mg "list" = none) (ha : PDA X [e] n m) (hg : Gl X "list" := by rfl) (hse : starEach [e] X.env = (false, eval e X.env) :: starEach [] X.env := by rfl) (hpl : (backTo pos (starEach [] X.env)).any (·.1) = false := by rfl) :
    PDN X (.Call (.Name "list" p) [e] [] pos) (dLstN m) := let ⟨_, h1, l1⟩ := ha; ⟨_, pe_callTy call_list_of hg hm (by decide +kernel) h1 (by decide) (by decide) hse hpl, ln_lstOf l1⟩
end
end PH

/-! What the defs say, over data: numbers and fractions. -/
namespace PH
open PySem

theorem dlen1 {ds : List D} (h : ds.length = 1) : ∃ d, ds = [d] := by
  match ds, h with
  | [d], _ => exact ⟨d, rfl⟩
theorem dlen2 {ds : List D} (h : ds.length = 2) : ∃ d e, ds = [d, e] := by
  match ds, h with
  | [d, e], _ => exact ⟨d, e, rfl⟩
theorem dlen3 {ds : List D} (h : ds.length = 3) : ∃ d e f, ds = [d, e, f] := by
  match ds, h with
  | [d, e, f], _ => exact ⟨d, e, f, rfl⟩
/-- is it an integer -/
def isNum : D → Bool
  | .int _ => true
  | _ => false
theorem isNum_iff {d : D} : isNum d = true ↔ ∃ i, d = .int i := by cases d <;> simp [isNum]
theorem isNum_ty (d : D) : (isTy "int" d && !isTy "bool" d) = isNum d := by cases d <;> simp [isTy, tyN, isNum]
/-- a tuple of so many integers -/
def areNum (d : D) (n : Int) : Bool := match d with
  | .tuple xs => decide ((xs.length : Int) = n) && xs.all isNum
  | _ => false
theorem areNum2 {d : D} : areNum d 2 = true ↔ ∃ p q, d = .tuple [.int p, .int q] := by
  constructor
  · intro h
    unfold areNum at h
    split at h
    · rename_i xs
      rw [Bool.and_eq_true] at h
      have hl : xs.length = 2 := by have := of_decide_eq_true h.1; omega
      obtain ⟨a, b, rfl⟩ := dlen2 hl
      have h2 := h.2
      simp only [List.all_cons, List.all_nil, Bool.and_true, Bool.and_eq_true] at h2
      obtain ⟨i, rfl⟩ := isNum_iff.mp h2.1
      obtain ⟨j, rfl⟩ := isNum_iff.mp h2.2
      exact ⟨i, j, rfl⟩
    · cases h
  · rintro ⟨p, q, rfl⟩
    simp [areNum, isNum]
/-- a tuple of at most so many parts, if it is one -/
def tupLe (n : Nat) : D → Prop
  | .tuple xs => xs.length ≤ n
  | _ => True
def spIsNum : DSp := fun ds Q => ∃ d, ds = [d] ∧ Q (.bool (isNum d))
def spAreNum : DSp := fun ds Q => ∃ d n, ds = [d, .int n] ∧ tupLe 1000 d ∧ Q (.bool (areNum d n))
/-- the common divisor with the sign of q -/
def gs (p q : Int) : Int := if q < 0 then -(Int.gcd p q : Int) else (Int.gcd p q : Int)
def frac (p q : Int) : D := .tuple [.int (p.fdiv (gs p q)), .int (q.fdiv (gs p q))]
theorem gs_ne {p q : Int} (h : q ≠ 0) : gs p q ≠ 0 := by
  have : Int.gcd p q ≠ 0 := fun z => h (Int.gcd_eq_zero_iff.mp z).2
  unfold gs; split <;> omega
theorem gs_bd {p q : Int} {b : Nat} (h : q ≠ 0) [hb : Bd b q] : Bd b (gs p q) := by
  have e : (Int.gcd p q) ≤ q.natAbs := Nat.le_of_dvd (by omega) (Nat.gcd_dvd_right _ _)
  have := hb.h
  constructor
  unfold gs
  split <;> simp <;> omega
def spFrac : DSp := fun ds Q => ∃ (p q : Int) (a b : Nat), ds = [.int p, .int q] ∧ q ≠ 0 ∧ Bd a p ∧ Bd b q ∧ a ≤ 8000 ∧ b ≤ 8000 ∧ Q (frac p q)
def isFrac (d : D) : Bool := areNum d 2 && (match d with
  | .tuple [.int p, .int q] => decide (0 < q) && decide ((Int.gcd p q : Int) = 1)
  | _ => false)
def spIsFrac : DSp := fun ds Q => ∃ d, ds = [d] ∧ tupLe 1000 d ∧ Q (.bool (isFrac d))
/-- two pairs of integers in, bounded -/
def spPairs (ok : Int → Int → Int → Int → Prop) (f : Int → Int → Int → Int → D) : DSp := fun ds Q => ∃ (p q r s : Int) (a : Nat), ds = [.tuple [.int p, .int q], .tuple [.int r, .int s]] ∧ Bd a p ∧ Bd a q ∧ Bd a r ∧ Bd a s ∧ a ≤ 1000 ∧ ok p q r s ∧ Q (f p q r s)
/-- a comprehension whose items are told by a function -/
theorem lcc (f : D → D) {ys : List D} {g : DG} {me : DE} {σ0 : DSt} {Q : List D → Prop} (hl : ys.length ≤ 1000000) (hs : ∀ y ∈ ys, ∀ Q : D → Prop, Q (f y) → g y σ0 fun σ2 => me σ2 Q) (hq : Q (ys.map f)) :
    ys.length ≤ 1000000 ∧ ∃ W : Nat → List D → Prop, W 0 [] ∧ (∀ i y acc, ys[i]? = some y → acc.length ≤ i → W i acc → g y σ0 fun σ2 => dYes σ2 fun b => if b = true then me σ2 fun z => W (i + 1) (acc ++ [z]) else W (i + 1) acc) ∧ ∀ acc, W ys.length acc → Q acc := by
  refine ⟨hl, fun i acc => acc = (ys.take i).map f, by simp, fun i y acc h _ w => ?_, fun acc w => ?_⟩
  · have h0 : i < ys.length := (List.getElem?_eq_some_iff.mp h).1
    have hy : ys[i] = y := (List.getElem?_eq_some_iff.mp h).2
    refine hs y (List.mem_of_getElem? h) (fun z => acc ++ [z] = (ys.take (i + 1)).map f) ?_
    rw [w, List.take_add_one, List.map_append, h]
    rfl
  · rw [w, List.take_length]; exact hq
theorem lccf (t : D → Bool) (f : D → D) {ys : List D} {g : DG} {mt : DT} {me : DE} {σ0 : DSt} {Q : List D → Prop} (hl : ys.length ≤ 1000000)
    (hs : ∀ y ∈ ys, ∀ (Q1 : D → Prop) (Q0 : Prop), (t y = true → Q1 (f y)) → (t y = false → Q0) → g y σ0 fun σ2 => mt σ2 fun b => if b = true then me σ2 Q1 else Q0) (hq : Q ((ys.filter t).map f)) :
    ys.length ≤ 1000000 ∧ ∃ W : Nat → List D → Prop, W 0 [] ∧ (∀ i y acc, ys[i]? = some y → acc.length ≤ i → W i acc → g y σ0 fun σ2 => mt σ2 fun b => if b = true then me σ2 fun z => W (i + 1) (acc ++ [z]) else W (i + 1) acc) ∧ ∀ acc, W ys.length acc → Q acc := by
  refine ⟨hl, fun i acc => acc = ((ys.take i).filter t).map f, by simp, fun i y acc h _ w => ?_, fun acc w => ?_⟩
  · have e : ys.take (i + 1) = ys.take i ++ [y] := by rw [List.take_add_one, h]; rfl
    refine hs y (List.mem_of_getElem? h) (fun z => acc ++ [z] = ((ys.take (i + 1)).filter t).map f) _ (fun ht => ?_) (fun ht => ?_)
    · rw [w, e, List.filter_append, List.map_append]
      simp [ht]
    · show acc = ((ys.take (i + 1)).filter t).map f
      rw [w, e, List.filter_append, List.map_append]
      simp [ht]
  · rw [w, List.take_length]; exact hq
def spCommon : DSp := fun ds Q => ∃ a b : Int, ds = [.int a, .int b] ∧ Q (.int (Int.gcd a b))
end PH

/-! What the laws' own defs say: choices, drawn numbers, odd values; reprs that fit. -/
namespace PH
open PySem
theorem atI_0 {α : Type} {a : α} {l : List α} : L2.atI (a :: l) 0 = some a := by simpa using L2.atI_nat (xs := a :: l) (j := 0) (v := a) rfl
theorem atI_1 {α : Type} {a b : α} {l : List α} : L2.atI (a :: b :: l) 1 = some b := by simpa using L2.atI_nat (xs := a :: b :: l) (j := 1) (v := b) rfl
theorem atI_2 {α : Type} {a b c : α} {l : List α} : L2.atI (a :: b :: c :: l) 2 = some c := by simpa using L2.atI_nat (xs := a :: b :: c :: l) (j := 2) (v := c) rfl
theorem atI_3 {α : Type} {a b c d : α} {l : List α} : L2.atI (a :: b :: c :: d :: l) 3 = some d := by simpa using L2.atI_nat (xs := a :: b :: c :: d :: l) (j := 3) (v := d) rfl
theorem atI_4 {α : Type} {a b c d e : α} {l : List α} : L2.atI (a :: b :: c :: d :: e :: l) 4 = some e := by simpa using L2.atI_nat (xs := a :: b :: c :: d :: e :: l) (j := 4) (v := e) rfl
theorem atI_ok {α : Type} {xs : List α} {k : Int} (h0 : 0 ≤ k) (h : k < xs.length) : ∃ v, L2.atI xs k = some v ∧ v ∈ xs := by
  have hk : k.toNat < xs.length := by omega
  have e := L2.atI_nat (xs := xs) (j := k.toNat) (v := xs[k.toNat]) (List.getElem?_eq_getElem hk)
  rw [show ((k.toNat : Nat) : Int) = k by omega] at e
  exact ⟨_, e, List.getElem_mem hk⟩
theorem eAdd_i {i j : Int} {Q : D → Prop} : dAddA (.int i) (.int j) Q = Q (.int (i + j)) := rfl
theorem eAdd_l {xs ys : List D} {Q : D → Prop} : dAddA (.list xs) (.list ys) Q = (xs.length + ys.length ≤ 10000000 ∧ Q (.list (xs ++ ys))) := rfl
theorem eMul_i {i j : Int} {Q : D → Prop} : dMulA (.int i) (.int j) Q = (CMB i j ∧ Q (.int (i * j))) := rfl
theorem eMul_l {xs : List D} {k : Int} {Q : D → Prop} : dMulA (.list xs) (.int k) Q = ((-(2 ^ 63) ≤ k ∧ k < 2 ^ 63 ∧ xs.length * k.toNat ≤ 10000000) ∧ Q (.list (repD k.toNat xs))) := rfl
theorem eIx_l {xs : List D} {i : Int} {Q : D → Prop} : dIx (.list xs) (.int i) Q = (match L2.atI xs i with | some d => Q d | none => False) := rfl
theorem eIx_t {xs : List D} {i : Int} {Q : D → Prop} : dIx (.tuple xs) (.int i) Q = (match L2.atI xs i with | some d => Q d | none => False) := rfl
theorem eLen_l {xs : List D} {Q : D → Prop} : dLen [.list xs] Q = Q (.int xs.length) := rfl
theorem eLen_t {xs : List D} {Q : D → Prop} : dLen [.tuple xs] Q = Q (.int xs.length) := rfl
theorem eInt_i {i : Int} {Q : D → Prop} : dIntF [.int i] Q = Q (.int i) := rfl
theorem eInt_b {b : Bool} {Q : D → Prop} : dIntF [.bool b] Q = Q (.int (if b then 1 else 0)) := rfl
theorem eEq_i {i j : Int} {Q : D → Prop} : dEq (.int i) (.int j) Q = Q (.bool (decide (i = j))) := rfl
theorem eNe_i {i j : Int} {Q : D → Prop} : dNe (.int i) (.int j) Q = Q (.bool (!decide (i = j))) := rfl
theorem eEq_e {xs : List D} {Q : D → Prop} : dEq (.list xs) (.list []) Q = Q (.bool xs.isEmpty) := rfl
theorem pick {m : Int} {Q : D → Prop} (h1 : 1 ≤ m) (hm : m < 2 ^ 30) (h : ∀ k : Int, 0 ≤ k → k < m → Q (.int k)) : spPick [SRC, .int m] Q := ⟨m, rfl, hm, fun k h0 hk => h k h0 (by rcases hk with hk | hk <;> omega)⟩
theorem choice {xs : List D} {Q : D → Prop} (hne : xs ≠ []) (hl : xs.length < 2 ^ 30) (h : ∀ x ∈ xs, Q x) : ∃ ys : List D, [SRC, .list xs] = [SRC, .list ys] ∧ ys ≠ [] ∧ ys.length < 2 ^ 30 ∧ ∀ x ∈ ys, Q x := ⟨xs, rfl, hne, hl, h⟩
theorem cpow {i j : Int} (h0 : 0 ≤ j) (h1 : j ≤ 1000000) (h2 : i.natAbs < 2 ^ 64) : L2.CPow i j := ⟨h0, h1, h2⟩
def spChoice : DSp := fun ds Q => ∃ xs : List D, ds = [SRC, .list xs] ∧ xs ≠ [] ∧ xs.length < 2 ^ 30 ∧ ∀ x ∈ xs, Q x
def spNumber : DSp := fun ds Q => ds = [SRC] ∧ ∀ n : Int, n.natAbs ≤ 10 ^ 9 → Q (.int n)
def spTrue : DSp := fun ds Q => ds = [SRC] ∧ Q (.bool true)
def spFrom (xs : List D) : DSp := fun ds Q => ds = [SRC] ∧ ∀ d ∈ xs, Q d
def oddPart : List D := [.none, .bool true, .bool false, .str "1", .list [.int 1], .tuple [.int 1], .dict [], .str ""]
def oddAll : List D := [.none, .bool true, .bool false, .str "a", .str "", .tuple [], .list [], .dict [], .tuple [.int 1], .list [.int 1, .int 2], .tuple [.int 1, .int 2, .int 3, .int 4], .str "12", .tuple [.none, .int 1], .tuple [.int 1, .str "a", .int 1], .tuple [.bool true, .int 1],
  .tuple [.int 0, .bool true], .tuple [.int 1, .int 2, .bool true], .tuple [.bool true, .int 2, .int 3], .tuple [.list [.int 1], .int 2], .tuple [.tuple [.int 1, .int 2], .int 3], .tuple [.int 0, .int 0], .tuple [.int 0, .int 0, .int 0], .tuple [.int 2, .int 4], .tuple [.int 2, .int 4, .int 6], .tuple [.int 1, .int (-1)],
  .tuple [.int 0, .int 0, .int 2], .tuple [.int 0, .int 0, .int 1], .tuple [.int 1, .int 0], .tuple [.int 0, .int 1], .tuple [.int 3, .int 0], .tuple [.int 0, .int (-1)], .tuple [.int 1, .int 2, .int (-1)], .tuple [.int 1, .int 2, .int 0], .tuple [.int 0, .int 2], .tuple [.int (10 ^ Int.toNat 30), .int 1], .tuple [.int 1, .list [.int 2], .int 3],
  .tuple [.int 1, .none], .tuple [.int 1, .list [.int 2]], .tuple [.int 1, .str "a"], .tuple [.int 0, .int 0, .none], .tuple [.int 1, .int 2, .str "3"]]
/-- a fraction in its form, small -/
def spDrawFrac : DSp := fun ds Q => ds = [SRC] ∧ ∀ a b : Int, a.natAbs ≤ 10 ^ 9 → 0 < b → b ≤ 10 ^ 9 → Int.gcd a b = 1 → Q (.tuple [.int a, .int b])

/-! ### fractions -/
theorem gs_pos {p q : Int} (h : q ≠ 0) : 0 < q * gs p q := by
  have g0 : 0 < (Int.gcd p q : Int) := by
    have : Int.gcd p q ≠ 0 := fun z => h (Int.gcd_eq_zero_iff.mp z).2
    omega
  unfold gs
  split
  · rename_i hq
    exact Int.mul_pos_of_neg_of_neg hq (by omega)
  · exact Int.mul_pos (by omega) g0
theorem gs_dvd_l (p q : Int) : gs p q ∣ p := by
  unfold gs; split
  · exact Int.neg_dvd.mpr (Int.gcd_dvd_left ..)
  · exact Int.gcd_dvd_left ..
theorem gs_dvd_r (p q : Int) : gs p q ∣ q := by
  unfold gs; split
  · exact Int.neg_dvd.mpr (Int.gcd_dvd_right ..)
  · exact Int.gcd_dvd_right ..
theorem gs_natAbs (p q : Int) : (gs p q).natAbs = Int.gcd p q := by
  unfold gs; split <;> simp
/-- the form of a fraction: u / v, v above 0, no common divisor -/
theorem frac_spec {p q : Int} (h : q ≠ 0) : ∃ u v : Int, frac p q = .tuple [.int u, .int v] ∧ 0 < v ∧ Int.gcd u v = 1 ∧ p = u * gs p q ∧ q = v * gs p q := by
  have g0 := gs_ne (p := p) h
  obtain ⟨u, hu⟩ := gs_dvd_l p q
  obtain ⟨v, hv⟩ := gs_dvd_r p q
  have e1 : p.fdiv (gs p q) = u := by
    conv => lhs; lhs; rw [hu]
    exact Int.mul_fdiv_cancel_left u g0
  have e2 : q.fdiv (gs p q) = v := by
    conv => lhs; lhs; rw [hv]
    exact Int.mul_fdiv_cancel_left v g0
  refine ⟨u, v, by unfold frac; rw [e1, e2], ?_, ?_, by rw [Int.mul_comm]; exact hu, by rw [Int.mul_comm]; exact hv⟩
  · have := gs_pos (p := p) h
    by_cases hv0 : 0 < v
    · exact hv0
    · exfalso
      have h2 : q * gs p q = v * (gs p q * gs p q) := by
        conv => lhs; lhs; rw [hv]
        rw [Int.mul_comm (gs p q) v, Int.mul_assoc]
      rw [h2] at this
      have h3 : 0 ≤ gs p q * gs p q := by
        rcases Int.le_total 0 (gs p q) with z | z
        · exact Int.mul_nonneg z z
        · exact Int.mul_nonneg_of_nonpos_of_nonpos z z
      have := Int.mul_nonpos_of_nonpos_of_nonneg (show v ≤ 0 by omega) h3
      omega
  · have k1 : Int.gcd p q = (gs p q).natAbs * Int.gcd u v := by
      have z := Int.gcd_mul_left (gs p q) u v
      rw [← hu, ← hv] at z
      exact z
    rw [gs_natAbs] at k1
    have g1 : 0 < Int.gcd p q := by
      have : Int.gcd p q ≠ 0 := fun z => h (Int.gcd_eq_zero_iff.mp z).2
      omega
    have := Nat.eq_of_mul_eq_mul_left g1 (show Int.gcd p q * Int.gcd u v = Int.gcd p q * 1 by omega)
    exact this
theorem cop_dvd {a b v : Int} (g : Int.gcd a b = 1) (h : b ∣ a * v) : b ∣ v := by
  have z := Int.dvd_gcd_mul_iff_dvd_mul.mpr h
  rw [Int.gcd_comm, g] at z
  simpa using z
/-- two forms of one fraction are one -/
theorem form_uniq {a b u v : Int} (hb : 0 < b) (hv : 0 < v) (g1 : Int.gcd a b = 1) (g2 : Int.gcd u v = 1) (e : a * v = u * b) : a = u ∧ b = v := by
  have d1 : b ∣ v := by
    have : b ∣ a * v := ⟨u, by rw [e, Int.mul_comm]⟩
    exact cop_dvd g1 this
  have d2 : v ∣ b := by
    have : v ∣ u * b := ⟨a, by rw [← e, Int.mul_comm]⟩
    exact cop_dvd g2 this
  have eb : b = v := Int.le_antisymm (Int.le_of_dvd hv d1) (Int.le_of_dvd hb d2)
  refine ⟨?_, eb⟩
  subst eb
  exact Int.eq_of_mul_eq_mul_right (by omega) e
theorem frac_eq {p q a b : Int} (hq : q ≠ 0) (hb : 0 < b) (g : Int.gcd a b = 1) (e : p * b = a * q) : frac p q = .tuple [.int a, .int b] := by
  obtain ⟨u, v, h1, h2, h3, h4, h5⟩ := frac_spec (p := p) hq
  have g0 := gs_ne (p := p) hq
  have e2 : u * b = a * v := by
    refine Int.eq_of_mul_eq_mul_right g0 ?_
    calc u * b * gs p q = (u * gs p q) * b := by rw [Int.mul_assoc, Int.mul_comm b, ← Int.mul_assoc]
      _ = p * b := by rw [← h4]
      _ = a * q := e
      _ = a * (v * gs p q) := by rw [← h5]
      _ = a * v * gs p q := by rw [Int.mul_assoc]
  obtain ⟨r1, r2⟩ := form_uniq h2 hb h3 g e2
  rw [h1, r1, r2]
theorem frac_cross {p q u v : Int} (hq : q ≠ 0) (h : frac p q = .tuple [.int u, .int v]) : p * v = u * q ∧ 0 < v ∧ Int.gcd u v = 1 := by
  obtain ⟨u', v', h1, h2, h3, h4, h5⟩ := frac_spec (p := p) hq
  rw [h1] at h
  injection h with h
  injection h with e1 e2
  injection e1 with e1
  injection e2 with e2 _
  injection e2 with e2
  subst e1; subst e2
  refine ⟨?_, h2, h3⟩
  calc p * v' = (u' * gs p q) * v' := by rw [← h4]
    _ = u' * (v' * gs p q) := by rw [Int.mul_assoc, Int.mul_comm (gs p q)]
    _ = u' * q := by rw [← h5]
theorem isFrac_form {a b : Int} (hb : 0 < b) (g : Int.gcd a b = 1) : isFrac (.tuple [.int a, .int b]) = true := by
  simp [isFrac, areNum, isNum, hb, g]
end PH

/-! When repr fits. -/
namespace PH
open PySem
mutual
def tame : D → Prop
  | .int i => i.natAbs < 2 ^ 900
  | .str x => (x.cps.toList.all fun c => decide (c < 16 ^ 8)) = true
  | .list xs => tames xs
  | .tuple xs => tames xs
  | .dict kvs => kvs = []
  | _ => True
def tames : List D → Prop
  | [] => True
  | x :: xs => tame x ∧ tames xs
end
theorem short_int {i : Int} (h : i.natAbs < 2 ^ 900) : (PyData.shown (.int i)).length ≤ 300 := by
  have h2 : i.natAbs < 10 ^ 280 := Nat.lt_of_lt_of_le h (by decide +kernel)
  have e := int_text_length_le10 (k := 280) (by decide) h2
  show (Str.ofString (toString i)).length ≤ 300
  rw [ofString_length]
  omega
mutual
theorem tame_show : ∀ d : D, tame d → d.showable = true ∧ noS d = true ∧ d.leavesShort 300 = true
  | .none, _ => ⟨by simp [PyData.showable], by simp [noS], by simp [PyData.leavesShort]⟩
  | .bool _, _ => ⟨by simp [PyData.showable], by simp [noS], by simp [PyData.leavesShort]⟩
  | .int i, h => by
    have h' : i.natAbs < 2 ^ 900 := by simpa [tame] using h
    refine ⟨?_, by simp [noS], ?_⟩
    · simp only [PyData.showable, decide_eq_true_eq]
      exact Nat.lt_of_lt_of_le (PySem.Flt.log2_lt_of (by decide) h') (by decide)
    · simp only [PyData.leavesShort, decide_eq_true_eq]
      exact short_int h'
  | .str x, h => ⟨by simp [PyData.showable], by simp [noS], by simpa [PyData.leavesShort, tame] using h⟩
  | .list xs, h => by
    obtain ⟨a, b, c⟩ := tames_show xs (by simpa [tame] using h)
    exact ⟨by simpa [PyData.showable] using a, by simpa [noS] using b, by simpa [PyData.leavesShort] using c⟩
  | .tuple xs, h => by
    obtain ⟨a, b, c⟩ := tames_show xs (by simpa [tame] using h)
    exact ⟨by simpa [PyData.showable] using a, by simpa [noS] using b, by simpa [PyData.leavesShort] using c⟩
  | .dict kvs, h => by
    have h' : kvs = [] := by simpa [tame] using h
    subst h'
    exact ⟨by simp [PyData.showable, PyData.showableKv], by simp [noS], by simp [PyData.leavesShort, PyData.leavesShortKv]⟩
theorem tames_show : ∀ ds : List D, tames ds → PyData.showableAll ds = true ∧ noSs ds = true ∧ PyData.leavesShortAll 300 ds = true
  | [], _ => ⟨by simp [PyData.showableAll], by simp [noSs], by simp [PyData.leavesShortAll]⟩
  | d :: ds, h => by
    obtain ⟨h1, h2⟩ : tame d ∧ tames ds := by simpa [tames] using h
    obtain ⟨a, b, c⟩ := tame_show d h1
    obtain ⟨a', b', c'⟩ := tames_show ds h2
    exact ⟨by simp [PyData.showableAll, a, a'], by simp [noSs, b, b'], by simp [PyData.leavesShortAll, c, c']⟩
end
theorem rOk_of {d : D} (h : tame d) (hb : d.bulk ≤ 40000) (hd : d.depth ≤ 60) (hl : d.hasDict = true → noL d = true) : rOk d := by
  obtain ⟨a, b, c⟩ := tame_show d h
  refine ⟨a, b, hl, hd, ?_⟩
  have z := PyData.shown_le_bulk 300 (by decide) d c
  rw [sizeLine_eq]
  omega
end PH

/-! More of fractions and of == of data. -/
namespace PH
open PySem
theorem frac_bds {p q u v : Int} {a b : Nat} [ha : Bd a p] [hb : Bd b q] (h : q ≠ 0) (e : frac p q = .tuple [.int u, .int v]) : Bd a u ∧ Bd b v := by
  unfold frac at e
  injection e with e
  injection e with e1 e2
  injection e1 with e1
  injection e2 with e2 _
  injection e2 with e2
  subst e1; subst e2
  exact ⟨bd_fdiv, bd_fdiv⟩
theorem tame_frac {p q : Int} {a b : Nat} [ha : Bd a p] [hb : Bd b q] (h1 : a ≤ 900) (h2 : b ≤ 900) : tame (frac p q) := by
  unfold frac
  simp only [tame, tames]
  have x1 : Bd a (p.fdiv (gs p q)) := bd_fdiv
  have x2 : Bd b (q.fdiv (gs p q)) := bd_fdiv
  exact ⟨(x1.mono h1).h, (x2.mono h2).h, trivial⟩
theorem tupLe_frac (p q : Int) : tupLe 1000 (frac p q) := by show 2 ≤ 1000; decide
theorem isFrac_frac {p q : Int} (h : q ≠ 0) : isFrac (frac p q) = true := by
  obtain ⟨u, v, e, hv, hg, _, _⟩ := frac_spec (p := p) h
  rw [e]; exact isFrac_form hv hg
theorem dNe_same {x : Str} {Q : D → Prop} (h : Q (.bool false)) : dNe (.str x) (.str x) Q := by
  show Q (.bool (!decide (x = x)))
  rw [decide_eq_true rfl]; exact h
theorem dEq_tup {xs : List D} {Q : D → Prop} (hs : SeqAt.shaped (.tuple xs) = true) (h : Q (.bool true)) : dEq (.tuple xs) (.tuple xs) Q := by
  refine ⟨hs, hs, ?_⟩
  have e : PyData.eqv (.tuple xs) (.tuple xs) = true := PySem.SeqAt.eqv_refl _ (lay_of hs)
  rw [e]; exact h
end PH
namespace PH
open PySem
theorem tames_bools : ∀ bs : List Bool, tames (bs.map PyData.bool)
  | [] => trivial
  | _ :: r => ⟨trivial, tames_bools r⟩
theorem bulk_bools : ∀ bs : List Bool, PyData.bulkAll (bs.map PyData.bool) = PyData.bulkAll (bs.map fun _ => PyData.bool true)
  | [] => rfl
  | b :: r => by simp only [List.map_cons, PyData.bulkAll, PyData.bulk, bulk_bools r]
theorem rOk_b5 {a b c d e : Bool} : rOk (.list [.bool a, .bool b, .bool c, .bool d, .bool e]) := by
  cases a <;> cases b <;> cases c <;> cases d <;> cases e <;> exact rOk_of ⟨trivial, trivial, trivial, trivial, trivial, trivial⟩ (by decide) (by decide) (by decide)
end PH
namespace PH
open PySem
theorem dNe_eq {x y : D} {Q : D → Prop} (e : x = y) (h : Q (.bool false)) : dNe (.str (PyData.shown x)) (.str (PyData.shown y)) Q := by
  subst e; exact dNe_same h
end PH

/-! Data that may be shown; the start of a law. -/
namespace PH
open PySem PySem.Spec L2
structure Ok1 (d : D) : Prop where
  tm : tame d
  bk : d.bulk ≤ 1000
  dp : d.depth ≤ 10
  hl : d.hasDict = true → noL d = true
mutual
def tameB : D → Bool
  | .int i => decide (i.natAbs < 2 ^ 900)
  | .str x => x.cps.toList.all fun c => decide (c < 16 ^ 8)
  | .list xs => tamesB xs
  | .tuple xs => tamesB xs
  | .dict kvs => kvs.isEmpty
  | _ => true
def tamesB : List D → Bool
  | [] => true
  | x :: xs => tameB x && tamesB xs
end
mutual
theorem tame_B : ∀ d : D, tameB d = true → tame d
  | .none, _ => trivial
  | .bool _, _ => trivial
  | .int i, h => by simpa [tameB, tame] using h
  | .str x, h => by simpa [tameB, tame] using h
  | .list xs, h => by
    have := tames_B xs (by simpa [tameB] using h)
    simpa [tame] using this
  | .tuple xs, h => by
    have := tames_B xs (by simpa [tameB] using h)
    simpa [tame] using this
  | .dict kvs, h => by simpa [tameB, tame] using h
theorem tames_B : ∀ ds : List D, tamesB ds = true → tames ds
  | [], _ => trivial
  | d :: ds, h => by
    have h' : tameB d = true ∧ tamesB ds = true := by simpa [tamesB] using h
    exact ⟨tame_B d h'.1, tames_B ds h'.2⟩
end
def okB (d : D) : Bool := tameB d && decide (d.bulk ≤ 1000) && decide (d.depth ≤ 10) && (!d.hasDict || noL d)
theorem okB_ok {d : D} (h : okB d = true) : Ok1 d := by
  simp only [okB, Bool.and_eq_true, decide_eq_true_eq, Bool.or_eq_true, Bool.not_eq_true'] at h
  exact ⟨tame_B d h.1.1.1, h.1.1.2, h.1.2, fun z => by rcases h.2 with y | y; · rw [y] at z; cases z
                                                       · exact y⟩
theorem okB_all {ds : List D} (h : ds.all okB = true) : ∀ d ∈ ds, Ok1 d := fun d hd => okB_ok (List.all_eq_true.mp h d hd)
theorem Ok1.r {d : D} (h : Ok1 d) : rOk d := rOk_of h.tm (by have := h.bk; omega) (by have := h.dp; omega) h.hl
theorem ok_int {i : Int} {k : Nat} [b : Bd k i] (h : k ≤ 900) : Ok1 (.int i) := ⟨(b.mono h).h, by simp [PyData.bulk], by simp [PyData.depth], by simp [PyData.hasDict]⟩
theorem rOk_t {ds : List D} (h : ∀ d ∈ ds, Ok1 d) (hn : ds.length ≤ 8) (hl : PyData.hasDictAll ds = true → noLs ds = true) : rOk (.tuple ds) := by
  have a : ∀ ds : List D, (∀ d ∈ ds, Ok1 d) → tames ds ∧ PyData.bulkAll ds ≤ 2000 * ds.length ∧ PyData.depthAll ds ≤ 10 := fun ds h => by
    induction ds with
    | nil => exact ⟨trivial, by simp [PyData.bulkAll], by simp [PyData.depthAll]⟩
    | cons x r ih =>
      obtain ⟨h1, h2, h3⟩ := ih fun d hd => h d (List.mem_cons_of_mem _ hd)
      have hx := h x List.mem_cons_self
      have := hx.bk
      have := hx.dp
      refine ⟨⟨hx.tm, h1⟩, ?_, ?_⟩
      · simp only [PyData.bulkAll, List.length_cons]; omega
      · simp only [PyData.depthAll]; omega
  obtain ⟨h1, h2, h3⟩ := a ds h
  refine rOk_of (by simpa [tame] using h1) (by simp only [PyData.bulk]; omega) (by simp only [PyData.depth]; omega) (fun z => ?_)
  simp only [PyData.hasDict] at z
  simpa [noL] using hl z
theorem rOk_io {p : Int} {o : D} {k : Nat} [Bd k p] (hk : k ≤ 900) (ho : Ok1 o) : rOk (.tuple [.int p, o]) :=
  rOk_t (by simp only [List.mem_cons, List.not_mem_nil, or_false]; rintro d (rfl | rfl); exact ok_int hk; exact ho) (show 2 ≤ 8 by decide) (fun z => by
    have z' : o.hasDict = true := by simpa [PyData.hasDictAll, PyData.hasDict] using z
    simpa [noLs, noL] using ho.hl z')
theorem rOk_oi {p : Int} {o : D} {k : Nat} [Bd k p] (hk : k ≤ 900) (ho : Ok1 o) : rOk (.tuple [o, .int p]) :=
  rOk_t (by simp only [List.mem_cons, List.not_mem_nil, or_false]; rintro d (rfl | rfl); exact ho; exact ok_int hk) (show 2 ≤ 8 by decide) (fun z => by
    have z' : o.hasDict = true := by simpa [PyData.hasDictAll, PyData.hasDict] using z
    simpa [noLs, noL] using ho.hl z')
theorem ok_bool {b : Bool} : Ok1 (.bool b) := ⟨trivial, by simp [PyData.bulk], by simp [PyData.depth], by simp [PyData.hasDict]⟩
theorem rOk_bool {b : Bool} : rOk (.bool b) := ok_bool.r
theorem rOk_lii {p q : Int} {j k : Nat} [a : Bd j p] [b : Bd k q] (hj : j ≤ 900) (hk : k ≤ 900) : rOk (.list [.int p, .int q]) :=
  rOk_of ⟨(a.mono hj).h, (b.mono hk).h, trivial⟩ (by simp [PyData.bulk, PyData.bulkAll]) (by simp [PyData.depth, PyData.depthAll]) (by simp [PyData.hasDict, PyData.hasDictAll])
theorem frac_scale {p q n : Int} (hq : q ≠ 0) (hn : n ≠ 0) : frac (p * n) (q * n) = frac p q := by
  obtain ⟨u, v, e, hv, hg, e1, e2⟩ := frac_spec (p := p) hq
  rw [e]
  have hx := (frac_cross hq e).1
  exact frac_eq (Int.mul_ne_zero hq hn) hv hg (by
    rw [Int.mul_assoc, Int.mul_comm n v, ← Int.mul_assoc, hx, Int.mul_assoc])
theorem tupLe_t {ds : List D} (h : ds.length ≤ 1000) : tupLe 1000 (.tuple ds) := h
/-- all but two objects is kept -/
def KpS (p c : Addr) (H H' : Hp) : Prop := ∀ a u, H a = some u → a ≠ p → a ≠ c → H' a = some u
theorem KpS.refl {p c : Addr} {H : Hp} : KpS p c H H := fun _ _ e _ _ => e
theorem KpS.p {p c : Addr} {H H' : Hp} {o : HO} (k : KpS p c H H') : KpS p c H (upd H' p o) := fun a u e h1 h2 => by rw [upd_ne h1]; exact k a u e h1 h2
theorem KpS.c {p c : Addr} {H H' : Hp} {o : HO} (k : KpS p c H H') : KpS p c H (upd H' c o) := fun a u e h1 h2 => by rw [upd_ne h2]; exact k a u e h1 h2
theorem KpS.keep {p c : Addr} {H H' : Hp} (k : KpS p c H H') : KeepS (some (p, c)) H H' := fun a u e n => .inl (k a u e (n p c rfl).1 (n p c rfl).2)
theorem KpS.tab {p c : Addr} {H H' : Hp} {xs : List V} {kvs : List (Key × V)} (k : KpS p c H H') (T : LamX.Tabs lamTabs H) (h1 : H c = some (.lst xs)) (h2 : H p = some (.dK kvs)) : LamX.Tabs lamTabs H' := fun q hq => by
  obtain ⟨ps, t1, t2, t3⟩ := T q hq
  have ne : ∀ {a b : Addr} {o u : HO}, H a = some o → H b = some u → o ≠ u → a ≠ b := fun e1 e2 n z => n (Option.some.inj (e1.symm.trans ((congrArg H z).trans e2)))
  refine ⟨ps, k _ _ t1 (ne t1 h2 (by intro z; cases z)) (ne t1 h1 (by intro z; cases z)), t2, fun pos cv hcv => ?_⟩
  obtain ⟨d, d1, d2⟩ := t3 pos cv hcv
  exact ⟨d, d1, k _ _ d2 (ne d2 h2 (by intro z; cases z)) (ne d2 h1 (by intro z; cases z))⟩
theorem ev_law {H : Hp} {p c : Addr} {ns : List Int} {l m t : Int} (v : V) (n : Nat) (hT : LamX.Tabs lamTabs H) (hpc : p ≠ c) (hc : H c = some (.lst (ns.map V.int))) (hp : H p = some (.dK (srcKvs c l m t))) :
    Ev (some (p, c)) (fun z => z = p ∨ z = c) H H (some v :: some (.ref p) :: List.replicate n none) (.emp :: .val SRC :: List.replicate n .emp) where
  len := by simp
  sl := by
    intro i o s h1 h2
    match i with
    | 0 => simp at h1 h2; subst h1; subst h2; trivial
    | 1 => simp at h1 h2; subst h1; subst h2; exact ⟨_, rfl, .src rfl⟩
    | i + 2 =>
      simp only [List.getElem?_cons_succ, List.getElem?_replicate] at h1 h2
      split at h2
      · cases h2; trivial
      · cases h2
  uni := by
    intro i j a ds es h1 h2
    match i with
    | 0 => simp at h1
    | 1 => simp at h1
    | i + 2 =>
      simp only [List.getElem?_cons_succ, List.getElem?_replicate] at h1
      split at h1 <;> cases h1
  new := by
    intro a ds h
    simp [List.mem_replicate] at h
  src := ⟨by
    intro p' c' e
    cases e
    exact ⟨.inl rfl, .inr rfl, hpc, ns, l, m, t, hc, hp⟩, hT⟩
  src0 := by
    intro p' c' e
    cases e
    exact ⟨by rw [hp]; simp, by rw [hc]; simp⟩
  keep := .refl
  mt := by
    rintro a (rfl | rfl)
    · rw [hp]; simp
    · rw [hc]; simp
  mt0 := by
    rintro a (rfl | rfl)
    · rw [hp]; simp
    · rw [hc]; simp
end PH
namespace PH
open PySem PySem.Spec L2
theorem dIfE_k {t : DT} {m n : DE} {σd : DSt} {K : D → Prop} (c : Bool) (P : D → Prop) (ht : ∀ R : Bool → Prop, R c → t σd R) (hm : c = true → ∀ R : D → Prop, (∀ d, P d → R d) → m σd R) (hn : c = false → ∀ R : D → Prop, (∀ d, P d → R d) → n σd R) (h : ∀ d, P d → K d) : dIfE t m n σd K :=
  ht _ (by cases c with
    | true => exact iteT (hm rfl K h)
    | false => exact iteF (hn rfl K h))
theorem spFrac_c {p q : Int} {a b : Nat} (ha : Bd a p) (hb : Bd b q) (hq : q ≠ 0) (h1 : a ≤ 8000) (h2 : b ≤ 8000) {z : D} (e : frac p q = z) {Qd : D → Prop} (h : Qd z) : spFrac [.int p, .int q] Qd :=
  ⟨p, q, a, b, rfl, hq, ha, hb, by omega, by omega, e ▸ h⟩
end PH
namespace PH
open PySem PySem.Spec L2
def tupB : D → Bool
  | .tuple xs => decide (xs.length ≤ 1000)
  | _ => true
theorem tupB_ok {d : D} (h : tupB d = true) : tupLe 1000 d := by
  cases d with
  | tuple xs => exact (show xs.length ≤ 1000 from of_decide_eq_true h)
  | _ => trivial
theorem rOk_ii {p q : Int} {j k : Nat} [a : Bd j p] [b : Bd k q] (hj : j ≤ 900) (hk : k ≤ 900) : rOk (.tuple [.int p, .int q]) := rOk_io hj (ok_int hk)
theorem oddPart_ok : ∀ o ∈ oddPart, Ok1 o := okB_all (by decide +kernel)
theorem oddAll_ok : ∀ o ∈ oddAll, Ok1 o ∧ tupLe 1000 o := fun o h => ⟨okB_all (by decide +kernel) o h, tupB_ok (List.all_eq_true.mp (show oddAll.all tupB = true by decide +kernel) o h)⟩
end PH

/-! Places in their form. -/
namespace PH
open PySem PySem.Spec L2
def qz (s : DSpX) : DSp := fun ds Q => s ds Q fun _ => False
def g3 (x y d : Int) : Nat := Nat.gcd (Nat.gcd x.natAbs y.natAbs) d.natAbs
/-- the number by which a place is cut down -/
def gs3 (x y d : Int) : Int := if d < 0 then -(g3 x y d : Int) else (g3 x y d : Int)
def plc (x y d : Int) : D := .tuple [.int (x.fdiv (gs3 x y d)), .int (y.fdiv (gs3 x y d)), .int (d.fdiv (gs3 x y d))]
theorem g3_pos {x y d : Int} (h : d ≠ 0) : 0 < g3 x y d := Nat.gcd_pos_of_pos_right _ (Int.natAbs_pos.mpr h)
theorem g3_x (x y d : Int) : g3 x y d ∣ x.natAbs := Nat.dvd_trans (Nat.gcd_dvd_left _ _) (Nat.gcd_dvd_left _ _)
theorem g3_y (x y d : Int) : g3 x y d ∣ y.natAbs := Nat.dvd_trans (Nat.gcd_dvd_left _ _) (Nat.gcd_dvd_right _ _)
theorem g3_d (x y d : Int) : g3 x y d ∣ d.natAbs := Nat.gcd_dvd_right _ _
theorem gs3_abs (x y d : Int) : (gs3 x y d).natAbs = g3 x y d := by unfold gs3; split <;> omega
theorem gs3_ne {x y d : Int} (h : d ≠ 0) : gs3 x y d ≠ 0 := by
  have := g3_pos (x := x) (y := y) h
  have := gs3_abs x y d
  omega
theorem gs3_x (x y d : Int) : gs3 x y d ∣ x := Int.natAbs_dvd_natAbs.mp (by rw [gs3_abs]; exact g3_x x y d)
theorem gs3_y (x y d : Int) : gs3 x y d ∣ y := Int.natAbs_dvd_natAbs.mp (by rw [gs3_abs]; exact g3_y x y d)
theorem gs3_d (x y d : Int) : gs3 x y d ∣ d := Int.natAbs_dvd_natAbs.mp (by rw [gs3_abs]; exact g3_d x y d)
theorem g3_mul (x y d n : Int) : g3 (x * n) (y * n) (d * n) = g3 x y d * n.natAbs := by
  unfold g3
  rw [Int.natAbs_mul, Int.natAbs_mul, Int.natAbs_mul, Nat.gcd_mul_right, Nat.gcd_mul_right]
theorem gs3_mul {x y d n : Int} (hd : d ≠ 0) (hn : n ≠ 0) : gs3 (x * n) (y * n) (d * n) = gs3 x y d * n := by
  unfold gs3
  rw [g3_mul]
  rcases Int.lt_or_gt_of_ne hd with h | h <;> rcases Int.lt_or_gt_of_ne hn with h' | h'
  · have : 0 < d * n := Int.mul_pos_of_neg_of_neg h h'
    rw [if_neg (by omega), if_pos h, Int.natCast_mul, show (n.natAbs : Int) = -n by omega, Int.mul_neg, Int.neg_mul]
  · have : d * n < 0 := Int.mul_neg_of_neg_of_pos h h'
    rw [if_pos this, if_pos h, Int.natCast_mul, show (n.natAbs : Int) = n by omega, Int.neg_mul]
  · have : d * n < 0 := Int.mul_neg_of_pos_of_neg h h'
    rw [if_pos this, if_neg (by omega), Int.natCast_mul, show (n.natAbs : Int) = -n by omega, Int.mul_neg, Int.neg_neg]
  · have : 0 < d * n := Int.mul_pos h h'
    rw [if_neg (by omega), if_neg (by omega), Int.natCast_mul, show (n.natAbs : Int) = n by omega]
theorem fdiv_scale {x g n : Int} (hg : g ≠ 0) (hn : n ≠ 0) (h : g ∣ x) : (x * n).fdiv (g * n) = x.fdiv g := by
  obtain ⟨u, rfl⟩ := h
  rw [show g * u * n = u * (g * n) by rw [Int.mul_comm g u, Int.mul_assoc], Int.mul_fdiv_cancel _ (Int.mul_ne_zero hg hn), Int.mul_comm g u, Int.mul_fdiv_cancel _ hg]
theorem plc_scale {x y d n : Int} (hd : d ≠ 0) (hn : n ≠ 0) : plc (x * n) (y * n) (d * n) = plc x y d := by
  have g0 := gs3_ne (x := x) (y := y) hd
  unfold plc
  rw [gs3_mul hd hn, fdiv_scale g0 hn (gs3_x x y d), fdiv_scale g0 hn (gs3_y x y d), fdiv_scale g0 hn (gs3_d x y d)]
def isPlace (d : D) : Bool := areNum d 3 && (match d with
  | .tuple [.int p, .int q, .int r] => decide (0 < r) && decide (g3 p q r = 1)
  | _ => false)
theorem plc_form {x y d : Int} (h : d ≠ 0) : isPlace (plc x y d) = true := by
  have g0 := gs3_ne (x := x) (y := y) h
  obtain ⟨u, hu⟩ := gs3_x x y d
  obtain ⟨v, hv⟩ := gs3_y x y d
  obtain ⟨r, hr⟩ := gs3_d x y d
  have e : plc x y d = .tuple [.int u, .int v, .int r] := by
    unfold plc
    have a1 : x.fdiv (gs3 x y d) = u := by conv => lhs; arg 1; rw [hu, Int.mul_comm]
                                           exact Int.mul_fdiv_cancel _ g0
    have a2 : y.fdiv (gs3 x y d) = v := by conv => lhs; arg 1; rw [hv, Int.mul_comm]
                                           exact Int.mul_fdiv_cancel _ g0
    have a3 : d.fdiv (gs3 x y d) = r := by conv => lhs; arg 1; rw [hr, Int.mul_comm]
                                           exact Int.mul_fdiv_cancel _ g0
    rw [a1, a2, a3]
  rw [e]
  have hrp : 0 < r := by
    have hp := g3_pos (x := x) (y := y) h
    by_cases hn : d < 0
    · have eg : gs3 x y d = -(g3 x y d : Int) := by unfold gs3; rw [if_pos hn]
      rw [eg] at hr
      by_cases h0 : 0 < r
      · exact h0
      · have : 0 ≤ -(g3 x y d : Int) * r := Int.mul_nonneg_of_nonpos_of_nonpos (by omega) (by omega)
        omega
    · have eg : gs3 x y d = (g3 x y d : Int) := by unfold gs3; rw [if_neg hn]
      rw [eg] at hr
      by_cases h0 : 0 < r
      · exact h0
      · have : (g3 x y d : Int) * r ≤ 0 := Int.mul_nonpos_of_nonneg_of_nonpos (by omega) (by omega)
        omega
  have hg : g3 u v r = 1 := by
    have m := g3_mul u v r (gs3 x y d)
    rw [Int.mul_comm u, Int.mul_comm v, Int.mul_comm r, ← hu, ← hv, ← hr, gs3_abs] at m
    have hp := g3_pos (x := x) (y := y) h
    have : 1 * g3 x y d = g3 u v r * g3 x y d := by rw [Nat.one_mul]; exact m
    exact (Nat.eq_of_mul_eq_mul_right hp this).symm
  simp [isPlace, areNum, isNum, hrp, hg]
def spIsPlace : DSp := fun ds Q => ∃ d, ds = [d] ∧ tupLe 1000 d ∧ Q (.bool (isPlace d))
/-- three integers in, a place out -/
def spPlc : DSp := fun ds Q => ∃ (x y d : Int) (a : Nat), ds = [.int x, .int y, .int d] ∧ d ≠ 0 ∧ Bd a x ∧ Bd a y ∧ Bd a d ∧ a ≤ 8000 ∧ Q (plc x y d)
def spPlace : DSpX := fun ds Q Ed => spPlc ds Q ∨ ((∃ x y d, ds = [x, y, d] ∧ (areNum (.tuple [x, y, d]) 3 = false ∨ d = .int 0)) ∧ Ed "BadPlace")
end PH
namespace PH
open PySem PySem.Spec L2
/-- what place answers, or that it refuses -/
def spTold : DSp := fun ds Q => (spPlc ds Q) ∨ ((∃ x y d, ds = [x, y, d] ∧ (areNum (.tuple [x, y, d]) 3 = false ∨ d = .int 0)) ∧ Q (.tuple [.str "none"]))
end PH
namespace PH
open PySem PySem.Spec L2
theorem gs3_bd {x y d : Int} {a : Nat} (h : d ≠ 0) (hb : Bd a d) : Bd a (gs3 x y d) := ⟨by
  rw [gs3_abs]
  exact Nat.lt_of_le_of_lt (Nat.le_of_dvd (by omega) (g3_d x y d)) hb.h⟩
theorem areNum3 {d : D} : areNum d 3 = true ↔ ∃ p q r, d = .tuple [.int p, .int q, .int r] := by
  constructor
  · intro h
    cases d with
    | tuple xs =>
      simp only [areNum, Bool.and_eq_true, decide_eq_true_eq, List.all_eq_true] at h
      obtain ⟨h1, h2⟩ := h
      match xs, h1, h2 with
      | [a, b, c], _, h2 =>
        obtain ⟨i, rfl⟩ := isNum_iff.mp (h2 a (by simp))
        obtain ⟨j, rfl⟩ := isNum_iff.mp (h2 b (by simp))
        obtain ⟨k, rfl⟩ := isNum_iff.mp (h2 c (by simp))
        exact ⟨i, j, k, rfl⟩
      | [], h1, _ => exact absurd h1 (by decide)
      | [_], h1, _ => exact absurd h1 (by simp)
      | [_, _], h1, _ => exact absurd h1 (by simp)
      | _ :: _ :: _ :: _ :: _, h1, _ => exact absurd h1 (by simp only [List.length_cons]; omega)
    | _ => simp [areNum] at h
  · rintro ⟨p, q, r, rfl⟩
    simp [areNum, isNum]
theorem isPlace_g {p q r : Int} (hr : 0 < r) : isPlace (.tuple [.int p, .int q, .int r]) = decide ((g3 p q r : Int) = 1) := by
  have ha : areNum (.tuple [.int p, .int q, .int r]) 3 = true := areNum3.mpr ⟨p, q, r, rfl⟩
  rw [isPlace, ha, Bool.true_and]
  show (decide (0 < r) && decide (g3 p q r = 1)) = _
  rw [decide_eq_true hr, Bool.true_and]
  exact decide_eq_decide.mpr (by omega)
theorem isPlace_n {p q r : Int} (hr : ¬ 0 < r) : isPlace (.tuple [.int p, .int q, .int r]) = false := by simp [isPlace, hr]
theorem isPlace_0 {d : D} (h : areNum d 3 = false) : isPlace d = false := by simp [isPlace, h]
end PH
namespace PH
open PySem PySem.Spec L2
theorem dEq_same {x y : D} {Q : D → Prop} (e : x = y) (hs : SeqAt.shaped x = true) (h : Q (.bool true)) : dEq x y Q := by
  subst e
  unfold dEq
  split
  · rename_i h2; rw [decide_eq_true rfl]; exact h
  · rename_i h2; rw [decide_eq_true rfl]; exact h
  · exact h
  · refine ⟨hs, hs, ?_⟩
    have e : PyData.eqv x x = true := PySem.SeqAt.eqv_refl _ (lay_of hs)
    rw [e]; exact h
theorem oddPart_no : ∀ o ∈ oddPart, isNum o = false := fun o h => by
  have := List.all_eq_true.mp (show (oddPart.all fun o => !isNum o) = true by decide +kernel) o h
  simpa using this
def spRef : DSp := fun ds Q => (∃ x y d : Int, ds = [SRC, .int x, .int y, .int d]) ∧ Q (.bool true)
theorem spTold_no {x y d : D} {Q : D → Prop} (h : areNum (.tuple [x, y, d]) 3 = false ∨ d = .int 0) (q : Q (.tuple [.str "none"])) : spTold [x, y, d] Q := .inr ⟨⟨x, y, d, rfl, h⟩, q⟩
theorem spPlc_c {x y d : Int} {a : Nat} (hx : Bd a x) (hy : Bd a y) (hd2 : Bd a d) (hd : d ≠ 0) (ha : a ≤ 8000) {z : D} (e : plc x y d = z) {Q : D → Prop} (h : Q z) : spPlc [.int x, .int y, .int d] Q := ⟨x, y, d, a, rfl, hd, hx, hy, hd2, ha, e ▸ h⟩
theorem tame_plc {x y d : Int} {a : Nat} [Bd a x] [Bd a y] [Bd a d] (ha : a ≤ 900) : tame (plc x y d) := by
  unfold plc
  simp only [tame, tames]
  have x1 : Bd a (x.fdiv (gs3 x y d)) := bd_fdiv
  have x2 : Bd a (y.fdiv (gs3 x y d)) := bd_fdiv
  have x3 : Bd a (d.fdiv (gs3 x y d)) := bd_fdiv
  exact ⟨(x1.mono ha).h, (x2.mono ha).h, (x3.mono ha).h, trivial⟩
end PH

/-! Rows of data that may be shown. -/
namespace PH
open PySem PySem.Spec L2
def OkN (d : D) : Prop := Ok1 d ∧ d.hasDict = false
def OkNs (ds : List D) : Prop := ∀ d ∈ ds, OkN d
theorem okN_i {i : Int} {k : Nat} (b : Bd k i) (h : k ≤ 900) : OkN (.int i) := ⟨ok_int (b := b) h, by simp [PyData.hasDict]⟩
theorem okN_b {b : Bool} : OkN (.bool b) := ⟨ok_bool, by simp [PyData.hasDict]⟩
theorem okNs_nil : OkNs [] := fun _ h => nomatch h
theorem OkN.c {d : D} {ds : List D} (h : OkN d) (h' : OkNs ds) : OkNs (d :: ds) := List.forall_mem_cons.mpr ⟨h, h'⟩
theorem hasDicts0 : ∀ {ds : List D}, OkNs ds → PyData.hasDictAll ds = false
  | [], _ => by simp [PyData.hasDictAll]
  | d :: ds, h => by simp [PyData.hasDictAll, (h d (by simp)).2, hasDicts0 (ds := ds) fun x hx => h x (by simp [hx])]
theorem OkNs.t {ds : List D} (h : OkNs ds) (hn : ds.length ≤ 8) : rOk (.tuple ds) := rOk_t (fun d hd => (h d hd).1) hn (fun z => by rw [hasDicts0 h] at z; cases z)
theorem OkNs.l {ds : List D} (h : OkNs ds) (hn : ds.length ≤ 8) : rOk (.list ds) := by
  have a : ∀ ds : List D, OkNs ds → tames ds ∧ PyData.bulkAll ds ≤ 2000 * ds.length ∧ PyData.depthAll ds ≤ 10 := fun ds h => by
    induction ds with
    | nil => exact ⟨trivial, by simp [PyData.bulkAll], by simp [PyData.depthAll]⟩
    | cons x r ih =>
      obtain ⟨h1, h2, h3⟩ := ih fun d hd => h d (List.mem_cons_of_mem _ hd)
      have hx := (h x List.mem_cons_self).1
      have := hx.bk
      have := hx.dp
      refine ⟨⟨hx.tm, h1⟩, ?_, ?_⟩
      · simp only [PyData.bulkAll, List.length_cons]; omega
      · simp only [PyData.depthAll]; omega
  obtain ⟨h1, h2, h3⟩ := a ds h
  refine rOk_of (by simpa [tame] using h1) (by simp only [PyData.bulk]; omega) (by simp only [PyData.depth]; omega) (fun z => ?_)
  simp only [PyData.hasDict] at z
  rw [hasDicts0 h] at z; cases z
theorem rOk_o3 {a b : Int} {j k : Nat} {o : D} (ha : Bd j a) (hb : Bd k b) (hj : j ≤ 900) (hk : k ≤ 900) (ho : Ok1 o) : rOk (.tuple [.int a, .int b, o]) ∧ rOk (.tuple [o, .int a, .int b]) ∧ rOk (.tuple [.int a, o, .int b]) := by
  have oa : Ok1 (.int a) := ok_int (b := ha) hj
  have ob : Ok1 (.int b) := ok_int (b := hb) hk
  refine ⟨rOk_t ?_ (show 3 ≤ 8 by decide) ?_, rOk_t ?_ (show 3 ≤ 8 by decide) ?_, rOk_t ?_ (show 3 ≤ 8 by decide) ?_⟩
  · simp only [List.mem_cons, List.not_mem_nil, or_false]; rintro d (rfl | rfl | rfl) <;> assumption
  · intro z
    have z' : o.hasDict = true := by simpa [PyData.hasDictAll, PyData.hasDict] using z
    simpa [noLs, noL] using ho.hl z'
  · simp only [List.mem_cons, List.not_mem_nil, or_false]; rintro d (rfl | rfl | rfl) <;> assumption
  · intro z
    have z' : o.hasDict = true := by simpa [PyData.hasDictAll, PyData.hasDict] using z
    simpa [noLs, noL] using ho.hl z'
  · simp only [List.mem_cons, List.not_mem_nil, or_false]; rintro d (rfl | rfl | rfl) <;> assumption
  · intro z
    have z' : o.hasDict = true := by simpa [PyData.hasDictAll, PyData.hasDict] using z
    simpa [noLs, noL] using ho.hl z'
theorem bdz (k : Nat) {i : Int} (h : i.natAbs < 2 ^ k) : Bd k i := ⟨h⟩
end PH

/-! Directions in their form. -/
namespace PH
open PySem PySem.Spec L2
def dirv (a b : Int) : D := .tuple [.int (a.fdiv (Int.gcd a b)), .int (b.fdiv (Int.gcd a b))]
theorem g2_pos {a b : Int} (h : ¬ (a = 0 ∧ b = 0)) : 0 < Int.gcd a b := by
  rcases Nat.eq_zero_or_pos (Int.gcd a b) with z | z
  · exact absurd (Int.gcd_eq_zero_iff.mp z) h
  · exact z
theorem dirv_spec {a b : Int} (h : ¬ (a = 0 ∧ b = 0)) : ∃ u v : Int, dirv a b = .tuple [.int u, .int v] ∧ Int.gcd u v = 1 ∧ a = u * Int.gcd a b ∧ b = v * Int.gcd a b := by
  have g0 := g2_pos h
  obtain ⟨u, hu⟩ := Int.gcd_dvd_left (a := a) (b := b)
  obtain ⟨v, hv⟩ := Int.gcd_dvd_right (a := a) (b := b)
  have gne : (Int.gcd a b : Int) ≠ 0 := by omega
  have a1 : a.fdiv (Int.gcd a b) = u := by
    conv => lhs; arg 1; rw [hu, Int.mul_comm]
    exact Int.mul_fdiv_cancel _ gne
  have a2 : b.fdiv (Int.gcd a b) = v := by
    conv => lhs; arg 1; rw [hv, Int.mul_comm]
    exact Int.mul_fdiv_cancel _ gne
  refine ⟨u, v, by unfold dirv; rw [a1, a2], ?_, by rw [Int.mul_comm]; exact hu, by rw [Int.mul_comm]; exact hv⟩
  have m := Int.gcd_mul_left (Int.gcd a b) u v
  rw [← hu, ← hv] at m
  have e : (Int.gcd a b : Int).natAbs = Int.gcd a b := rfl
  rw [e] at m
  have : Int.gcd a b * 1 = Int.gcd a b * Int.gcd u v := by rw [Nat.mul_one]; exact m
  exact (Nat.eq_of_mul_eq_mul_left g0 this).symm
theorem dirv_scale {a b n : Int} (h : ¬ (a = 0 ∧ b = 0)) (hn : 0 < n) : dirv (a * n) (b * n) = dirv a b := by
  have g0 := g2_pos h
  have gne : (Int.gcd a b : Int) ≠ 0 := by omega
  unfold dirv
  have e : (Int.gcd (a * n) (b * n) : Int) = Int.gcd a b * n := by rw [Int.gcd_mul_right, Int.natCast_mul, Int.natAbs_of_nonneg (by omega)]
  rw [e, fdiv_scale gne (by omega) (Int.gcd_dvd_left ..), fdiv_scale gne (by omega) (Int.gcd_dvd_right ..)]
def isDir (d : D) : Bool := areNum d 2 && (match d with
  | .tuple [.int p, .int q] => decide (Int.gcd p q = 1)
  | _ => false)
theorem isDir_2 {p q : Int} : isDir (.tuple [.int p, .int q]) = decide ((Int.gcd p q : Int) = 1) := by
  have ha : areNum (.tuple [.int p, .int q]) 2 = true := areNum2.mpr ⟨p, q, rfl⟩
  rw [isDir, ha, Bool.true_and]
  exact decide_eq_decide.mpr (by omega)
theorem isDir_0 {d : D} (h : areNum d 2 = false) : isDir d = false := by simp [isDir, h]
def spIsDir : DSp := fun ds Q => ∃ d, ds = [d] ∧ tupLe 1000 d ∧ Q (.bool (isDir d))
def spDir : DSp := fun ds Q => ∃ (a b : Int) (k : Nat), ds = [.int a, .int b] ∧ ¬ (a = 0 ∧ b = 0) ∧ Bd k a ∧ Bd k b ∧ k ≤ 8000 ∧ Q (dirv a b)
def badDir (ds : List D) : Prop := ∃ x y, ds = [x, y] ∧ (areNum (.tuple [x, y]) 2 = false ∨ (x = .int 0 ∧ y = .int 0))
def spDirection : DSpX := fun ds Q Ed => spDir ds Q ∨ (badDir ds ∧ Ed "BadDirection")
def spToldD : DSp := fun ds Q => spDir ds Q ∨ (badDir ds ∧ Q (.tuple [.str "none"]))
/-- a pair of integers in -/
def spPair1 (f : Int → Int → D) : DSp := fun ds Q => ∃ p q : Int, ds = [.tuple [.int p, .int q]] ∧ Q (f p q)
/-- two places in, told by f -/
def spPl2 (ok : Int → Int → Int → Int → Int → Int → Prop) (f : Int → Int → Int → Int → Int → Int → D) : DSp := fun ds Q => ∃ (a b c d e g : Int) (k : Nat), ds = [.tuple [.int a, .int b, .int c], .tuple [.int d, .int e, .int g]] ∧ ok a b c d e g ∧
  Bd k a ∧ Bd k b ∧ Bd k c ∧ Bd k d ∧ Bd k e ∧ Bd k g ∧ k ≤ 1000 ∧ Q (f a b c d e g)
def stepX (a c d g : Int) : Int := d * c - a * g
end PH
namespace PH
open PySem PySem.Spec L2
theorem plc_spec {x y d : Int} (h : d ≠ 0) : ∃ u v r : Int, plc x y d = .tuple [.int u, .int v, .int r] ∧ 0 < r ∧ g3 u v r = 1 ∧ u.natAbs ≤ x.natAbs ∧ v.natAbs ≤ y.natAbs ∧ r.natAbs ≤ d.natAbs := by
  have g0 := gs3_ne (x := x) (y := y) h
  obtain ⟨u, hu⟩ := gs3_x x y d
  obtain ⟨v, hv⟩ := gs3_y x y d
  obtain ⟨r, hr⟩ := gs3_d x y d
  have f := plc_form (x := x) (y := y) h
  have e : plc x y d = .tuple [.int u, .int v, .int r] := by
    unfold plc
    have a1 : x.fdiv (gs3 x y d) = u := by conv => lhs; arg 1; rw [hu, Int.mul_comm]
                                           exact Int.mul_fdiv_cancel _ g0
    have a2 : y.fdiv (gs3 x y d) = v := by conv => lhs; arg 1; rw [hv, Int.mul_comm]
                                           exact Int.mul_fdiv_cancel _ g0
    have a3 : d.fdiv (gs3 x y d) = r := by conv => lhs; arg 1; rw [hr, Int.mul_comm]
                                           exact Int.mul_fdiv_cancel _ g0
    rw [a1, a2, a3]
  rw [e] at f
  have hf : 0 < r ∧ g3 u v r = 1 := by
    by_cases hr0 : 0 < r
    · rw [isPlace_g hr0] at f
      exact ⟨hr0, by have := of_decide_eq_true f; omega⟩
    · rw [isPlace_n hr0] at f; cases f
  have le : ∀ {a b : Int}, a = gs3 x y d * b → b.natAbs ≤ a.natAbs := fun {a b} z => by
    rw [z, Int.natAbs_mul]
    exact Nat.le_mul_of_pos_left _ (by omega)
  exact ⟨u, v, r, e, hf.1, hf.2, le hu, le hv, le hr⟩
def spDrawPlace : DSp := fun ds Q => ∃ w : Int, ds = [SRC, .int w] ∧ 0 ≤ w ∧ w ≤ 1000000 ∧ ∀ x y d : Int, x.natAbs ≤ 3 * w.natAbs → y.natAbs ≤ 3 * w.natAbs → 0 < d → d ≤ 3 → g3 x y d = 1 → Q (.tuple [.int x, .int y, .int d])
theorem sh_ii {p q : Int} : SeqAt.shaped (.tuple [.int p, .int q]) = true := by simp [SeqAt.shaped, PyData.canLay0, PyData.canLayAll0, PyData.depth, PyData.depthAll]
theorem sh_iii {p q r : Int} : SeqAt.shaped (.tuple [.int p, .int q, .int r]) = true := by simp [SeqAt.shaped, PyData.canLay0, PyData.canLayAll0, PyData.depth, PyData.depthAll]
theorem dNe_ii {p q r s : Int} {Q : D → Prop} (h : Q (.bool (!(decide (p = r) && decide (q = s))))) : dNe (.tuple [.int p, .int q]) (.tuple [.int r, .int s]) Q := by
  refine ⟨sh_ii, sh_ii, ?_⟩
  have e : PyData.eqv (.tuple [.int p, .int q]) (.tuple [.int r, .int s]) = (decide (p = r) && decide (q = s)) := by
    simp only [PyData.eqv, PyData.eqvAll, Bool.and_true]; rfl
  rw [e]; exact h
theorem dNe_iii {p q r s t u : Int} {Q : D → Prop} (h : Q (.bool (!(decide (p = s) && (decide (q = t) && decide (r = u)))))) : dNe (.tuple [.int p, .int q, .int r]) (.tuple [.int s, .int t, .int u]) Q := by
  refine ⟨sh_iii, sh_iii, ?_⟩
  have e : PyData.eqv (.tuple [.int p, .int q, .int r]) (.tuple [.int s, .int t, .int u]) = (decide (p = s) && (decide (q = t) && decide (r = u))) := by
    simp only [PyData.eqv, PyData.eqvAll, Bool.and_true]; rfl
  rw [e]; exact h
/-- places in their form that are alike across are alike -/
theorem place_uniq {x y d a b e : Int} (hd : 0 < d) (he : 0 < e) (g1 : g3 x y d = 1) (g2 : g3 a b e = 1) (h1 : x * e = a * d) (h2 : y * e = b * d) : x = a ∧ y = b ∧ d = e := by
  have key : ∀ {x y d a b e : Int}, 0 < d → 0 < e → g3 x y d = 1 → x * e = a * d → y * e = b * d → d.natAbs ∣ e.natAbs := fun {x y d a b e} hd he g1 h1 h2 => by
    have m := g3_mul x y d e
    rw [g1, Nat.one_mul] at m
    rw [← m]
    unfold g3
    refine Nat.dvd_gcd (Nat.dvd_gcd ?_ ?_) ?_
    · rw [h1, Int.natAbs_mul]; exact Nat.dvd_mul_left _ _
    · rw [h2, Int.natAbs_mul]; exact Nat.dvd_mul_left _ _
    · rw [Int.natAbs_mul]; exact Nat.dvd_mul_right _ _
  have e1 : d = e := by
    have := Nat.dvd_antisymm (key hd he g1 h1 h2) (key he hd g2 h1.symm h2.symm)
    omega
  subst e1
  exact ⟨Int.eq_of_mul_eq_mul_right (by omega) h1, Int.eq_of_mul_eq_mul_right (by omega) h2, rfl⟩
end PH

/-! For bodies taken statement by statement. -/
namespace PH
open PySem PySem.Spec L2
theorem dNe_eqs {x y : D} {Q : D → Prop} (e : x = y) (hs : SeqAt.shaped x = true) (h : Q (.bool false)) : dNe x y Q := by
  subst e
  unfold dNe
  split
  · rw [decide_eq_true rfl]; exact h
  · rw [decide_eq_true rfl]; exact h
  · refine ⟨hs, hs, ?_⟩
    have e : PyData.eqv x x = true := PySem.SeqAt.eqv_refl _ (lay_of hs)
    rw [e]; exact h
theorem okN_dirv {a b : Int} {k : Nat} (ha : Bd k a) (hb : Bd k b) (hk : k ≤ 900) : OkN (dirv a b) := by
  have x1 : Bd k (a.fdiv (Int.gcd a b)) := bd_fdiv
  have x2 : Bd k (b.fdiv (Int.gcd a b)) := bd_fdiv
  exact ⟨⟨⟨(x1.mono hk).h, (x2.mono hk).h, trivial⟩, by simp [dirv, PyData.bulk, PyData.bulkAll], by simp [dirv, PyData.depth, PyData.depthAll], by simp [dirv, PyData.hasDict, PyData.hasDictAll]⟩, by simp [dirv, PyData.hasDict, PyData.hasDictAll]⟩
theorem okN_none : OkN (.tuple [.str "none"]) := ⟨okB_ok (by decide +kernel), by simp [PyData.hasDict, PyData.hasDictAll]⟩
theorem dFor_e {mi : DA} {g : DG} {mb rest : DS} {Dd : DEnds} {σd : DSt} (Y : D → Prop) (W : DSt → Prop) (hi : ∀ R : List D → Prop, (∀ ys : List D, (∀ y ∈ ys, Y y) → R ys) → mi σd R) (h0 : W σd)
    (ht : ∀ y, Y y → ∀ σ', W σ' → g y σ' fun σ2 => mb { Dd with nx := W, ct := W, bk := rest Dd } σ2) (hr : ∀ σ', W σ' → rest Dd σ') : dSeq (dFor mi g mb) rest Dd σd :=
  hi _ fun ys hy => ⟨fun _ => W, h0, fun _ y σ' e w => ht y (hy y (List.mem_of_getElem? e)) σ' w, hr⟩
theorem spToldD_no {x y : D} {Q : D → Prop} (h : areNum (.tuple [x, y]) 2 = false ∨ (x = .int 0 ∧ y = .int 0)) (q : Q (.tuple [.str "none"])) : spToldD [x, y] Q := .inr ⟨⟨x, y, rfl, h⟩, q⟩
end PH
namespace PH
open PySem PySem.Spec L2
def IsPl (v : D) : Prop := ∃ x y d : Int, v = .tuple [.int x, .int y, .int d] ∧ 0 < d ∧ g3 x y d = 1 ∧ x.natAbs ≤ 10 ^ 9 ∧ y.natAbs ≤ 10 ^ 9 ∧ d ≤ 10 ^ 9
theorem ne_none {u v : Int} {Q : D → Prop} (h : Q (.bool true)) : dNe (.tuple [.int u, .int v]) (.tuple [.str "none"]) Q := by
  refine ⟨sh_ii, by decide +kernel, ?_⟩
  have e : PyData.eqv (.tuple [.int u, .int v]) (.tuple [.str "none"]) = false := by simp [PyData.eqv, PyData.eqvAll]
  rw [e]; exact h
theorem stepX_rev {a c d g : Int} : stepX d g a c = -stepX a c d g := by unfold stepX; omega
theorem step_ne {x y d a b e : Int} (hd : 0 < d) (he : 0 < e) (g1 : g3 x y d = 1) (g2 : g3 a b e = 1) (h : ¬ (x = a ∧ (y = b ∧ d = e))) : ¬ (stepX x d a e = 0 ∧ stepX y d b e = 0) := by
  rintro ⟨z1, z2⟩
  unfold stepX at z1 z2
  have := place_uniq hd he g1 g2 (by omega) (by omega)
  exact h ⟨this.1, this.2.1, this.2.2⟩
end PH
namespace PH
open PySem PySem.Spec L2
theorem okN_p {u v : Int} {k : Nat} (a : Bd k u) (b : Bd k v) (h : k ≤ 900) : OkN (.tuple [.int u, .int v]) :=
  ⟨⟨⟨(a.mono h).h, (b.mono h).h, trivial⟩, by simp [PyData.bulk, PyData.bulkAll], by simp [PyData.depth, PyData.depthAll], by simp [PyData.hasDict, PyData.hasDictAll]⟩, by simp [PyData.hasDict, PyData.hasDictAll]⟩
end PH

/-! Places reckoned. -/
namespace PH
open PySem PySem.Spec L2
theorem plc_parts {x y d : Int} (h : d ≠ 0) : ∃ u v w : Int, plc x y d = .tuple [.int u, .int v, .int w] ∧ 0 < w ∧ g3 u v w = 1 ∧ x = gs3 x y d * u ∧ y = gs3 x y d * v ∧ d = gs3 x y d * w := by
  have g0 := gs3_ne (x := x) (y := y) h
  obtain ⟨u, hu⟩ := gs3_x x y d
  obtain ⟨v, hv⟩ := gs3_y x y d
  obtain ⟨r, hr⟩ := gs3_d x y d
  obtain ⟨u', v', r', e', h1, h2, _⟩ := plc_spec (x := x) (y := y) h
  have e : plc x y d = .tuple [.int u, .int v, .int r] := by
    unfold plc
    have a1 : x.fdiv (gs3 x y d) = u := by conv => lhs; arg 1; rw [hu, Int.mul_comm]
                                           exact Int.mul_fdiv_cancel _ g0
    have a2 : y.fdiv (gs3 x y d) = v := by conv => lhs; arg 1; rw [hv, Int.mul_comm]
                                           exact Int.mul_fdiv_cancel _ g0
    have a3 : d.fdiv (gs3 x y d) = r := by conv => lhs; arg 1; rw [hr, Int.mul_comm]
                                           exact Int.mul_fdiv_cancel _ g0
    rw [a1, a2, a3]
  rw [e] at e'
  simp only [PyData.tuple.injEq, List.cons.injEq, PyData.int.injEq, and_true] at e'
  obtain ⟨rfl, rfl, rfl⟩ := e'
  exact ⟨u, v, r, e, h1, h2, hu, hv, hr⟩
theorem plc_cross {x y d u v w : Int} (hd : d ≠ 0) (h : plc x y d = .tuple [.int u, .int v, .int w]) : u * d = x * w ∧ v * d = y * w ∧ 0 < w ∧ g3 u v w = 1 := by
  obtain ⟨u', v', w', e, h1, h2, h3, h4, h5⟩ := plc_parts (x := x) (y := y) hd
  rw [e] at h
  simp only [PyData.tuple.injEq, List.cons.injEq, PyData.int.injEq, and_true] at h
  obtain ⟨rfl, rfl, rfl⟩ := h
  generalize gs3 x y d = g at h3 h4 h5
  subst h3; subst h4; subst h5
  exact ⟨by grind, by grind, h1, h2⟩
theorem plc_eq {x y d a b e : Int} (hd : d ≠ 0) (he : 0 < e) (g : g3 a b e = 1) (h1 : x * e = a * d) (h2 : y * e = b * d) : plc x y d = .tuple [.int a, .int b, .int e] := by
  obtain ⟨u, v, w, e1, h3, h4, _⟩ := plc_parts (x := x) (y := y) hd
  obtain ⟨c1, c2, _⟩ := plc_cross hd e1
  have k1 : u * e = a * w := by
    refine Int.eq_of_mul_eq_mul_right hd ?_
    grind
  have k2 : v * e = b * w := by
    refine Int.eq_of_mul_eq_mul_right hd ?_
    grind
  obtain ⟨rfl, rfl, rfl⟩ := place_uniq h3 he h4 g k1 k2
  exact e1
theorem plc_id {u v w : Int} (h : 0 < w) (g : g3 u v w = 1) : plc u v w = .tuple [.int u, .int v, .int w] := plc_eq (by omega) h g rfl rfl
theorem frac_congr {p q r s : Int} (hq : q ≠ 0) (hs : s ≠ 0) (h : p * s = r * q) : frac p q = frac r s := by
  obtain ⟨a, b, e1, h1, h2, _⟩ := frac_spec (p := r) hs
  obtain ⟨c1, _⟩ := frac_cross hs e1
  rw [e1]
  refine frac_eq hq h1 h2 ?_
  refine Int.eq_of_mul_eq_mul_right hs ?_
  grind
/-- a place in its form, its numbers below 2 ^ k -/
def Pl (k : Nat) (x y d : Int) : Prop := 0 < d ∧ g3 x y d = 1 ∧ Bd k x ∧ Bd k y ∧ Bd k d
abbrev pl (x y d : Int) : D := .tuple [.int x, .int y, .int d]
theorem plc_Pl {x y d : Int} {k : Nat} (h : d ≠ 0) (h1 : Bd k x) (h2 : Bd k y) (h3 : Bd k d) : ∃ u v w : Int, plc x y d = pl u v w ∧ Pl k u v w := by
  obtain ⟨u, v, w, e, a1, a2, a3, a4, a5⟩ := plc_spec (x := x) (y := y) h
  exact ⟨u, v, w, e, a1, a2, ⟨Nat.lt_of_le_of_lt a3 h1.h⟩, ⟨Nat.lt_of_le_of_lt a4 h2.h⟩, ⟨Nat.lt_of_le_of_lt a5 h3.h⟩⟩
theorem Pl.mono {j k : Nat} {x y d : Int} (h : Pl j x y d) (l : j ≤ k) : Pl k x y d := ⟨h.1, h.2.1, h.2.2.1.mono l, h.2.2.2.1.mono l, h.2.2.2.2.mono l⟩
def lessP (a b c d e g : Int) : Bool := decide (a * g < d * c ∨ (a * g = d * c ∧ b * g < e * c))
def detP (a b c d e g h i j : Int) : Int := a * (e * j - i * g) + b * (h * g - d * j) + c * (d * i - h * e)
def spPl3 (f : Int → Int → Int → Int → Int → Int → Int → Int → Int → D) : DSp := fun ds Q => ∃ (a b c d e g h i j : Int) (k : Nat), ds = [pl a b c, pl d e g, pl h i j] ∧ Pl k a b c ∧ Pl k d e g ∧ Pl k h i j ∧ k ≤ 100 ∧ Q (f a b c d e g h i j)
def spScale : DSp := fun ds Q => ∃ (a b c m n : Int) (k : Nat), ds = [pl a b c, .int m, .int n] ∧ c ≠ 0 ∧ n ≠ 0 ∧ Bd k a ∧ Bd k b ∧ Bd k c ∧ Bd k m ∧ Bd k n ∧ k ≤ 1000 ∧ Q (plc (a * m) (b * m) (c * n))
def spParts : DSp := fun ds Q => ∃ (a b c : Int) (k : Nat), ds = [pl a b c] ∧ c ≠ 0 ∧ Bd k a ∧ Bd k b ∧ Bd k c ∧ k ≤ 1000 ∧ Q (.list [frac a c, frac b c])
def spSum : DSp := fun ds Q => ∃ (p q r s n : Int) (a : Nat), ds = [.tuple [.int p, .int q], .tuple [.int r, .int s], .int n] ∧ Bd a p ∧ Bd a q ∧ Bd a r ∧ Bd a s ∧ Bd 1 n ∧ a ≤ 1000 ∧ q ≠ 0 ∧ s ≠ 0 ∧ Q (frac (p * s + n * r * q) (q * s))
def spInt1 (f : Int → D) : DSp := fun ds Q => ∃ n : Int, ds = [.int n] ∧ Q (f n)
def spDrawn (k : Nat) : DSp := fun ds Q => ds = [SRC] ∧ ∀ x y d : Int, Pl k x y d → Q (pl x y d)
theorem sign_eq (n : Int) : (if decide (0 < n) = true then (1 : Int) else 0) - (if decide (n < 0) = true then 1 else 0) = Int.sign n := by
  rcases Int.lt_trichotomy n 0 with h | h | h
  · rw [if_neg (by simp; omega), if_pos (by simpa using h), Int.sign_eq_neg_one_of_neg h]; rfl
  · subst h; rfl
  · rw [if_pos (by simpa using h), if_neg (by simp; omega), Int.sign_eq_one_of_pos h]; rfl
theorem sign_scale {x y p q : Int} (hp : 0 < p) (hq : 0 < q) (h : x * p = y * q) : Int.sign x = Int.sign y := by
  have e := congrArg Int.sign h
  rw [Int.sign_mul, Int.sign_mul, Int.sign_eq_one_of_pos hp, Int.sign_eq_one_of_pos hq, Int.mul_one, Int.mul_one] at e
  exact e
end PH
namespace PH
open PySem PySem.Spec L2
abbrev fr (u v : Int) : D := .tuple [.int u, .int v]
theorem frac_obt {p q : Int} {k : Nat} (h : q ≠ 0) (a : Bd k p) (b : Bd k q) : ∃ u v : Int, frac p q = fr u v ∧ 0 < v ∧ Int.gcd u v = 1 ∧ u * q = p * v ∧ Bd k u ∧ Bd k v := by
  obtain ⟨u, v, e, hv, hg, _⟩ := frac_spec (p := p) h
  obtain ⟨c, _⟩ := frac_cross h e
  obtain ⟨b1, b2⟩ := frac_bds (ha := a) (hb := b) h e
  exact ⟨u, v, e, hv, hg, c.symm, b1, b2⟩
theorem frac_sum {p q r s n u v x y : Int} (hq : q ≠ 0) (hs : s ≠ 0) (hv : v ≠ 0) (hy : y ≠ 0) (h1 : u * q = p * v) (h2 : x * s = r * y) : frac (u * y + n * x * v) (v * y) = frac (p * s + n * r * q) (q * s) := by
  refine frac_congr (Int.mul_ne_zero hv hy) (Int.mul_ne_zero hq hs) ?_
  have e1 : (u * y + n * x * v) * (q * s) = (u * q) * (y * s) + n * ((x * s) * (v * q)) := by grind
  rw [e1, h1, h2]; grind
/-- a comprehension over known items -/
def All2 (R : D → D → Prop) : List D → List D → Prop
  | [], [] => True
  | y :: ys, z :: zs => R y z ∧ All2 R ys zs
  | _, _ => False
theorem All2.len {R : D → D → Prop} : ∀ {ys zs : List D}, All2 R ys zs → ys.length = zs.length
  | [], [], _ => rfl
  | _ :: _, _ :: _, h => by simp [All2.len h.2]
  | [], _ :: _, h => h.elim
  | _ :: _, [], h => h.elim
theorem All2.get {R : D → D → Prop} : ∀ {ys zs : List D} {i : Nat} {y : D}, All2 R ys zs → ys[i]? = some y → ∃ z, zs[i]? = some z ∧ R y z
  | [], [], _, _, _, e => by simp at e
  | y :: ys, z :: zs, 0, _, h, e => by simp at e; subst e; exact ⟨z, rfl, h.1⟩
  | y :: ys, z :: zs, i + 1, _, h, e => by
    obtain ⟨w, h1, h2⟩ := All2.get (i := i) h.2 (by simpa using e)
    exact ⟨w, by simpa using h1, h2⟩
  | [], _ :: _, _, _, h, _ => h.elim
  | _ :: _, [], _, _, h, _ => h.elim
theorem lccA {ys zs : List D} {g : DG} {me : DE} {σ0 : DSt} {Q : List D → Prop} (h : All2 (fun y z => ∀ Q : D → Prop, Q z → g y σ0 fun σ2 => me σ2 Q) ys zs) (hl : ys.length ≤ 1000000) (hq : Q zs) :
    ys.length ≤ 1000000 ∧ ∃ W : Nat → List D → Prop, W 0 [] ∧ (∀ i y acc, ys[i]? = some y → acc.length ≤ i → W i acc → g y σ0 fun σ2 => dYes σ2 fun b => if b = true then me σ2 fun z => W (i + 1) (acc ++ [z]) else W (i + 1) acc) ∧ ∀ acc, W ys.length acc → Q acc := by
  refine ⟨hl, fun i acc => acc = zs.take i, by simp, fun i y acc hy _ w => ?_, fun acc w => ?_⟩
  · obtain ⟨z, h1, h2⟩ := h.get hy
    refine h2 (fun z => acc ++ [z] = zs.take (i + 1)) ?_
    show acc ++ [z] = zs.take (i + 1)
    rw [w, List.take_add_one, h1]; rfl
  · rw [w, h.len, List.take_length]; exact hq
theorem side_math {a b c d e g h i j n0 d0 n1 d1 m0 e0 m1 e1 : Int} (hc : 0 < c) (hg : 0 < g) (hj : 0 < j) (p0 : 0 < d0) (p1 : 0 < d1) (p2 : 0 < e0) (p3 : 0 < e1)
    (h0 : n0 * (g * c) = (d * c + -1 * a * g) * d0) (h1 : n1 * (g * c) = (e * c + -1 * b * g) * d1) (h2 : m0 * (j * c) = (h * c + -1 * a * j) * e0) (h3 : m1 * (j * c) = (i * c + -1 * b * j) * e1) :
    Int.sign (n0 * m1 * d1 * e0 - n1 * m0 * d0 * e1) = Int.sign (detP a b c d e g h i j) := by
  refine sign_scale (p := (g * c) * (j * c)) (q := c * (d0 * d1 * e0 * e1)) (Int.mul_pos (Int.mul_pos hg hc) (Int.mul_pos hj hc)) (Int.mul_pos hc (Int.mul_pos (Int.mul_pos (Int.mul_pos p0 p1) p2) p3)) ?_
  have e1' : (n0 * m1 * d1 * e0 - n1 * m0 * d0 * e1) * ((g * c) * (j * c)) = (n0 * (g * c)) * (m1 * (j * c)) * (d1 * e0) - (n1 * (g * c)) * (m0 * (j * c)) * (d0 * e1) := by grind
  rw [e1', h0, h1, h2, h3]
  unfold detP
  grind
theorem det_cyc (a b c d e g h i j : Int) : detP d e g h i j a b c = detP a b c d e g h i j := by unfold detP; grind
theorem det_swap (a b c d e g h i j : Int) : detP d e g a b c h i j = -detP a b c d e g h i j := by unfold detP; grind
theorem det_ppr (a b c h i j : Int) : detP a b c a b c h i j = 0 := by unfold detP; grind
theorem det_pqq (a b c h i j : Int) : detP a b c h i j h i j = 0 := by unfold detP; grind
theorem lessP_self (a b c : Int) : lessP a b c a b c = false := by unfold lessP; simp
theorem dNe_ss {x y : List D} {Q : D → Prop} (e : x = y) (hs : SeqAt.shaped (.list x) = true) (h : Q (.bool false)) : dNe (.list x) (.list y) Q := dNe_eqs (by rw [e]) hs h
end PH
namespace PH
open PySem PySem.Spec L2
theorem spSum_c {p q r s n : Int} {a : Nat} (h1 : Bd a p) (h2 : Bd a q) (h3 : Bd a r) (h4 : Bd a s) (h5 : Bd 1 n) (ha : a ≤ 1000) (hq : q ≠ 0) (hs : s ≠ 0) {z : D} (e : frac (p * s + n * r * q) (q * s) = z) {Q : D → Prop} (h : Q z) : spSum [fr p q, fr r s, .int n] Q :=
  ⟨p, q, r, s, n, a, rfl, h1, h2, h3, h4, h5, ha, hq, hs, e ▸ h⟩
theorem spParts_c {a b c : Int} {k : Nat} (hc : c ≠ 0) (h1 : Bd k a) (h2 : Bd k b) (h3 : Bd k c) (hk : k ≤ 1000) {x y : D} (e1 : frac a c = x) (e2 : frac b c = y) {Q : D → Prop} (h : Q (.list [x, y])) : spParts [pl a b c] Q :=
  ⟨a, b, c, k, rfl, hc, h1, h2, h3, hk, e1 ▸ e2 ▸ h⟩
end PH
namespace PH
open PySem PySem.Spec L2
theorem bd_two {a : Nat} {x y : Int} (h1 : Bd a x) (h2 : Bd a y) : x.natAbs + y.natAbs < 2 ^ (a + 1) := by
  have := h1.h; have := h2.h; rw [Nat.pow_succ]; omega
theorem bd_add2 {a : Nat} {x y : Int} (h1 : Bd a x) (h2 : Bd a y) : Bd (a + 1) (x + y) := ⟨by have := bd_two h1 h2; omega⟩
theorem bd_sub2 {a : Nat} {x y : Int} (h1 : Bd a x) (h2 : Bd a y) : Bd (a + 1) (x - y) := ⟨by have := bd_two h1 h2; omega⟩
def spPls (n : Nat) (k : Nat) (R : D) : DSp := fun ds Q => match n, ds with
  | 2, [s, .tuple [.int a, .int b, .int c], .tuple [.int d, .int e, .int g]] => s = SRC ∧ Pl k a b c ∧ Pl k d e g ∧ Q R
  | _, _ => False
def spTwoR : DSp := fun ds Q => ∃ a b c d e g : Int, ds = [SRC, pl a b c, pl d e g] ∧ Pl 100 a b c ∧ Pl 100 d e g ∧ Q (.bool true)
theorem sh_ff {a b c d : Int} : SeqAt.shaped (.list [fr a b, fr c d]) = true := by simp [SeqAt.shaped, PyData.canLay0, PyData.canLayAll0, PyData.depth, PyData.depthAll]
theorem rOk_b3 {a b c : Bool} : rOk (.list [.bool a, .bool b, .bool c]) := (okN_b.c (okN_b.c (okN_b.c okNs_nil))).l (show 3 ≤ 8 by decide)
theorem bd_sign (n : Int) : Bd 1 (Int.sign n) := ⟨by
  rcases Int.lt_trichotomy n 0 with h | h | h
  · rw [Int.sign_eq_neg_one_of_neg h]; decide
  · subst h; decide
  · rw [Int.sign_eq_one_of_pos h]; decide⟩
end PH
namespace PH
theorem mv_one {u v a g d c : Int} (h : u * (c * g) = (a * g + d * c) * v) : u * (c * g) = (a * g + 1 * d * c) * v := by rw [h, Int.one_mul]
theorem mv_neg {u v a g d c : Int} (h : u * (c * g) = (a * g - d * c) * v) : u * (c * g) = (a * g + -1 * d * c) * v := by rw [h]; grind
theorem sc_math {x y m n u w a c : Int} (c0 : c ≠ 0) (h1 : x * c = a * y) (h2 : u * (c * n) = a * m * w) : x * m * w = u * (y * n) := by
  refine Int.eq_of_mul_eq_mul_right c0 ?_
  have e1 : x * m * w * c = (x * c) * (m * w) := by grind
  have e2 : u * (y * n) * c = (u * (c * n)) * y := by grind
  rw [e1, e2, h1, h2]; grind
theorem back_math {u w a d c g : Int} (h : u * (c * g) = (a * g - d * c) * w) : (u * g + d * w) * c = a * (w * g) := by
  have e1 : (u * g + d * w) * c = u * (c * g) + d * c * w := by grind
  rw [e1, h]; grind
theorem zero_math {a c : Int} : (a * c - a * c) * 1 = 0 * (c * c) := by rw [Int.sub_self]; grind
theorem scb_math {u w a c : Int} (h : u * (c * 7) = a * 3 * w) : u * 7 * c = a * (w * 3) := by
  have e1 : u * 7 * c = u * (c * 7) := by grind
  rw [e1, h]; grind
end PH
namespace PH
open PySem PySem.Spec L2
/-- a comprehension over known items, its parts kept folded -/
theorem dLcc_k {mi : DA} {g : DG} {me : DE} {vs : List Nat} {σd : DSt} {Q : List D → Prop} (ys zs : List D) (hi : ∀ R : List D → Prop, R ys → mi σd R) (hl : ys.length ≤ 1000000)
    (h : All2 (fun y z => ∀ Q : D → Prop, Q z → g y (dwipe (clean σd) vs) fun σ2 => me σ2 Q) ys zs) (hq : Q zs) : dLcc mi g dYes me vs σd Q :=
  hi _ (lccA h hl hq)
/-- a comprehension whose items are told by a function, its parts kept folded -/
theorem dLcc_f {mi : DA} {g : DG} {me : DE} {vs : List Nat} {σd : DSt} {Q : List D → Prop} (ys : List D) (f : D → D) (hi : ∀ R : List D → Prop, R ys → mi σd R) (hl : ys.length ≤ 1000000)
    (h : ∀ y ∈ ys, ∀ Q : D → Prop, Q (f y) → g y (dwipe (clean σd) vs) fun σ2 => me σ2 Q) (hq : Q (ys.map f)) : dLcc mi g dYes me vs σd Q :=
  hi _ (lcc f hl h hq)
theorem dLcc_t {mi : DA} {g : DG} {mt : DT} {me : DE} {vs : List Nat} {σd : DSt} {Q : List D → Prop} (ys : List D) (t : D → Bool) (f : D → D) (hi : ∀ R : List D → Prop, R ys → mi σd R) (hl : ys.length ≤ 1000000)
    (h : ∀ y ∈ ys, ∀ (Q1 : D → Prop) (Q0 : Prop), (t y = true → Q1 (f y)) → (t y = false → Q0) → g y (dwipe (clean σd) vs) fun σ2 => mt σ2 fun b => if b = true then me σ2 Q1 else Q0) (hq : Q ((ys.filter t).map f)) : dLcc mi g mt me vs σd Q :=
  hi _ (lccf t f hl h hq)
end PH

/-! Half planes in their form. -/
namespace PH
open PySem PySem.Spec L2
theorem g3h_pos {a b c : Int} (h : ¬ (a = 0 ∧ b = 0)) : 0 < g3 a b c := by
  rcases Nat.eq_zero_or_pos (g3 a b c) with z | z
  · exfalso
    have z1 := Nat.eq_zero_of_gcd_eq_zero_left z
    have z2 := Nat.eq_zero_of_gcd_eq_zero_left z1
    have z3 := Nat.eq_zero_of_gcd_eq_zero_right z1
    exact h ⟨by omega, by omega⟩
  · exact z
theorem dvd_g {a : Int} {n : Nat} (h : n ∣ a.natAbs) : (n : Int) ∣ a := Int.natAbs_dvd_natAbs.mp (by simpa using h)
def halfv (a b c : Int) : D := .tuple [.int (a.fdiv (g3 a b c)), .int (b.fdiv (g3 a b c)), .int (c.fdiv (g3 a b c))]
theorem halfv_spec {a b c : Int} (h : ¬ (a = 0 ∧ b = 0)) : ∃ u v w : Int, halfv a b c = pl u v w ∧ ¬ (u = 0 ∧ v = 0) ∧ g3 u v w = 1 ∧ a = (g3 a b c : Int) * u ∧ b = (g3 a b c : Int) * v ∧ c = (g3 a b c : Int) * w := by
  have g0 := g3h_pos (c := c) h
  have gne : (g3 a b c : Int) ≠ 0 := by omega
  obtain ⟨u, hu⟩ : (g3 a b c : Int) ∣ a := dvd_g (g3_x a b c)
  obtain ⟨v, hv⟩ : (g3 a b c : Int) ∣ b := dvd_g (g3_y a b c)
  obtain ⟨w, hw⟩ : (g3 a b c : Int) ∣ c := dvd_g (g3_d a b c)
  have e : halfv a b c = pl u v w := by
    unfold halfv
    have a1 : a.fdiv (g3 a b c) = u := by conv => lhs; arg 1; rw [hu, Int.mul_comm]
                                          exact Int.mul_fdiv_cancel _ gne
    have a2 : b.fdiv (g3 a b c) = v := by conv => lhs; arg 1; rw [hv, Int.mul_comm]
                                          exact Int.mul_fdiv_cancel _ gne
    have a3 : c.fdiv (g3 a b c) = w := by conv => lhs; arg 1; rw [hw, Int.mul_comm]
                                          exact Int.mul_fdiv_cancel _ gne
    rw [a1, a2, a3]
  have m := g3_mul u v w (g3 a b c)
  rw [Int.mul_comm u, Int.mul_comm v, Int.mul_comm w, ← hu, ← hv, ← hw] at m
  refine ⟨u, v, w, e, fun z => h ?_, ?_, hu, hv, hw⟩
  · rw [hu, hv, z.1, z.2]; exact ⟨Int.mul_zero _, Int.mul_zero _⟩
  · have e2 : (g3 a b c : Int).natAbs = g3 a b c := rfl
    rw [e2] at m
    have : 1 * g3 a b c = g3 u v w * g3 a b c := by rw [Nat.one_mul]; exact m
    exact (Nat.eq_of_mul_eq_mul_right g0 this).symm
theorem halfv_scale {a b c n : Int} (h : ¬ (a = 0 ∧ b = 0)) (hn : 0 < n) : halfv (a * n) (b * n) (c * n) = halfv a b c := by
  have g0 := g3h_pos (c := c) h
  have gne : (g3 a b c : Int) ≠ 0 := by omega
  unfold halfv
  have e : (g3 (a * n) (b * n) (c * n) : Int) = g3 a b c * n := by rw [g3_mul, Int.natCast_mul, Int.natAbs_of_nonneg (by omega)]
  rw [e, fdiv_scale gne (by omega) (dvd_g (g3_x a b c)), fdiv_scale gne (by omega) (dvd_g (g3_y a b c)), fdiv_scale gne (by omega) (dvd_g (g3_d a b c))]
theorem g3_bd {a b c : Int} {k : Nat} (h : ¬ (a = 0 ∧ b = 0)) (ha : Bd k a) (hb : Bd k b) : Bd k (g3 a b c : Int) := ⟨by
  show g3 a b c < 2 ^ k
  rcases Decidable.em (b = 0) with z | z
  · have hane : a ≠ 0 := fun y => h ⟨y, z⟩
    exact Nat.lt_of_le_of_lt (Nat.le_of_dvd (by omega) (g3_x a b c)) ha.h
  · exact Nat.lt_of_le_of_lt (Nat.le_of_dvd (by omega) (g3_y a b c)) hb.h⟩
def isHalf (d : D) : Bool := areNum d 3 && (match d with
  | .tuple [.int p, .int q, .int r] => !(decide (p = 0) && decide (q = 0)) && decide ((g3 p q r : Int) = 1)
  | _ => false)
theorem isHalf_3 {p q r : Int} : isHalf (pl p q r) = (!(decide (p = 0) && decide (q = 0)) && decide ((g3 p q r : Int) = 1)) := by
  have ha : areNum (pl p q r) 3 = true := areNum3.mpr ⟨p, q, r, rfl⟩
  rw [isHalf, ha, Bool.true_and]
theorem isHalf_0 {d : D} (h : areNum d 3 = false) : isHalf d = false := by simp [isHalf, h]
def spIsHalf : DSp := fun ds Q => ∃ d, ds = [d] ∧ tupLe 1000 d ∧ Q (.bool (isHalf d))
def spHalfv : DSp := fun ds Q => ∃ (a b c : Int) (k : Nat), ds = [.int a, .int b, .int c] ∧ ¬ (a = 0 ∧ b = 0) ∧ Bd k a ∧ Bd k b ∧ Bd k c ∧ k ≤ 8000 ∧ Q (halfv a b c)
def badHalf (ds : List D) : Prop := ∃ x y z, ds = [x, y, z] ∧ (areNum (.tuple [x, y, z]) 3 = false ∨ (x = .int 0 ∧ y = .int 0))
def spHalf : DSpX := fun ds Q Ed => spHalfv ds Q ∨ (badHalf ds ∧ Ed "BadHalf")
def spToldH : DSp := fun ds Q => spHalfv ds Q ∨ (badHalf ds ∧ Q (.tuple [.str "none"]))
theorem spToldH_no {x y z : D} {Q : D → Prop} (h : areNum (.tuple [x, y, z]) 3 = false ∨ (x = .int 0 ∧ y = .int 0)) (q : Q (.tuple [.str "none"])) : spToldH [x, y, z] Q := .inr ⟨⟨x, y, z, rfl, h⟩, q⟩
/-- three integers, a half plane or a place -/
def spTri (ok : Int → Int → Int → Prop) (f : Int → Int → Int → D) : DSp := fun ds Q => ∃ a b c : Int, ds = [pl a b c] ∧ ok a b c ∧ Q (f a b c)
/-- a half plane and a place -/
def excess (a b c x y d : Int) : Int := a * x + b * y - c * d
def spHP (f : Int → Int → Int → Int → Int → Int → D) : DSp := fun ds Q => ∃ (a b c x y d : Int) (k : Nat), ds = [pl a b c, pl x y d] ∧ Bd k a ∧ Bd k b ∧ Bd k c ∧ Bd k x ∧ Bd k y ∧ Bd k d ∧ k ≤ 2000 ∧ Q (f a b c x y d)
def spNormal : DSp := fun ds Q => ∃ (a b c : Int) (k : Nat), ds = [pl a b c] ∧ ¬ (a = 0 ∧ b = 0) ∧ Bd k a ∧ Bd k b ∧ k ≤ 8000 ∧ Q (dirv a b)
def spPlR : DSp := fun ds Q => ∃ a b c : Int, ds = [SRC, pl a b c] ∧ ¬ (a = 0 ∧ b = 0) ∧ g3 a b c = 1 ∧ Bd 31 a ∧ Bd 31 b ∧ Bd 31 c ∧ Q (.bool true)
theorem halfv_bd {a b c : Int} {k : Nat} (ha : Bd k a) (hb : Bd k b) (hc : Bd k c) (h : ¬ (a = 0 ∧ b = 0)) {u v w : Int} (e : halfv a b c = pl u v w) : Bd k u ∧ Bd k v ∧ Bd k w := by
  unfold halfv at e
  simp only [PyData.tuple.injEq, List.cons.injEq, PyData.int.injEq, and_true] at e
  obtain ⟨rfl, rfl, rfl⟩ := e
  exact ⟨bd_fdiv, bd_fdiv, bd_fdiv⟩
theorem sq_pos {a b : Int} (h : ¬ (a = 0 ∧ b = 0)) : 0 < a * a + b * b := by
  have ha : 0 ≤ a * a := by
    rcases Int.le_total 0 a with z | z
    · exact Int.mul_nonneg z z
    · exact Int.mul_nonneg_of_nonpos_of_nonpos z z
  have hb : 0 ≤ b * b := by
    rcases Int.le_total 0 b with z | z
    · exact Int.mul_nonneg z z
    · exact Int.mul_nonneg_of_nonpos_of_nonpos z z
  rcases Decidable.em (a = 0) with z | z
  · have hb0 : b ≠ 0 := fun y => h ⟨z, y⟩
    have : b * b ≠ 0 := Int.mul_ne_zero hb0 hb0
    omega
  · have : a * a ≠ 0 := Int.mul_ne_zero z z
    omega
/-- the foot lies on the line -/
theorem foot_on {a b c u v w : Int} (h : ¬ (a = 0 ∧ b = 0)) (h1 : u * (a * a + b * b) = a * c * w) (h2 : v * (a * a + b * b) = b * c * w) : excess a b c u v w = 0 := by
  have p := sq_pos h
  refine Int.eq_of_mul_eq_mul_right (show a * a + b * b ≠ 0 by omega) ?_
  unfold excess
  have e1 : (a * u + b * v - c * w) * (a * a + b * b) = a * (u * (a * a + b * b)) + b * (v * (a * a + b * b)) - c * w * (a * a + b * b) := by grind
  rw [e1, h1, h2]; grind
theorem on_on {a b c u v w n k x y d : Int} (hd : w * n ≠ 0) (h0 : excess a b c u v w = 0) (h1 : x * (w * n) = (u * n - k * b * w) * d) (h2 : y * (w * n) = (v * n + k * a * w) * d) : excess a b c x y d = 0 := by
  refine Int.eq_of_mul_eq_mul_right hd ?_
  unfold excess at *
  have e1 : (a * x + b * y - c * d) * (w * n) = a * (x * (w * n)) + b * (y * (w * n)) - c * d * (w * n) := by grind
  rw [e1, h1, h2]
  have e2 : a * ((u * n - k * b * w) * d) + b * ((v * n + k * a * w) * d) - c * d * (w * n) = (a * u + b * v - c * w) * (n * d) := by grind
  rw [e2, h0]; grind
end PH
namespace PH
open PySem PySem.Spec L2
theorem dEq_ii {p q r s : Int} {Q : D → Prop} (h : Q (.bool (decide (p = r) && decide (q = s)))) : dEq (.tuple [.int p, .int q]) (.tuple [.int r, .int s]) Q := by
  refine ⟨sh_ii, sh_ii, ?_⟩
  have e : PyData.eqv (.tuple [.int p, .int q]) (.tuple [.int r, .int s]) = (decide (p = r) && decide (q = s)) := by
    simp only [PyData.eqv, PyData.eqvAll, Bool.and_true]; rfl
  rw [e]; exact h
end PH
namespace PH
open PySem PySem.Spec L2
/-- an if, either way; what it does, it lets go on nowhere -/
theorem dIf_b {c : DT} {t rest : DS} {Dd : DEnds} {σd : DSt} (hc : ∀ R : Bool → Prop, (∀ b, R b) → c σd R) (ht : ∀ N : DSt → Prop, t { Dd with nx := N } σd) (hr : rest Dd σd) : dSeq (dIf c t dNext) rest Dd σd :=
  hc _ fun b => by
    cases b with
    | true => exact iteT (ht _)
    | false => exact iteF hr
theorem dEq_sh {x y : D} {Q : D → Prop} (e : x = y) (h : Q (.bool true)) : dEq (.str (PyData.shown x)) (.str (PyData.shown y)) Q := by
  subst e
  show Q (.bool (decide (PyData.shown x = PyData.shown x)))
  rw [decide_eq_true rfl]; exact h
theorem okN_pl {u v w : Int} {k : Nat} (a : Bd k u) (b : Bd k v) (c : Bd k w) (h : k ≤ 900) : OkN (pl u v w) :=
  ⟨⟨⟨(a.mono h).h, (b.mono h).h, (c.mono h).h, trivial⟩, by simp [PyData.bulk, PyData.bulkAll], by simp [PyData.depth, PyData.depthAll], by simp [PyData.hasDict, PyData.hasDictAll]⟩, by simp [PyData.hasDict, PyData.hasDictAll]⟩
end PH
namespace PH
open PySem PySem.Spec L2
theorem ne_none3 {u v w : Int} {Q : D → Prop} (h : Q (.bool true)) : dNe (pl u v w) (.tuple [.str "none"]) Q := by
  refine ⟨sh_iii, by decide +kernel, ?_⟩
  have e : PyData.eqv (pl u v w) (.tuple [.str "none"]) = false := by simp [PyData.eqv, PyData.eqvAll]
  rw [e]; exact h
end PH

/-! The round order of directions. -/
namespace PH
open PySem PySem.Spec L2
def upper (a b : Int) : Bool := decide (0 < b) || (decide (b = 0) && decide (0 < a))
def cr (a b c d : Int) : Int := a * d - b * c
def aheadB (a b c d : Int) : Bool := if upper a b = upper c d then decide (0 < cr a b c d) else upper a b
theorem upper_iff {a b : Int} : upper a b = true ↔ 0 < b ∨ (b = 0 ∧ 0 < a) := by simp [upper]
theorem lower_iff {a b : Int} (h : ¬ (a = 0 ∧ b = 0)) : upper a b = false ↔ b < 0 ∨ (b = 0 ∧ a < 0) := by
  have e := upper_iff (a := a) (b := b)
  cases hu : upper a b with
  | true => exact ⟨fun z => (Bool.noConfusion z), fun z => by have := e.mp hu; omega⟩
  | false =>
    have : ¬ (0 < b ∨ (b = 0 ∧ 0 < a)) := fun z => by rw [e.mpr z] at hu; cases hu
    exact ⟨fun _ => by omega, fun _ => rfl⟩
theorem cr_anti (a b c d : Int) : cr c d a b = -cr a b c d := by unfold cr; grind
theorem ahead_irr (a b : Int) : aheadB a b a b = false := by
  unfold aheadB cr
  rw [if_pos rfl]
  exact decide_eq_false (by have : a * b - b * a = 0 := by grind
                            omega)
theorem ahead_asym {a b c d : Int} (h : aheadB a b c d = true) : aheadB c d a b = false := by
  unfold aheadB at *
  by_cases e : upper a b = upper c d
  · rw [if_pos e] at h
    rw [if_pos e.symm, cr_anti a b c d]
    have := of_decide_eq_true h
    exact decide_eq_false (by omega)
  · rw [if_neg e] at h
    rw [if_neg (fun z => e z.symm)]
    cases hc : upper c d with
    | false => rfl
    | true => rw [h, hc] at e; exact absurd rfl e
theorem pos_pos {x y : Int} (hx : 0 < x) : 0 < x * y ↔ 0 < y := by
  constructor
  · intro h
    by_cases z : 0 < y
    · exact z
    · have := Int.mul_nonpos_of_nonneg_of_nonpos (show 0 ≤ x by omega) (show y ≤ 0 by omega)
      omega
  · exact fun h => Int.mul_pos hx h
/-- positive combinations of the upper half are of it -/
theorem comb_upper {p q a b c d x y : Int} (hp : 0 < p) (hq : 0 < q) (h1 : upper a b = true) (h2 : upper c d = true) (hx : x = p * a + q * c) (hy : y = p * b + q * d) : upper x y = true := by
  rw [upper_iff] at *
  subst hx; subst hy
  rcases h1 with h1 | ⟨h1, h1'⟩ <;> rcases h2 with h2 | ⟨h2, h2'⟩
  · have := Int.mul_pos hp h1; have := Int.mul_pos hq h2; omega
  · subst h2
    have := Int.mul_pos hp h1
    rw [Int.mul_zero]; omega
  · subst h1
    have := Int.mul_pos hq h2
    rw [Int.mul_zero]; omega
  · subst h1; subst h2
    have := Int.mul_pos hp h1'; have := Int.mul_pos hq h2'
    rw [Int.mul_zero, Int.mul_zero]; omega
theorem scale_upper {p a b : Int} (hp : 0 < p) : upper (p * a) (p * b) = upper a b := by
  have e : ∀ {z : Int}, (0 < p * z ↔ 0 < z) := pos_pos hp
  have e0 : (p * b = 0 ↔ b = 0) := ⟨fun h => by rcases Int.mul_eq_zero.mp h with h | h <;> omega, fun h => by rw [h, Int.mul_zero]⟩
  unfold upper
  rw [decide_eq_decide.mpr e, decide_eq_decide.mpr e, decide_eq_decide.mpr e0]
theorem neg_upper {a b : Int} (h : ¬ (a = 0 ∧ b = 0)) : upper (-a) (-b) = !upper a b := by
  cases hu : upper a b with
  | true =>
    have := upper_iff.mp hu
    exact (lower_iff (by omega)).mpr (by omega)
  | false =>
    have := (lower_iff h).mp hu
    exact upper_iff.mpr (by omega)
theorem cr_comb1 (a b c d m n : Int) : cr a b c d * m = cr m n c d * a + cr a b m n * c := by unfold cr; grind
theorem cr_comb2 (a b c d m n : Int) : cr a b c d * n = cr m n c d * b + cr a b m n * d := by unfold cr; grind
/-- between two of one half, less than half a round on: of that half -/
theorem mid_half {a b c d m n : Int} (ha : ¬ (a = 0 ∧ b = 0)) (hc : ¬ (c = 0 ∧ d = 0)) (hm : ¬ (m = 0 ∧ n = 0)) (h1 : 0 < cr a b m n) (h2 : 0 < cr m n c d) (h3 : 0 < cr a b c d) (e : upper a b = upper c d) : upper m n = upper a b := by
  cases hu : upper a b with
  | true =>
    rw [← scale_upper h3]
    exact comb_upper h2 h1 hu (e ▸ hu) (cr_comb1 a b c d m n) (cr_comb2 a b c d m n)
  | false =>
    have na : upper (-a) (-b) = true := by rw [neg_upper ha, hu]; rfl
    have nc : upper (-c) (-d) = true := by rw [neg_upper hc, ← e, hu]; rfl
    have k : upper (cr a b c d * -m) (cr a b c d * -n) = true := comb_upper h2 h1 na nc (by have := cr_comb1 a b c d m n; grind) (by have := cr_comb2 a b c d m n; grind)
    rw [scale_upper h3, neg_upper hm] at k
    cases hn : upper m n with
    | false => rfl
    | true => rw [hn] at k; cases k
def arcB (a b c d m n : Int) : Bool := if aheadB a b c d = true then aheadB a b m n && aheadB m n c d else aheadB a b m n || aheadB m n c d
theorem arc_mid {a b c d m n : Int} (ha : ¬ (a = 0 ∧ b = 0)) (hc : ¬ (c = 0 ∧ d = 0)) (hm : ¬ (m = 0 ∧ n = 0)) (h1 : 0 < cr a b m n) (h2 : 0 < cr m n c d) : arcB a b c d m n = true := by
  have mh := mid_half ha hc hm h1 h2
  unfold arcB aheadB
  rw [decide_eq_true h1, decide_eq_true h2]
  by_cases h3 : 0 < cr a b c d
  · rw [decide_eq_true h3]
    have mh := mh h3
    cases hu : upper a b <;> cases hv : upper c d <;> cases hw : upper m n <;> rw [hu, hv, hw] at mh <;> simp at mh ⊢
  · rw [decide_eq_false h3]
    cases hu : upper a b <;> cases hv : upper c d <;> cases hw : upper m n <;> simp
theorem ahead_trans {a b m n c d : Int} (ha : ¬ (a = 0 ∧ b = 0)) (hm : ¬ (m = 0 ∧ n = 0)) (hc : ¬ (c = 0 ∧ d = 0)) (h1 : aheadB a b m n = true) (h2 : aheadB m n c d = true) : aheadB a b c d = true := by
  have key : upper a b = upper m n → upper m n = upper c d → 0 < cr a b m n → 0 < cr m n c d → 0 < cr a b c d := fun e1 e2 p1 p2 => by
    -- -cr(a, c) (m, n) is no positive combination of its own half
    have c1 := cr_comb1 a b c d m n
    have c2 := cr_comb2 a b c d m n
    by_cases z : 0 < cr a b c d
    · exact z
    · exfalso
      cases hu : upper a b with
      | true =>
        have k := comb_upper p2 p1 hu (e2 ▸ e1 ▸ hu) c1 c2
        rcases Int.lt_or_eq_of_le (show cr a b c d ≤ 0 by omega) with y | y
        · have e : upper (-cr a b c d * -m) (-cr a b c d * -n) = true := by rw [Int.neg_mul_neg, Int.neg_mul_neg]; exact k
          rw [scale_upper (by omega), neg_upper hm, ← e1, hu] at e
          cases e
        · rw [y, Int.zero_mul, Int.zero_mul] at k; simp [upper] at k
      | false =>
        have na : upper (-a) (-b) = true := by rw [neg_upper ha, hu]; rfl
        have nc : upper (-c) (-d) = true := by rw [neg_upper hc, ← e2, ← e1, hu]; rfl
        have k : upper (cr a b c d * -m) (cr a b c d * -n) = true := comb_upper p2 p1 na nc (by grind) (by grind)
        rcases Int.lt_or_eq_of_le (show cr a b c d ≤ 0 by omega) with y | y
        · have e : upper (-cr a b c d * m) (-cr a b c d * n) = true := by rw [Int.neg_mul_comm, Int.neg_mul_comm]; exact k
          rw [scale_upper (by omega), ← e1, hu] at e
          cases e
        · rw [y, Int.zero_mul, Int.zero_mul] at k; simp [upper] at k
  unfold aheadB at *
  cases hu : upper a b <;> cases hv : upper c d <;> cases hw : upper m n <;> rw [hu, hw] at h1 <;> rw [hw, hv] at h2 <;> simp at h1 h2 ⊢ <;> exact key (by rw [hu, hw]) (by rw [hw, hv]) h1 h2
theorem cop_pm {a b c d : Int} (g1 : Int.gcd a b = 1) (g2 : Int.gcd c d = 1) (h : a * d = b * c) : (c = a ∧ d = b) ∨ (c = -a ∧ d = -b) := by
  rcases Int.lt_trichotomy b 0 with hb | hb | hb <;> rcases Int.lt_trichotomy d 0 with hd | hd | hd
  · have := form_uniq (a := -a) (b := -b) (u := -c) (v := -d) (by omega) (by omega) (by rw [Int.neg_gcd, Int.gcd_neg]; exact g1) (by rw [Int.neg_gcd, Int.gcd_neg]; exact g2) (by grind)
    omega
  · subst hd
    have : b * c = 0 := by rw [← h, Int.mul_zero]
    rcases Int.mul_eq_zero.mp this with z | z
    · omega
    · subst z; simp at g2
  · have := form_uniq (a := -a) (b := -b) (u := c) (v := d) (by omega) (by omega) (by rw [Int.neg_gcd, Int.gcd_neg]; exact g1) g2 (by grind)
    omega
  · subst hb
    have : a * d = 0 := by rw [h, Int.zero_mul]
    rcases Int.mul_eq_zero.mp this with z | z
    · subst z; simp at g1
    · omega
  · subst hb; subst hd
    have e1 : a.natAbs = 1 := by simpa using g1
    have e2 : c.natAbs = 1 := by simpa using g2
    omega
  · subst hb
    have : a * d = 0 := by rw [h, Int.zero_mul]
    rcases Int.mul_eq_zero.mp this with z | z
    · subst z; simp at g1
    · omega
  · have := form_uniq (a := a) (b := b) (u := -c) (v := -d) (by omega) (by omega) g1 (by rw [Int.neg_gcd, Int.gcd_neg]; exact g2) (by grind)
    omega
  · subst hd
    have : b * c = 0 := by rw [← h, Int.mul_zero]
    rcases Int.mul_eq_zero.mp this with z | z
    · omega
    · subst z; simp at g2
  · have := form_uniq (a := a) (b := b) (u := c) (v := d) (by omega) (by omega) g1 g2 (by grind)
    omega
theorem gcd_ne {a b : Int} (g : Int.gcd a b = 1) : ¬ (a = 0 ∧ b = 0) := by
  rintro ⟨rfl, rfl⟩; simp at g
theorem ahead_tot {a b c d : Int} (g1 : Int.gcd a b = 1) (g2 : Int.gcd c d = 1) (h : ¬ (a = c ∧ b = d)) : aheadB c d a b = !aheadB a b c d := by
  have h1 := gcd_ne g1
  have h2 := gcd_ne g2
  unfold aheadB
  by_cases e : upper a b = upper c d
  · rw [if_pos e, if_pos e.symm, cr_anti a b c d]
    rcases Int.lt_trichotomy (cr a b c d) 0 with z | z | z
    · rw [decide_eq_true (show 0 < -cr a b c d by omega), decide_eq_false (show ¬ 0 < cr a b c d by omega)]; rfl
    · exfalso
      have q : a * d = b * c := by unfold cr at z; omega
      rcases cop_pm g1 g2 q with ⟨e1, e2⟩ | ⟨e1, e2⟩
      · exact h ⟨e1.symm, e2.symm⟩
      · rw [e1, e2, neg_upper h1] at e
        cases hu : upper a b <;> rw [hu] at e <;> cases e
    · rw [decide_eq_false (show ¬ 0 < -cr a b c d by omega), decide_eq_true z]; rfl
  · rw [if_neg e, if_neg (fun z => e z.symm)]
    cases hu : upper a b <;> cases hv : upper c d <;> rw [hu, hv] at e <;> first | rfl | exact absurd rfl e
end PH

namespace PH
open PySem PySem.Spec L2
/-- a direction in its form, its numbers below 2 ^ k -/
def Dr (k : Nat) (a b : Int) : Prop := Int.gcd a b = 1 ∧ Bd k a ∧ Bd k b
def IsDr (k : Nat) (d : D) : Prop := ∃ a b : Int, d = fr a b ∧ Dr k a b
def aheadD (x y : D) : Bool := match x, y with
  | .tuple [.int a, .int b], .tuple [.int c, .int d] => aheadB a b c d
  | _, _ => false
def spDir2 (f : Int → Int → Int → Int → D) : DSp := fun ds Q => ∃ (a b c d : Int) (k : Nat), ds = [fr a b, fr c d] ∧ Dr k a b ∧ Dr k c d ∧ k ≤ 1000 ∧ Q (f a b c d)
def spDir3 (f : Int → Int → Int → Int → Int → Int → D) : DSp := fun ds Q => ∃ (a b c d m n : Int) (k : Nat), ds = [fr a b, fr c d, fr m n] ∧ Dr k a b ∧ Dr k c d ∧ Dr k m n ∧ k ≤ 1000 ∧ Q (f a b c d m n)
/-- a direction between two others -/
def btw (a b c d : Int) : D := if a = c ∧ b = d then fr (-a) (-b) else if cr a b c d = 0 then fr (-b) a else if 0 < cr a b c d then dirv (a + c) (b + d) else dirv (-(a + c)) (-(b + d))
theorem fdiv_neg_dvd {x g : Int} (hg : g ≠ 0) (h : g ∣ x) : (-x).fdiv g = -(x.fdiv g) := by
  obtain ⟨u, rfl⟩ := h
  rw [show -(g * u) = (-u) * g by grind, Int.mul_fdiv_cancel _ hg, Int.mul_comm g u, Int.mul_fdiv_cancel _ hg]
theorem dirv_neg {a b : Int} (h : ¬ (a = 0 ∧ b = 0)) {u v : Int} (e : dirv a b = fr u v) : dirv (-a) (-b) = fr (-u) (-v) := by
  have g0 := g2_pos h
  unfold dirv at *
  simp only [PyData.tuple.injEq, List.cons.injEq, PyData.int.injEq, and_true] at e
  obtain ⟨rfl, rfl⟩ := e
  have eg : Int.gcd (-a) (-b) = Int.gcd a b := by rw [Int.neg_gcd, Int.gcd_neg]
  rw [eg, fdiv_neg_dvd (by omega) (Int.gcd_dvd_left ..), fdiv_neg_dvd (by omega) (Int.gcd_dvd_right ..)]
theorem dirv_Dr {a b : Int} {k : Nat} (h : ¬ (a = 0 ∧ b = 0)) (ha : Bd k a) (hb : Bd k b) : ∃ u v : Int, dirv a b = fr u v ∧ Dr k u v ∧ a = u * Int.gcd a b ∧ b = v * Int.gcd a b := by
  obtain ⟨u, v, e, g, e1, e2⟩ := dirv_spec h
  have g0 := g2_pos h
  have le : ∀ {x y : Int}, x = y * Int.gcd a b → y.natAbs ≤ x.natAbs := fun {x y} z => by
    rw [z, Int.natAbs_mul]
    exact Nat.le_mul_of_pos_right _ (by omega)
  exact ⟨u, v, e, ⟨g, ⟨Nat.lt_of_le_of_lt (le e1) ha.h⟩, ⟨Nat.lt_of_le_of_lt (le e2) hb.h⟩⟩, e1, e2⟩
theorem Dr.mono {j k : Nat} {a b : Int} (h : Dr j a b) (l : j ≤ k) : Dr k a b := ⟨h.1, h.2.1.mono l, h.2.2.mono l⟩
theorem Dr.neg {k : Nat} {a b : Int} (h : Dr k a b) : Dr k (-a) (-b) := ⟨by rw [Int.neg_gcd, Int.gcd_neg]; exact h.1, @bd_neg _ _ h.2.1, @bd_neg _ _ h.2.2⟩
theorem Dr.qua {k : Nat} {a b : Int} (h : Dr k a b) : Dr k (-b) a := ⟨by rw [Int.neg_gcd, Int.gcd_comm]; exact h.1, @bd_neg _ _ h.2.2, h.2.1⟩
theorem Dr.ne {k : Nat} {a b : Int} (h : Dr k a b) : ¬ (a = 0 ∧ b = 0) := gcd_ne h.1
theorem sum_ne {k : Nat} {a b c d : Int} (h1 : Dr k a b) (h : cr a b c d ≠ 0) : ¬ (a + c = 0 ∧ b + d = 0) := by
  rintro ⟨z1, z2⟩
  apply h
  have e1 : c = -a := by omega
  have e2 : d = -b := by omega
  subst e1; subst e2
  unfold cr; grind
/-- what stands between two lies in the arc -/
theorem btw_arc {k : Nat} {a b c d : Int} (h1 : Dr k a b) (h2 : Dr k c d) : ∃ u v : Int, btw a b c d = fr u v ∧ Dr (k + 1) u v ∧ arcB a b c d u v = true := by
  unfold btw
  by_cases e : a = c ∧ b = d
  · rw [if_pos e]
    obtain ⟨rfl, rfl⟩ := e
    refine ⟨_, _, rfl, h1.neg.mono (by omega), ?_⟩
    have ne : ¬ (a = -a ∧ b = -b) := fun z => h1.ne (by omega)
    have t := ahead_tot h1.1 h1.neg.1 ne
    unfold arcB
    rw [ahead_irr, if_neg (by decide), t]
    cases aheadB a b (-a) (-b) <;> rfl
  · rw [if_neg e]
    by_cases z : cr a b c d = 0
    · rw [if_pos z]
      refine ⟨_, _, rfl, h1.qua.mono (by omega), ?_⟩
      have q : a * d = b * c := by unfold cr at z; omega
      rcases cop_pm h1.1 h2.1 q with ⟨e1, e2⟩ | ⟨e1, e2⟩
      · exact absurd ⟨e1.symm, e2.symm⟩ e
      · subst e1; subst e2
        have p : 0 < a * a + b * b := sq_pos h1.ne
        exact arc_mid h1.ne h1.neg.ne h1.qua.ne (by unfold cr; grind) (by unfold cr; grind)
    · rw [if_neg z]
      have sn := sum_ne (c := c) (d := d) h1 z
      by_cases p : 0 < cr a b c d
      · rw [if_pos p]
        obtain ⟨u, v, e1, D, e3, e4⟩ := dirv_Dr (k := k + 1) sn (bd_add2 h1.2.1 h2.2.1) (bd_add2 h1.2.2 h2.2.2)
        refine ⟨u, v, e1, D, ?_⟩
        have g0 := g2_pos sn
        generalize Int.gcd (a + c) (b + d) = g at e3 e4 g0
        refine arc_mid h1.ne h2.ne D.ne ?_ ?_
        · refine (pos_pos (x := (g : Int)) (by omega)).mp ?_
          have : (g : Int) * cr a b u v = cr a b c d := by unfold cr; grind
          omega
        · refine (pos_pos (x := (g : Int)) (by omega)).mp ?_
          have : (g : Int) * cr u v c d = cr a b c d := by unfold cr; grind
          omega
      · rw [if_neg p]
        have sn' : ¬ (-(a + c) = 0 ∧ -(b + d) = 0) := fun y => sn (by omega)
        obtain ⟨u, v, e1, D, e3, e4⟩ := dirv_Dr (k := k + 1) sn' (@bd_neg _ _ (bd_add2 h1.2.1 h2.2.1)) (@bd_neg _ _ (bd_add2 h1.2.2 h2.2.2))
        refine ⟨u, v, e1, D, ?_⟩
        have g0 := g2_pos sn'
        generalize Int.gcd (-(a + c)) (-(b + d)) = g at e3 e4 g0
        refine arc_mid h1.ne h2.ne D.ne ?_ ?_
        · refine (pos_pos (x := (g : Int)) (by omega)).mp ?_
          have : (g : Int) * cr a b u v = -cr a b c d := by unfold cr; grind
          omega
        · refine (pos_pos (x := (g : Int)) (by omega)).mp ?_
          have : (g : Int) * cr u v c d = -cr a b c d := by unfold cr; grind
          omega
/-- the arc from v to u has just what that from u to v has not -/
theorem arc_other {k : Nat} {a b c d m n : Int} (h1 : Dr k a b) (h2 : Dr k c d) (h3 : Dr k m n) (n1 : ¬ (a = c ∧ b = d)) (n2 : ¬ (a = m ∧ b = n)) (n3 : ¬ (c = m ∧ d = n)) : arcB c d a b m n = !arcB a b c d m n := by
  have t1 := ahead_tot h1.1 h2.1 n1
  have t2 := ahead_tot h1.1 h3.1 n2
  have t3 := ahead_tot h2.1 h3.1 n3
  unfold arcB
  rw [t1, t2, t3]
  cases aheadB a b c d <;> cases aheadB a b m n <;> cases aheadB c d m n <;> rfl
/-- the law's own look at arcs -/
def arcL (a b c d m n : Int) : Bool := if (a = c ∧ b = d) ∨ (a = m ∧ b = n) ∨ (c = m ∧ d = n) then decide (a = c ∧ b = d) && !decide (m = a ∧ n = b) else arcB a b c d m n
theorem arcL_eq {k : Nat} {a b c d m n : Int} (h1 : Dr k a b) (h2 : Dr k c d) (h3 : Dr k m n) : arcL a b c d m n = arcB a b c d m n := by
  unfold arcL
  by_cases e : a = c ∧ b = d
  · obtain ⟨rfl, rfl⟩ := e
    rw [if_pos (.inl ⟨rfl, rfl⟩)]
    unfold arcB
    rw [ahead_irr, if_neg (by decide)]
    by_cases e2 : a = m ∧ b = n
    · obtain ⟨rfl, rfl⟩ := e2
      rw [ahead_irr]; simp
    · have t := ahead_tot h1.1 h3.1 e2
      rw [t]
      have e3 : ¬ (m = a ∧ n = b) := fun z => e2 ⟨z.1.symm, z.2.symm⟩
      rw [decide_eq_true (show a = a ∧ b = b from ⟨rfl, rfl⟩), decide_eq_false e3]
      cases aheadB a b m n <;> rfl
  · by_cases e2 : a = m ∧ b = n
    · obtain ⟨rfl, rfl⟩ := e2
      rw [if_pos (.inr (.inl ⟨rfl, rfl⟩)), decide_eq_false e]
      unfold arcB
      rw [ahead_irr]
      have t := ahead_tot h1.1 h2.1 e
      skip
      cases aheadB a b c d <;> rfl
    · by_cases e3 : c = m ∧ d = n
      · obtain ⟨rfl, rfl⟩ := e3
        rw [if_pos (.inr (.inr ⟨rfl, rfl⟩)), decide_eq_false e]
        unfold arcB
        rw [ahead_irr]
        cases aheadB a b c d <;> rfl
      · rw [if_neg (by rintro (z | z | z) <;> contradiction)]
end PH

/-! Lists of data whose items are told by a predicate. -/
namespace PH
open PySem PySem.Spec L2
theorem atI_5 {α : Type} {a b c d e f : α} {l : List α} : L2.atI (a :: b :: c :: d :: e :: f :: l) 5 = some f := by simpa using L2.atI_nat (xs := a :: b :: c :: d :: e :: f :: l) (j := 5) (v := f) rfl
theorem atI_6 {α : Type} {a b c d e f g : α} {l : List α} : L2.atI (a :: b :: c :: d :: e :: f :: g :: l) 6 = some g := by simpa using L2.atI_nat (xs := a :: b :: c :: d :: e :: f :: g :: l) (j := 6) (v := g) rfl
theorem atI_7 {α : Type} {a b c d e f g h : α} {l : List α} : L2.atI (a :: b :: c :: d :: e :: f :: g :: h :: l) 7 = some h := by simpa using L2.atI_nat (xs := a :: b :: c :: d :: e :: f :: g :: h :: l) (j := 7) (v := h) rfl
/-- a comprehension whose items keep a promise -/
theorem dLcc_r {mi : DA} {g : DG} {me : DE} {vs : List Nat} {σd : DSt} {Q : List D → Prop} (ys : List D) (P : D → Prop) (hi : ∀ R : List D → Prop, R ys → mi σd R) (hl : ys.length ≤ 1000000)
    (h : ∀ y ∈ ys, ∀ Q : D → Prop, (∀ z, P z → Q z) → g y (dwipe (clean σd) vs) fun σ2 => me σ2 Q) (hq : ∀ zs : List D, zs.length = ys.length → (∀ z ∈ zs, P z) → Q zs) : dLcc mi g dYes me vs σd Q := by
  refine hi _ ⟨hl, fun i acc => acc.length = min i ys.length ∧ ∀ z ∈ acc, P z, ⟨by simp, by simp⟩, fun i y acc hy _ w => ?_, fun acc w => hq acc (by rw [w.1, Nat.min_self]) w.2⟩
  have hlt := (List.getElem?_eq_some_iff.mp hy).1
  refine h y (List.mem_of_getElem? hy) _ fun z hz => ?_
  show (acc ++ [z]).length = min (i + 1) ys.length ∧ ∀ z' ∈ acc ++ [z], P z'
  refine ⟨by rw [List.length_append, w.1]; simp; omega, fun z' hz' => ?_⟩
  rcases List.mem_append.mp hz' with q | q
  · exact w.2 z' q
  · simp at q; subst q; exact hz
theorem dLcc_rt {mi : DA} {g : DG} {mt : DT} {me : DE} {vs : List Nat} {σd : DSt} {Q : List D → Prop} (ys : List D) (P : D → Prop) (hi : ∀ R : List D → Prop, R ys → mi σd R) (hl : ys.length ≤ 1000000)
    (h : ∀ y ∈ ys, ∀ (Q : D → Prop) (Q0 : Prop), (∀ z, P z → Q z) → Q0 → g y (dwipe (clean σd) vs) fun σ2 => mt σ2 fun b => if b = true then me σ2 Q else Q0) (hq : ∀ zs : List D, zs.length ≤ ys.length → (∀ z ∈ zs, P z) → Q zs) : dLcc mi g mt me vs σd Q := by
  refine hi _ ⟨hl, fun i acc => acc.length ≤ min i ys.length ∧ ∀ z ∈ acc, P z, ⟨by simp, by simp⟩, fun i y acc hy _ w => ?_, fun acc w => hq acc (by have := w.1; omega) w.2⟩
  have hlt := (List.getElem?_eq_some_iff.mp hy).1
  refine h y (List.mem_of_getElem? hy) _ _ (fun z hz => ?_) ⟨by omega, w.2⟩
  show (acc ++ [z]).length ≤ min (i + 1) ys.length ∧ ∀ z' ∈ acc ++ [z], P z'
  refine ⟨by rw [List.length_append]; simp; omega, fun z' hz' => ?_⟩
  rcases List.mem_append.mp hz' with q | q
  · exact w.2 z' q
  · simp at q; subst q; exact hz
/-! pairs of integers in lists -/
def IsFr (d : D) : Prop := ∃ a b : Int, d = fr a b
theorem lay_frs : ∀ {xs : List D}, (∀ x ∈ xs, IsFr x) → PyData.canLayAll0 xs = true ∧ PyData.depthAll xs ≤ 1
  | [], _ => ⟨by simp [PyData.canLayAll0], by simp [PyData.depthAll]⟩
  | x :: xs, h => by
    obtain ⟨a, b, rfl⟩ := h x (by simp)
    obtain ⟨h1, h2⟩ := lay_frs (xs := xs) fun y hy => h y (by simp [hy])
    exact ⟨by simp [PyData.canLayAll0, PyData.canLay0, h1], by simp [PyData.depthAll, PyData.depth]; omega⟩
theorem sh_frs {xs : List D} (h : ∀ x ∈ xs, IsFr x) : SeqAt.shaped (.list xs) = true := by
  obtain ⟨h1, h2⟩ := lay_frs h
  have e1 : (PyData.list xs).canLay0 = true := by simpa [PyData.canLay0] using h1
  have e2 : (PyData.list xs).depth ≤ 2 := by simp only [PyData.depth]; omega
  simp [SeqAt.shaped, e1]
  omega
theorem eqv_ff {p q r s : Int} : PyData.eqv (fr p q) (fr r s) = (decide (p = r) && decide (q = s)) := by
  simp only [PyData.eqv, PyData.eqvAll, Bool.and_true]; rfl
theorem eqv_fr {x y : D} (hx : IsFr x) (hy : IsFr y) : PyData.eqv x y = true ↔ x = y := by
  obtain ⟨a, b, rfl⟩ := hx
  obtain ⟨c, d, rfl⟩ := hy
  rw [eqv_ff]
  simp
theorem any_fr {xs : List D} {y : D} (h : ∀ x ∈ xs, IsFr x) (hy : IsFr y) : (xs.any fun z => PyData.eqv z y) = true ↔ y ∈ xs := by
  rw [List.any_eq_true]
  constructor
  · rintro ⟨z, hz, e⟩
    rw [(eqv_fr (h z hz) hy).mp e] at hz; exact hz
  · exact fun hz => ⟨y, hz, (eqv_fr hy hy).mpr rfl⟩
theorem dIn_fr {neg : Bool} {xs : List D} {y : D} {Q : D → Prop} (hx : ∀ x ∈ xs, IsFr x) (hy : IsFr y) (h1 : y ∈ xs → Q (.bool (!neg))) (h2 : y ∉ xs → Q (.bool neg)) : dIn neg y (.list xs) Q := by
  have key : Q (.bool (if neg = true then !(xs.any fun z => PyData.eqv z y) else xs.any fun z => PyData.eqv z y)) := by
    have e := any_fr hx hy
    cases ha : (xs.any fun z => PyData.eqv z y) with
    | true =>
      have := h1 (e.mp ha)
      cases neg <;> simpa using this
    | false =>
      have := h2 (fun z => by rw [e.mpr z] at ha; cases ha)
      cases neg <;> simpa using this
  obtain ⟨a, b, rfl⟩ := hy
  exact ⟨sh_ii, sh_frs hx, key⟩
theorem dIn_frT {neg : Bool} {xs : List D} {y : D} {Q : D → Prop} (hx : ∀ x ∈ xs, IsFr x) (hy : IsFr y) (h1 : y ∈ xs → Q (.bool (!neg))) (h2 : y ∉ xs → Q (.bool neg)) : dIn neg y (.tuple xs) Q := by
  have := dIn_fr (neg := neg) hx hy h1 h2
  exact this
theorem dNe_bb {x y : Bool} {Q : D → Prop} (h : Q (.bool (x != y))) : dNe (.bool x) (.bool y) Q := by
  refine ⟨by cases x <;> decide, by cases y <;> decide, ?_⟩
  have e : PyData.eqv (.bool x) (.bool y) = (x == y) := by cases x <;> cases y <;> decide
  rw [e]; cases x <;> cases y <;> exact h
theorem dEq_bb {x y : Bool} {Q : D → Prop} (h : Q (.bool (x == y))) : dEq (.bool x) (.bool y) Q := by
  refine ⟨by cases x <;> decide, by cases y <;> decide, ?_⟩
  have e : PyData.eqv (.bool x) (.bool y) = (x == y) := by cases x <;> cases y <;> decide
  rw [e]; exact h
theorem IsDr.fr {k : Nat} {d : D} (h : IsDr k d) : IsFr d := let ⟨a, b, e, _⟩ := h; ⟨a, b, e⟩
theorem IsDr.mono {j k : Nat} {d : D} (h : IsDr j d) (l : j ≤ k) : IsDr k d := let ⟨a, b, e, z⟩ := h; ⟨a, b, e, z.mono l⟩
/-! the round, made by putting one behind another -/
theorem aheadD_trans {k : Nat} {x y z : D} (hx : IsDr k x) (hy : IsDr k y) (hz : IsDr k z) (h1 : aheadD x y = true) (h2 : aheadD y z = true) : aheadD x z = true := by
  obtain ⟨a, b, rfl, p⟩ := hx
  obtain ⟨c, d, rfl, q⟩ := hy
  obtain ⟨m, n, rfl, r⟩ := hz
  exact ahead_trans p.ne q.ne r.ne h1 h2
theorem aheadD_tot {k : Nat} {x y : D} (hx : IsDr k x) (hy : IsDr k y) (h : x ≠ y) : aheadD y x = !aheadD x y := by
  obtain ⟨a, b, rfl, p⟩ := hx
  obtain ⟨c, d, rfl, q⟩ := hy
  exact ahead_tot p.1 q.1 fun z => h (by rw [z.1, z.2])
/-- those ahead of u are the first ones -/
theorem round_pre {k : Nat} {u : D} (hu : IsDr k u) : ∀ {xs : List D}, (∀ x ∈ xs, IsDr k x) → xs.Pairwise (fun x y => aheadD x y = true) → u ∉ xs →
    ∃ m, xs.filter (fun x => aheadD x u) = xs.take m ∧ (∀ x ∈ xs.take m, aheadD x u = true) ∧ (∀ x ∈ xs.drop m, aheadD u x = true) ∧ m = (xs.filter (fun x => aheadD x u)).length
  | [], _, _, _ => ⟨0, by simp⟩
  | x :: xs, h, hp, hn => by
    have hx := h x (by simp)
    have hxs : ∀ y ∈ xs, IsDr k y := fun y hy => h y (by simp [hy])
    have hne : x ≠ u := fun z => hn (by simp [z])
    rw [List.pairwise_cons] at hp
    cases e : aheadD x u with
    | true =>
      obtain ⟨m, h1, h2, h3, h4⟩ := round_pre hu hxs hp.2 (fun z => hn (by simp [z]))
      refine ⟨m + 1, by simp [List.filter_cons, e, h1], ?_, by simpa using h3, by simp only [List.filter_cons, e, if_true, List.length_cons]; omega⟩
      intro y hy
      simp only [List.take_succ_cons, List.mem_cons] at hy
      rcases hy with rfl | hy
      · exact e
      · exact h2 y hy
    | false =>
      have ux : aheadD u x = true := by rw [aheadD_tot hx hu hne, e]; rfl
      have al : ∀ y ∈ xs, aheadD u y = true := fun y hy => aheadD_trans hu hx (hxs y hy) ux (hp.1 y hy)
      have no : ∀ y ∈ xs, aheadD y u = false := fun y hy => by
        rw [aheadD_tot hu (hxs y hy) (fun z => hn (by simp [z, hy])), al y hy]; rfl
      have fe : xs.filter (fun x => aheadD x u) = [] := List.filter_eq_nil_iff.mpr fun y hy => by rw [no y hy]; simp
      refine ⟨0, by simp [List.filter_cons, e, fe], by simp, ?_, by simp [List.filter_cons, e, fe]⟩
      intro y hy
      simp only [List.drop_zero, List.mem_cons] at hy
      rcases hy with rfl | hy
      · exact ux
      · exact al y hy
theorem round_ins {k : Nat} {u : D} (hu : IsDr k u) {xs : List D} (h : ∀ x ∈ xs, IsDr k x) (hp : xs.Pairwise (fun x y => aheadD x y = true)) (hn : u ∉ xs) :
    let zs := xs.filter fun x => aheadD x u
    (zs ++ [u] ++ xs.drop zs.length).Pairwise (fun x y => aheadD x y = true) ∧ (∀ x ∈ zs ++ [u] ++ xs.drop zs.length, IsDr k x) ∧ (zs ++ [u] ++ xs.drop zs.length).length = xs.length + 1 := by
  obtain ⟨m, h1, h2, h3, h4⟩ := round_pre hu h hp hn
  intro zs
  have ez : zs = xs.take m := h1
  have em : zs.length = m := h4.symm
  rw [em, ez]
  have sub1 : ∀ x ∈ xs.take m, IsDr k x := fun x hx => h x (List.mem_of_mem_take hx)
  have sub2 : ∀ x ∈ xs.drop m, IsDr k x := fun x hx => h x (List.mem_of_mem_drop hx)
  refine ⟨?_, ?_, ?_⟩
  · rw [List.pairwise_append, List.pairwise_append]
    refine ⟨⟨hp.sublist (List.take_sublist m xs), by simp, fun x hx y hy => ?_⟩, hp.sublist (List.drop_sublist m xs), fun x hx y hy => ?_⟩
    · simp at hy; subst hy; exact h2 x hx
    · rcases List.mem_append.mp hx with hx | hx
      · exact aheadD_trans (sub1 x hx) hu (sub2 y hy) (h2 x hx) (h3 y hy)
      · simp at hx; subst hx; exact h3 y hy
  · intro x hx
    simp only [List.mem_append, List.mem_cons, List.not_mem_nil, or_false] at hx
    rcases hx with (hx | rfl) | hx
    · exact sub1 x hx
    · exact hu
    · exact sub2 x hx
  · simp only [List.length_append, List.length_cons, List.length_nil, List.length_take, List.length_drop]
    have : m ≤ xs.length := by rw [← em, ez]; simp; omega
    omega
theorem boolsD_true : ∀ {xs : List D}, (∀ x ∈ xs, x = .bool true) → ∃ bs : List Bool, boolsD xs = some bs ∧ bs.all id = true
  | [], _ => ⟨[], rfl, rfl⟩
  | x :: xs, h => by
    obtain ⟨bs, h1, h2⟩ := boolsD_true (xs := xs) fun y hy => h y (by simp [hy])
    have := h x (by simp)
    subst this
    exact ⟨true :: bs, by simp [boolsD, h1], by simp [h2]⟩
theorem pair_next {R : D → D → Prop} : ∀ {xs : List D}, xs.Pairwise R → ∀ y ∈ zipD xs (xs.drop 1), ∃ a b, y = .tuple [a, b] ∧ R a b ∧ a ∈ xs ∧ b ∈ xs
  | [], _, y, hy => by simp [zipD] at hy
  | [x], _, y, hy => by simp [zipD] at hy
  | x :: z :: xs, hp, y, hy => by
    rw [List.pairwise_cons] at hp
    have e : zipD (x :: z :: xs) ((x :: z :: xs).drop 1) = .tuple [x, z] :: zipD (z :: xs) ((z :: xs).drop 1) := rfl
    rw [e] at hy
    rcases List.mem_cons.mp hy with rfl | hy
    · exact ⟨x, z, rfl, hp.1 z (by simp), by simp, by simp⟩
    · obtain ⟨a, b, e1, e2, e3, e4⟩ := pair_next hp.2 y hy
      exact ⟨a, b, e1, e2, List.mem_cons_of_mem _ e3, List.mem_cons_of_mem _ e4⟩
theorem zipD_len (xs ys : List D) : (zipD xs ys).length ≤ xs.length := by
  unfold zipD; rw [List.length_zipWith]; omega
end PH
namespace PH
open PySem PySem.Spec L2
theorem cutD_len (xs : List D) (lo hi : Option Int) : (cutD xs lo hi).length ≤ xs.length := by
  unfold cutD; rw [List.length_take, List.length_drop]; omega
theorem cutD_from {xs : List D} {n : Nat} (h : n ≤ xs.length) : cutD xs (some (n : Int)) none = xs.drop n := by
  unfold cutD
  rw [HT.sIx_nat, HT.sIx_none, Nat.min_eq_left h]
  rw [List.take_of_length_le (by rw [List.length_drop]; exact Nat.le_refl _)]
/-- a for whose state counts the turns -/
theorem dFor_i {mi : DA} {g : DG} {mb rest : DS} {Dd : DEnds} {σd : DSt} (ys : List D) (W : Nat → DSt → Prop) (hi : ∀ R : List D → Prop, R ys → mi σd R) (h0 : W 0 σd)
    (ht : ∀ i y, ys[i]? = some y → ∀ σ', W i σ' → g y σ' fun σ2 => mb { Dd with nx := W (i + 1), ct := W (i + 1), bk := rest Dd } σ2) (hr : ∀ σ', W ys.length σ' → rest Dd σ') : dSeq (dFor mi g mb) rest Dd σd :=
  hi _ ⟨W, h0, fun i y σ' e w => ht i y e σ' w, hr⟩
end PH
namespace PH
open PySem PySem.Spec L2
theorem dIfE_b {t : DT} {m n : DE} {σd : DSt} {K : D → Prop} (P : D → Prop) (ht : ∀ R : Bool → Prop, (∀ b, R b) → t σd R) (hm : ∀ R : D → Prop, (∀ d, P d → R d) → m σd R) (hn : ∀ R : D → Prop, (∀ d, P d → R d) → n σd R) (h : ∀ d, P d → K d) : dIfE t m n σd K :=
  ht _ fun b => by
    cases b with
    | true => exact iteT (hm K h)
    | false => exact iteF (hn K h)
def spDrawDir : DSp := fun ds Q => ds = [SRC] ∧ ∀ a b : Int, Dr 3 a b → Q (fr a b)
def spFarDir : DSp := fun ds Q => ds = [SRC] ∧ ∀ xs : List D, xs.length ≤ 10 → (∀ x ∈ xs, IsDr 31 x) → Q (.list xs)
def spRound : DSp := fun ds Q => ∃ (xs : List D) (k : Nat), ds = [.list xs] ∧ (∀ x ∈ xs, IsDr k x) ∧ xs.length ≤ 1000 ∧ k ≤ 1000 ∧ ∀ ys : List D, (∀ y ∈ ys, IsDr k y) → ys.Pairwise (fun x y => aheadD x y = true) → ys.length ≤ xs.length → Q (.list ys)
def spTwo6 : DSp := fun ds Q => ∃ (a b c d : Int) (xs : List D), ds = [fr a b, fr c d, .list xs] ∧ Dr 40 a b ∧ Dr 40 c d ∧ (∀ x ∈ xs, IsDr 40 x) ∧ xs.length ≤ 1000 ∧ Q (.bool true)
def spSide : DSp := fun ds Q => ∃ a b : Int, ds = [fr a b] ∧ ¬ (a = 0 ∧ b = 0) ∧ Q (.int (if upper a b = true then 0 else 1))
end PH
namespace PH
open PySem PySem.Spec L2
theorem cut_1 (ys : List D) : cutD ys (some 1) none = ys.drop 1 := by
  cases ys with
  | nil => rfl
  | cons y ys => exact cutD_from (n := 1) (by simp)
end PH

/-! Heights and lines. -/
namespace PH
open PySem PySem.Spec L2
/-! a list taken apart -/
def dgUnl (gs : DGs) : DG := fun d σd Q => match d with | .list ds => gs ds σd Q | _ => False
theorem lg_unl {K : PySem.W.Frag} {n : Nat} {gs : TGs} {dgs : DGs} (hg : LGs gs dgs) (hn : ∀ ds σd Q, dgs ds σd Q → ds.length = n) : LG (gUnl K n gs) (dgUnl dgs) := by
  intro S M H0 H σ σd v d Qd Q E r h k
  cases r <;> first | exact h.elim | skip
  rename_i a xs ds na e r
  exact ⟨a, xs, rfl, .inl (.inl e), by rw [r.length]; exact hn _ _ _ h, hg S M H0 H σ σd xs ds Qd Q E r h k⟩
theorem pdg_unl {X : Cx} {pos : Pos} {k n : Nat} {es : List Expr} {dg : DGs} (hc : X.calm = true) (h : PDGs X es n dg) (hn : (assignEach es X.env).length = n := by rfl) (hst : (assignEach es X.env).findIdx? (·.1) = none := by rfl) : PDG X (.Tuple es k pos) (dgUnl dg) :=
  let ⟨_, h1, l1, q⟩ := h; ⟨_, pg_unl hc h1 hn hst, lg_unl l1 q⟩
/-! heights -/
def spHeight : DSp := fun ds Q => ∃ (x y a b c : Int) (k : Nat), ds = [fr x y, pl a b c] ∧ c ≠ 0 ∧ Bd k x ∧ Bd k y ∧ Bd k a ∧ Bd k b ∧ Bd k c ∧ k ≤ 1000 ∧ Q (frac (x * a + y * b) c)
def spHalfAt : DSp := fun ds Q => ∃ (x y a b c : Int) (k : Nat), ds = [fr x y, pl a b c] ∧ ¬ (x = 0 ∧ y = 0) ∧ c ≠ 0 ∧ Bd k x ∧ Bd k y ∧ Bd k a ∧ Bd k b ∧ Bd k c ∧ k ≤ 1000 ∧ Q (halfv (x * c) (y * c) (x * a + y * b))
def spHalfFrom : DSp := fun ds Q => ∃ (x y z t : Int) (k : Nat), ds = [fr x y, fr z t] ∧ ¬ (x = 0 ∧ y = 0) ∧ t ≠ 0 ∧ Bd k x ∧ Bd k y ∧ Bd k z ∧ Bd k t ∧ k ≤ 1000 ∧ Q (halfv (x * t) (y * t) z)
def spCross : DSp := fun ds Q => ∃ (a b c d e g : Int) (k : Nat), ds = [pl a b c, pl d e g] ∧ Bd k a ∧ Bd k b ∧ Bd k c ∧ Bd k d ∧ Bd k e ∧ Bd k g ∧ k ≤ 1000 ∧ (a * e - d * b = 0 → Q .none) ∧ (a * e - d * b ≠ 0 → Q (plc (c * e - g * b) (a * g - d * c) (a * e - d * b)))
def spHR : DSp := fun ds Q => ∃ x y a b c d e g : Int, ds = [SRC, fr x y, pl a b c, pl d e g] ∧ Dr 31 x y ∧ Pl 31 a b c ∧ Pl 31 d e g ∧ Q (.bool true)
def spLR : DSp := fun ds Q => ∃ a b c d e g h i j : Int, ds = [pl a b c, pl d e g, pl h i j] ∧ Pl 31 a b c ∧ Pl 31 d e g ∧ Pl 31 h i j ∧ pl a b c ≠ pl d e g ∧ pl a b c ≠ pl h i j ∧ Q (.bool true)
theorem halfv_form {a b c : Int} {k : Nat} (h : ¬ (a = 0 ∧ b = 0)) (ha : Bd k a) (hb : Bd k b) (hc : Bd k c) : ∃ u v w G : Int, halfv a b c = pl u v w ∧ 0 < G ∧ a = G * u ∧ b = G * v ∧ c = G * w ∧ ¬ (u = 0 ∧ v = 0) ∧ g3 u v w = 1 ∧ Bd k u ∧ Bd k v ∧ Bd k w := by
  obtain ⟨u, v, w, e, h1, h2, h3, h4, h5⟩ := halfv_spec (c := c) h
  obtain ⟨b1, b2, b3⟩ := halfv_bd ha hb hc h e
  have g0 := g3h_pos (c := c) h
  exact ⟨u, v, w, g3 a b c, e, by omega, h3, h4, h5, h1, h2, b1, b2, b3⟩
/-- half planes along one direction, through places of one height, are one -/
theorem halfv_congr {x y c h c' h' : Int} (h0 : ¬ (x = 0 ∧ y = 0)) (hc : 0 < c) (hc' : 0 < c') (e : h * c' = h' * c) : halfv (x * c) (y * c) h = halfv (x * c') (y * c') h' := by
  have n1 : ¬ (x * c = 0 ∧ y * c = 0) := fun z => h0 ⟨by rcases Int.mul_eq_zero.mp z.1 with q | q <;> omega, by rcases Int.mul_eq_zero.mp z.2 with q | q <;> omega⟩
  have n2 : ¬ (x * c' = 0 ∧ y * c' = 0) := fun z => h0 ⟨by rcases Int.mul_eq_zero.mp z.1 with q | q <;> omega, by rcases Int.mul_eq_zero.mp z.2 with q | q <;> omega⟩
  rw [← halfv_scale (c := h) n1 hc', ← halfv_scale (c := h') n2 hc, e, show x * c * c' = x * c' * c by grind, show y * c * c' = y * c' * c by grind]
theorem mul_ne2 {x y c : Int} (h0 : ¬ (x = 0 ∧ y = 0)) (hc : c ≠ 0) : ¬ (x * c = 0 ∧ y * c = 0) := fun z => h0 ⟨by rcases Int.mul_eq_zero.mp z.1 with q | q <;> omega, by rcases Int.mul_eq_zero.mp z.2 with q | q <;> omega⟩
theorem dirv_id {x y : Int} (g : Int.gcd x y = 1) : dirv x y = fr x y := by
  unfold dirv
  rw [g]
  have e : ∀ z : Int, z.fdiv ((1 : Nat) : Int) = z := fun z => Int.fdiv_one z
  rw [e, e]
/-- the normal of a half plane made along a direction is this direction -/
theorem norm_dir {x y c A B G : Int} (g : Int.gcd x y = 1) (hc : 0 < c) (hG : 0 < G) (h1 : x * c = G * A) (h2 : y * c = G * B) (hn : ¬ (A = 0 ∧ B = 0)) : dirv A B = fr x y := by
  rw [← dirv_scale hn hG, Int.mul_comm A, Int.mul_comm B, ← h1, ← h2, dirv_scale (gcd_ne g) hc, dirv_id g]
theorem isHalf_ok {u v w : Int} (h : ¬ (u = 0 ∧ v = 0)) (g : g3 u v w = 1) : isHalf (pl u v w) = true := by
  rw [isHalf_3, g]
  rcases Decidable.not_and_iff_not_or_not.mp h with z | z <;> simp [z]
theorem zero_of {G z : Int} (hG : 0 < G) (h : G * z = 0) : z = 0 := by
  rcases Int.mul_eq_zero.mp h with q | q <;> omega
theorem nonneg_iff {G z : Int} (hG : 0 < G) : 0 ≤ G * z ↔ 0 ≤ z := by
  constructor
  · intro h
    by_cases q : 0 ≤ z
    · exact q
    · have := Int.mul_neg_of_pos_of_neg hG (show z < 0 by omega)
      omega
  · exact fun h => Int.mul_nonneg (by omega) h
theorem nonpos_iff {G z : Int} (hG : 0 < G) : G * z ≤ 0 ↔ z ≤ 0 := by
  have := nonneg_iff (z := -z) hG
  rw [Int.mul_neg] at this
  omega
/-- excess beside a half plane through height h / c' (along x, y): as heights are -/
theorem excess_sign {x y t z A B C G a b c : Int} (h1 : x * t = G * A) (h2 : y * t = G * B) (h3 : z = G * C) : G * excess A B C a b c = t * (x * a + y * b) - z * c := by
  unfold excess
  have : G * (A * a + B * b - C * c) = (G * A) * a + (G * B) * b - (G * C) * c := by grind
  rw [this, ← h1, ← h2, ← h3]; grind
/-- the place on two lines that are not parallel -/
theorem cross_at {a b c d e g h i j : Int} (hj : 0 < j) (hg : g3 h i j = 1) (h1 : excess a b c h i j = 0) (h2 : excess d e g h i j = 0) (hn : a * e - d * b ≠ 0) : plc (c * e - g * b) (a * g - d * c) (a * e - d * b) = pl h i j := by
  unfold excess at h1 h2
  have q1 : c * j = a * h + b * i := by omega
  have q2 : g * j = d * h + e * i := by omega
  refine plc_eq hn hj hg ?_ ?_
  · have : (c * e - g * b) * j = (c * j) * e - (g * j) * b := by grind
    rw [this, q1, q2]; grind
  · have : (a * g - d * c) * j = a * (g * j) - d * (c * j) := by grind
    rw [this, q1, q2]; grind
theorem turn_eq {a b c d e g h i j : Int} (hc : 0 < c) : Int.sign ((d * c - a * g) * (i * c - b * j) - (e * c - b * g) * (h * c - a * j)) = Int.sign (detP a b c d e g h i j) := by
  refine sign_scale (p := 1) (q := c) (by decide) hc ?_
  unfold detP; grind
theorem sign_gt (x y : Int) : (if decide (y < x) = true then (1 : Int) else 0) - (if decide (x < y) = true then 1 else 0) = Int.sign (x - y) := by
  have := sign_eq (x - y)
  rw [← this]
  have e1 : decide (y < x) = decide (0 < x - y) := decide_eq_decide.mpr (by omega)
  have e2 : decide (x < y) = decide (x - y < 0) := decide_eq_decide.mpr (by omega)
  rw [e1, e2]
theorem sign_nonneg {x : Int} : 0 ≤ Int.sign x ↔ 0 ≤ x := by
  rcases Int.lt_trichotomy x 0 with h | h | h
  · rw [Int.sign_eq_neg_one_of_neg h]; omega
  · subst h; decide
  · rw [Int.sign_eq_one_of_pos h]; omega
theorem sign_zero {x : Int} : Int.sign x = 0 ↔ x = 0 := by
  rcases Int.lt_trichotomy x 0 with h | h | h
  · rw [Int.sign_eq_neg_one_of_neg h]; omega
  · subst h; decide
  · rw [Int.sign_eq_one_of_pos h]; omega
theorem sh_bb {a b : Bool} : SeqAt.shaped (.list [.bool a, .bool b]) = true := by cases a <;> cases b <;> decide
end PH
namespace PH
open PySem PySem.Spec L2
theorem far_math {x y a b c m n s0 s1 s2 f0 f1 f2 : Int} (hn : n ≠ 0) (hs : s2 ≠ 0) (h1 : s0 * (1 * n) = -y * m * s2) (h2 : s1 * (1 * n) = x * m * s2) (h3 : f0 * (c * s2) = (a * s2 + s0 * c) * f2) (h4 : f1 * (c * s2) = (b * s2 + s1 * c) * f2) : (x * f0 + y * f1) * c = (x * a + y * b) * f2 := by
  have z : x * s0 + y * s1 = 0 := by
    have : (x * s0 + y * s1) * n = 0 := by
      have e : (x * s0 + y * s1) * n = x * (s0 * (1 * n)) + y * (s1 * (1 * n)) := by grind
      rw [e, h1, h2]; grind
    rcases Int.mul_eq_zero.mp this with q | q
    · exact q
    · exact absurd q hn
  refine Int.eq_of_mul_eq_mul_right hs ?_
  have e : (x * f0 + y * f1) * c * s2 = x * (f0 * (c * s2)) + y * (f1 * (c * s2)) := by grind
  rw [e, h3, h4]
  have e2 : x * ((a * s2 + s0 * c) * f2) + y * ((b * s2 + s1 * c) * f2) = (x * a + y * b) * f2 * s2 + c * f2 * (x * s0 + y * s1) := by grind
  rw [e2, z]; grind
theorem up_math {x y a b c h0 h1 h2 X Y x1 y1 : Int} (hne : ¬ (x = 0 ∧ y = 0)) (hc : 0 < c) (hh : 0 < h2) (hy : 0 < y1) (e1 : x1 * c = (x * a + y * b) * y1) (e2 : X * h2 = (x * h0 + y * h1) * Y) (e3 : h0 * (c * 1) = (a * 1 + x * c) * h2) (e4 : h1 * (c * 1) = (b * 1 + y * c) * h2) : (decide (X = x1) && decide (Y = y1)) = false := by
  cases z : (decide (X = x1) && decide (Y = y1)) with
  | false => rfl
  | true =>
    exfalso
    simp only [Bool.and_eq_true, decide_eq_true_eq] at z
    obtain ⟨rfl, rfl⟩ := z
    have p := sq_pos hne
    have k : X * c * h2 = (x * (h0 * (c * 1)) + y * (h1 * (c * 1))) * Y := by
      have : X * c * h2 = (X * h2) * c := by grind
      rw [this, e2]; grind
    rw [e1, e3, e4] at k
    have : (x * x + y * y) * (c * h2 * Y) = 0 := by grind
    have q := Int.mul_pos p (Int.mul_pos (Int.mul_pos hc hh) hy)
    omega
theorem hle {x1 y1 x2 y2 c g H1 H2 : Int} (hc : 0 < c) (hg : 0 < g) (p1 : 0 < y1) (p2 : 0 < y2) (e1 : x1 * c = H1 * y1) (e2 : x2 * g = H2 * y2) : 0 ≤ c * H2 - H1 * g ↔ ¬ x2 * y1 < x1 * y2 := by
  have k : (x2 * y1 - x1 * y2) * (g * c) = (y1 * y2) * (c * H2 - H1 * g) := by
    have : (x2 * y1 - x1 * y2) * (g * c) = (x2 * g) * (y1 * c) - (x1 * c) * (y2 * g) := by grind
    rw [this, e1, e2]; grind
  have n1 := nonneg_iff (z := c * H2 - H1 * g) (Int.mul_pos p1 p2)
  have n2 := nonneg_iff (z := x2 * y1 - x1 * y2) (Int.mul_pos hg hc)
  rw [Int.mul_comm (g * c), k] at n2
  omega
theorem hle2 {x1 y1 c H1 t z : Int} (hc : 0 < c) (p1 : 0 < y1) (e1 : x1 * c = H1 * y1) : (0 ≤ t * H1 - z * c ↔ ¬ x1 * t < z * y1) ∧ (t * H1 - z * c ≤ 0 ↔ ¬ z * y1 < x1 * t) := by
  have k : c * (x1 * t - z * y1) = y1 * (t * H1 - z * c) := by
    have : c * (x1 * t - z * y1) = (x1 * c) * t - z * y1 * c := by grind
    rw [this, e1]; grind
  have n1 := nonneg_iff (z := t * H1 - z * c) p1
  have n2 := nonneg_iff (z := x1 * t - z * y1) hc
  have n3 := nonpos_iff (z := t * H1 - z * c) p1
  have n4 := nonpos_iff (z := x1 * t - z * y1) hc
  rw [k] at n2 n4
  omega
theorem dec_not {P Q : Prop} [Decidable P] [Decidable Q] (h : P ↔ ¬ Q) : decide P = !decide Q := by
  by_cases q : Q
  · rw [decide_eq_true q, decide_eq_false (fun z => h.mp z q)]; rfl
  · rw [decide_eq_false q, decide_eq_true (h.mpr q)]; rfl
/-- a line through a place, square to the way across -/
theorem line_at {X Y a b c : Int} (h : ¬ (X = 0 ∧ Y = 0)) (hX : Bd 63 X) (hY : Bd 63 Y) (hp : Pl 31 a b c) : ∃ s t γ A B C G : Int, dirv X Y = fr s t ∧ Dr 63 s t ∧ X = s * γ ∧ Y = t * γ ∧ 0 < γ ∧ halfv (-t * c) (s * c) (-t * a + s * b) = pl A B C ∧ 0 < G ∧ -t * c = G * A ∧ s * c = G * B ∧ -t * a + s * b = G * C ∧
    ¬ (A = 0 ∧ B = 0) ∧ Bd 95 A ∧ Bd 95 B ∧ Bd 95 C ∧ excess A B C a b c = 0 := by
  obtain ⟨s, t, e, D, e1, e2⟩ := dirv_Dr h hX hY
  obtain ⟨pc, _, A, B, C⟩ := hp
  have g0 := g2_pos h
  have nt : Bd 63 (-t) := @bd_neg _ _ D.2.2
  have ne := mul_ne2 (x := -t) (y := s) (c := c) (fun z => D.ne (by omega)) (by omega)
  obtain ⟨u, v, w, G, e3, g1, h1, h2, h3, h4, _, b1, b2, b3⟩ := halfv_form (k := 95) (c := -t * a + s * b) ne ((@bd_mul 63 31 _ _ nt C).mono (by decide)) ((@bd_mul 63 31 _ _ D.2.1 C).mono (by decide)) (bd_add2 (a := 94) (@bd_mul 63 31 _ _ nt A) (@bd_mul 63 31 _ _ D.2.1 B))
  · refine ⟨s, t, Int.gcd X Y, u, v, w, G, e, D, e1, e2, by omega, e3, g1, h1, h2, h3, h4, b1, b2, b3, ?_⟩
    refine zero_of g1 ?_
    have := excess_sign (x := -t) (y := s) (t := c) (z := -t * a + s * b) (a := a) (b := b) (c := c) h1 h2 h3
    rw [this]; grind
/-- how two such lines lie -/
theorem lines_cross {s t γ A B G s' t' γ' A' B' G' c c' X Y X' Y' : Int} (h1 : -t * c = G * A) (h2 : s * c = G * B) (h3 : -t' * c' = G' * A') (h4 : s' * c' = G' * B') (e1 : X = s * γ) (e2 : Y = t * γ) (e3 : X' = s' * γ') (e4 : Y' = t' * γ') :
    (γ * γ' * (G * G')) * (A * B' - A' * B) = (c * c') * (X * Y' - Y * X') := by
  subst e1; subst e2; subst e3; subst e4
  have : (γ * γ' * (G * G')) * (A * B' - A' * B) = (γ * γ') * ((G * A) * (G' * B') - (G' * A') * (G * B)) := by grind
  rw [this, ← h1, ← h2, ← h3, ← h4]; grind
theorem on_step {s t γ A B C G a b c d e g X Y : Int} (hG : 0 < G) (hγ : 0 < γ) (h1 : -t * c = G * A) (h2 : s * c = G * B) (h3 : -t * a + s * b = G * C) (e1 : d * c - a * g = s * γ) (e2 : e * c - b * g = t * γ) : excess A B C d e g = 0 := by
  refine zero_of hG ?_
  have := excess_sign (x := -t) (y := s) (t := c) (z := -t * a + s * b) (a := d) (b := e) (c := g) h1 h2 h3
  rw [this]
  have k : c * (-t * d + s * e) - (-t * a + s * b) * g = -t * (d * c - a * g) + s * (e * c - b * g) := by grind
  rw [k, e1, e2]; grind
theorem side_step {s t γ A B C G a b c h i j X Y : Int} (h1 : -t * c = G * A) (h2 : s * c = G * B) (h3 : -t * a + s * b = G * C) (e1 : X = s * γ) (e2 : Y = t * γ) : (γ * G) * excess A B C h i j = X * (i * c - b * j) - Y * (h * c - a * j) := by
  have := excess_sign (x := -t) (y := s) (t := c) (z := -t * a + s * b) (a := h) (b := i) (c := j) h1 h2 h3
  have k : (γ * G) * excess A B C h i j = γ * (G * excess A B C h i j) := by grind
  rw [k, this, e1, e2]; grind
theorem sh_pls2 {a b c d e g : Int} : SeqAt.shaped (.list [pl a b c, pl d e g]) = true := by simp [SeqAt.shaped, PyData.canLay0, PyData.canLayAll0, PyData.depth, PyData.depthAll]
theorem dNe_e2 {a b c d e g : Int} {Q : D → Prop} (h : Q (.bool true)) : dNe (.list [pl a b c, pl d e g]) (.list []) Q := by
  refine ⟨sh_pls2, by decide, ?_⟩
  have : PyData.eqv (.list [pl a b c, pl d e g]) (.list []) = false := by simp [PyData.eqv, PyData.eqvAll]
  rw [this]; exact h
theorem neg_excess {a b c x y d : Int} : excess (-a) (-b) (-c) x y d = -excess a b c x y d := by unfold excess; grind
end PH
namespace PH
open PySem PySem.Spec L2
theorem Bd.cast {k : Nat} {x y : Int} (h : Bd k x) (e : x = y) : Bd k y := e ▸ h
theorem sum_math {x y a b c d e g m0 m1 m2 x1 y1 x2 y2 : Int} (cg : c * g ≠ 0) (e1 : x1 * c = (x * a + y * b) * y1) (e2 : x2 * g = (x * d + y * e) * y2) (h0 : m0 * (c * g) = (a * g + d * c) * m2) (h1 : m1 * (c * g) = (b * g + e * c) * m2) : (x * m0 + y * m1) * (y1 * y2) = (x1 * y2 + x2 * y1) * m2 := by
  refine Int.eq_of_mul_eq_mul_right cg ?_
  have k1 : (x * m0 + y * m1) * (y1 * y2) * (c * g) = (x * (m0 * (c * g)) + y * (m1 * (c * g))) * (y1 * y2) := by grind
  have k2 : (x1 * y2 + x2 * y1) * m2 * (c * g) = ((x1 * c) * (y2 * g) + (x2 * g) * (y1 * c)) * m2 := by grind
  rw [k1, k2, h0, h1, e1, e2]; grind
theorem dif_math {x y a b c d e g m0 m1 m2 x1 y1 x2 y2 : Int} (cg : c * g ≠ 0) (e1 : x1 * c = (x * a + y * b) * y1) (e2 : x2 * g = (x * d + y * e) * y2) (h0 : m0 * (c * g) = (a * g - d * c) * m2) (h1 : m1 * (c * g) = (b * g - e * c) * m2) : (-x * m0 + -y * m1) * (y2 * y1) = (x2 * y1 - x1 * y2) * m2 := by
  refine Int.eq_of_mul_eq_mul_right cg ?_
  have k1 : (-x * m0 + -y * m1) * (y2 * y1) * (c * g) = (-x * (m0 * (c * g)) + -y * (m1 * (c * g))) * (y2 * y1) := by grind
  have k2 : (x2 * y1 - x1 * y2) * m2 * (c * g) = ((x2 * g) * (y1 * c) - (x1 * c) * (y2 * g)) * m2 := by grind
  rw [k1, k2, h0, h1, e1, e2]; grind
end PH
namespace PH
open PySem PySem.Spec L2
theorem two_det {a b c d e g h i j : Int} : (c * c) * ((d * c - a * g) * (i * c - b * j) - (e * c - b * g) * (h * c - a * j)) = (c * c) * (c * detP a b c d e g h i j) := by unfold detP; grind
theorem tri_det {a b c d e g h i j : Int} : (j * j) * ((a * j - h * c) * (e * j - i * g) - (b * j - i * c) * (d * j - h * g)) = (j * j) * (j * detP a b c d e g h i j) := by unfold detP; grind
/-- an if that lets go on nowhere where it is taken -/
theorem dIf_b2 {c : DT} {t rest : DS} {Dd : DEnds} {σd : DSt} (b : Bool) (hc : ∀ R : Bool → Prop, R b → c σd R) (ht : b = true → ∀ N : DSt → Prop, t { Dd with nx := N } σd) (hr : b = false → rest Dd σd) : dSeq (dIf c t dNext) rest Dd σd :=
  hc _ (by cases b with
    | true => exact iteT (ht rfl _)
    | false => exact iteF (hr rfl))
end PH
namespace PH
theorem nc1 (A B : Int) : A * -B - -A * B = 0 := by grind
theorem nc2 (A B A' B' : Int) : A' * -B - -A * B' = A * B' - A' * B := by grind
theorem nc3 (A B A' B' : Int) : -A' * B - A * -B' = A * B' - A' * B := by grind
theorem par_math {A B A' B' G α β δ j : Int} (m1 : α * j = G * A') (m2 : β * j = G * B') (e1 : A = α * δ) (e2 : B = β * δ) : G * (A * B' - A' * B) = 0 := by
  have k : G * (A * B' - A' * B) = A * (G * B') - (G * A') * B := by grind
  rw [k, ← m1, ← m2, e1, e2]; grind
end PH
namespace PH
open PySem PySem.Spec L2
theorem eqv_pp {a b c d e g : Int} : PyData.eqv (pl a b c) (pl d e g) = (decide (a = d) && (decide (b = e) && decide (c = g))) := by
  simp only [PyData.eqv, PyData.eqvAll, Bool.and_true]; rfl
theorem dIn_plT {j k l : Nat} {a b c d e g h i m : Int} {Q : D → Prop} (hp : Pl j a b c) (hq : Pl k d e g) (hr : Pl l h i m) (h1 : pl a b c ≠ pl d e g → pl a b c ≠ pl h i m → Q (.bool true)) (h2 : Q (.bool false)) : dIn true (pl a b c) (.tuple [pl d e g, pl h i m]) Q := by
  refine ⟨sh_iii, sh_pls2, ?_⟩
  rw [if_pos rfl]
  simp only [List.any_cons, List.any_nil, Bool.or_false, eqv_pp]
  cases z : ((decide (d = a) && (decide (e = b) && decide (g = c))) || (decide (h = a) && (decide (i = b) && decide (m = c)))) with
  | true => exact h2
  | false =>
    refine h1 (fun y => ?_) (fun y => ?_)
    · simp only [PyData.tuple.injEq, List.cons.injEq, PyData.int.injEq, and_true] at y
      obtain ⟨rfl, rfl, rfl⟩ := y
      simp at z
    · simp only [PyData.tuple.injEq, List.cons.injEq, PyData.int.injEq, and_true] at y
      obtain ⟨rfl, rfl, rfl⟩ := y
      simp at z
end PH

/-! Fractions in order; looks of stretches: what is told by heights and gaps, told by ends. -/
namespace PH
/-! ### sorted lists -/
section
variable {α : Type} [DecidableEq α] (lt : α → α → Bool)
def Srt (xs : List α) : Prop := xs.Pairwise fun x y => lt x y = true
def insT (xs : List α) (h : α) : List α := if h ∈ xs then xs else xs.filter (fun x => lt x h) ++ [h] ++ xs.drop (xs.filter fun x => lt x h).length
def ordT (hs : List α) : List α := hs.foldl (insT lt) []
variable {lt} (trans : ∀ x y z, lt x y = true → lt y z = true → lt x z = true) (tot : ∀ x y, x ≠ y → lt y x = !lt x y) (irr : ∀ x, lt x x = false)
include trans tot
theorem ins_pre {u : α} : ∀ {xs : List α}, Srt lt xs → u ∉ xs → ∃ m, xs.filter (fun x => lt x u) = xs.take m ∧ (∀ x ∈ xs.take m, lt x u = true) ∧ (∀ x ∈ xs.drop m, lt u x = true) ∧ m = (xs.filter (fun x => lt x u)).length
  | [], _, _ => ⟨0, by simp⟩
  | x :: xs, hp, hn => by
    have hne : x ≠ u := fun z => hn (by simp [z])
    unfold Srt at hp
    rw [List.pairwise_cons] at hp
    cases e : lt x u with
    | true =>
      obtain ⟨m, h1, h2, h3, h4⟩ := ins_pre (u := u) hp.2 (fun z => hn (by simp [z]))
      refine ⟨m + 1, by simp [List.filter_cons, e, h1], ?_, by simpa using h3, by simp only [List.filter_cons, e, if_true, List.length_cons]; omega⟩
      intro y hy
      simp only [List.take_succ_cons, List.mem_cons] at hy
      rcases hy with rfl | hy
      · exact e
      · exact h2 y hy
    | false =>
      have ux : lt u x = true := by rw [tot x u hne, e]; rfl
      have al : ∀ y ∈ xs, lt u y = true := fun y hy => trans _ _ _ ux (hp.1 y hy)
      have no : ∀ y ∈ xs, lt y u = false := fun y hy => by
        rw [tot u y (fun z => hn (by simp [z, hy])), al y hy]; rfl
      have fe : xs.filter (fun x => lt x u) = [] := List.filter_eq_nil_iff.mpr fun y hy => by rw [no y hy]; simp
      refine ⟨0, by simp [List.filter_cons, e, fe], by simp, ?_, by simp [List.filter_cons, e, fe]⟩
      intro y hy
      simp only [List.drop_zero, List.mem_cons] at hy
      rcases hy with rfl | hy
      · exact ux
      · exact al y hy
theorem ins_ok {u : α} {xs : List α} (hp : Srt lt xs) : Srt lt (insT lt xs u) ∧ (∀ x, x ∈ insT lt xs u ↔ x = u ∨ x ∈ xs) ∧ (insT lt xs u).length ≤ xs.length + 1 := by
  unfold insT
  by_cases hn : u ∈ xs
  · rw [if_pos hn]
    exact ⟨hp, fun x => ⟨.inr, fun z => z.elim (fun y => y ▸ hn) id⟩, by omega⟩
  rw [if_neg hn]
  obtain ⟨m, h1, h2, h3, h4⟩ := ins_pre trans tot hp hn
  rw [← h4, h1]
  refine ⟨?_, fun x => ?_, ?_⟩
  · unfold Srt at *
    rw [List.pairwise_append, List.pairwise_append]
    refine ⟨⟨hp.sublist (List.take_sublist m xs), by simp, fun x hx y hy => ?_⟩, hp.sublist (List.drop_sublist m xs), fun x hx y hy => ?_⟩
    · simp at hy; subst hy; exact h2 x hx
    · rcases List.mem_append.mp hx with hx | hx
      · exact trans _ _ _ (h2 x hx) (h3 y hy)
      · simp at hx; subst hx; exact h3 y hy
  · have e := List.take_append_drop m xs
    have : x ∈ xs ↔ x ∈ xs.take m ∨ x ∈ xs.drop m := by rw [← List.mem_append, e]
    simp only [List.mem_append, List.mem_cons, List.not_mem_nil, or_false, this]
    grind
  · simp only [List.length_append, List.length_cons, List.length_nil, List.length_take, List.length_drop]; omega
theorem ord_ok (hs : List α) : Srt lt (ordT lt hs) ∧ (∀ x, x ∈ ordT lt hs ↔ x ∈ hs) ∧ (ordT lt hs).length ≤ hs.length := by
  have key : ∀ (hs xs : List α), Srt lt xs → Srt lt (hs.foldl (insT lt) xs) ∧ (∀ x, x ∈ hs.foldl (insT lt) xs ↔ x ∈ hs ∨ x ∈ xs) ∧ (hs.foldl (insT lt) xs).length ≤ hs.length + xs.length := fun hs => by
    induction hs with
    | nil => exact fun xs h => ⟨h, fun x => by simp, by simp⟩
    | cons u us ih =>
      intro xs h
      obtain ⟨a, b, c⟩ := ins_ok trans tot (u := u) h
      obtain ⟨a', b', c'⟩ := ih _ a
      refine ⟨a', fun x => ?_, by simp only [List.foldl_cons, List.length_cons]; omega⟩
      rw [List.foldl_cons, b', b]
      simp only [List.mem_cons]
      grind
  obtain ⟨a, b, c⟩ := key hs [] (by unfold Srt; simp)
  exact ⟨a, fun x => by rw [show ordT lt hs = hs.foldl (insT lt) [] from rfl, b]; simp, by show (hs.foldl (insT lt) []).length ≤ hs.length; simpa only [List.length_nil, Nat.add_zero] using c⟩
omit tot in
include irr in
/-- sorted lists with the same members are one -/
theorem srt_ext : ∀ {xs ys : List α}, Srt lt xs → Srt lt ys → (∀ x, x ∈ xs ↔ x ∈ ys) → xs = ys
  | [], [], _, _, _ => rfl
  | [], y :: ys, _, _, h => by have := (h y).mpr (by simp); simp at this
  | x :: xs, [], _, _, h => by have := (h x).mp (by simp); simp at this
  | x :: xs, y :: ys, hx, hy, h => by
    unfold Srt at hx hy
    rw [List.pairwise_cons] at hx hy
    have e : x = y := by
      rcases List.mem_cons.mp ((h x).mp (by simp)) with z | z
      · exact z
      · rcases List.mem_cons.mp ((h y).mpr (by simp)) with z' | z'
        · exact z'.symm
        · have q := trans _ _ _ (hx.1 y z') (hy.1 x z)
          rw [irr] at q; cases q
    subst e
    have nx : x ∉ xs := fun z => by have := hx.1 x z; rw [irr] at this; cases this
    have ny : x ∉ ys := fun z => by have := hy.1 x z; rw [irr] at this; cases this
    refine congrArg (x :: ·) (srt_ext hx.2 hy.2 fun z => ?_)
    have := h z
    simp only [List.mem_cons] at this
    constructor
    · intro q
      rcases this.mp (.inr q) with w | w
      · subst w; exact absurd q nx
      · exact w
    · intro q
      rcases this.mpr (.inr q) with w | w
      · subst w; exact absurd q ny
      · exact w
end
/-! ### fractions -/
structure Fq where
  p : Int
  q : Int
  pos : 0 < q
  cop : Int.gcd p q = 1
deriving DecidableEq
namespace Fq
def lt (x y : Fq) : Bool := decide (x.p * y.q < y.p * x.q)
theorem ext' {x y : Fq} (h1 : x.p = y.p) (h2 : x.q = y.q) : x = y := by
  cases x; cases y; simp at h1 h2; subst h1; subst h2; rfl
theorem irr (x : Fq) : lt x x = false := decide_eq_false (by omega)
theorem tot (x y : Fq) (h : x ≠ y) : lt y x = !lt x y := by
  unfold lt
  rcases Int.lt_trichotomy (x.p * y.q) (y.p * x.q) with z | z | z
  · rw [decide_eq_true z, decide_eq_false (by omega)]; rfl
  · exfalso
    obtain ⟨e1, e2⟩ := form_uniq x.pos y.pos x.cop y.cop z
    exact h (ext' e1 e2)
  · rw [decide_eq_true z, decide_eq_false (by omega)]; rfl
theorem trans (x y z : Fq) (h1 : lt x y = true) (h2 : lt y z = true) : lt x z = true := by
  unfold lt at *
  have a := of_decide_eq_true h1
  have b := of_decide_eq_true h2
  refine decide_eq_true ?_
  have m1 := Int.mul_lt_mul_of_pos_right a z.pos
  have m2 := Int.mul_lt_mul_of_pos_right b x.pos
  have e : x.p * z.q * y.q < z.p * x.q * y.q := by
    have e1 : x.p * z.q * y.q = x.p * y.q * z.q := by grind
    have e2 : y.p * x.q * z.q = y.p * z.q * x.q := by grind
    have e3 : z.p * x.q * y.q = z.p * y.q * x.q := by grind
    omega
  exact Int.lt_of_mul_lt_mul_right e (by have := y.pos; omega)
end Fq
end PH

/-! Looks of stretches: what is told by heights and gaps, told by ends. -/
namespace PH
section
variable {α : Type}
/-- a row of steps from the ends' weights -/
def recS (WL WH : α → Int) : Int → List α → List (α × Int × Int)
  | _, [] => []
  | a, h :: hs => (h, a + WL h, a + WL h - WH h) :: recS WL WH (a + WL h - WH h) hs
def stepsF : Int → List (α × Int × Int) → List (α × Int × Int)
  | _, [] => []
  | a, (h, x, b) :: r => (if x ≠ a ∨ b ≠ a then [(h, x, b)] else []) ++ stepsF b r
def botF : Int → List (α × Int × Int) → List (α × Int)
  | _, [] => []
  | a, (h, x, b) :: r => (if x ≠ a then [(h, x - a)] else []) ++ botF b r
def topF (s : List (α × Int × Int)) : List (α × Int) := (s.filter fun t => decide (t.2.1 ≠ t.2.2)).map fun t => (t.1, t.2.1 - t.2.2)
def sumF (s : List (α × Int × Int)) : Int := (s.map fun t => t.2.1 - t.2.2).sum
def endsW (W : α → Int) (hs : List α) : List (α × Int) := (hs.filter fun h => decide (W h ≠ 0)).map fun h => (h, W h)
variable {WL WH : α → Int}
theorem steps_rec : ∀ (hs : List α) (a : Int), stepsF a (recS WL WH a hs) = recS WL WH a (hs.filter fun h => decide (WL h ≠ 0) || decide (WH h ≠ 0))
  | [], _ => rfl
  | h :: hs, a => by
    simp only [recS, stepsF, List.filter_cons]
    by_cases e1 : WL h = 0
    · by_cases e2 : WH h = 0
      · rw [if_neg (by omega), if_neg (by simp [e1, e2]), List.nil_append, show a + WL h - WH h = a by omega]
        exact steps_rec hs a
      · rw [if_pos (by omega), if_pos (by simp [e2])]
        simp only [recS, List.cons_append, List.nil_append]
        rw [steps_rec hs]
    · rw [if_pos (by omega), if_pos (by simp [e1])]
      simp only [recS, List.cons_append, List.nil_append]
      rw [steps_rec hs]
theorem top_rec : ∀ (hs : List α) (a : Int), topF (recS WL WH a hs) = endsW WH hs
  | [], _ => rfl
  | h :: hs, a => by
    have ih := top_rec hs (a + WL h - WH h)
    unfold topF endsW at *
    simp only [recS, List.filter_cons]
    by_cases e2 : WH h = 0
    · rw [if_neg (by simp [e2]), if_neg (by simp [e2])]; exact ih
    · rw [if_pos (by simp; omega), if_pos (by simp [e2]), List.map_cons, List.map_cons, ih]
      congr 2; show a + WL h - (a + WL h - WH h) = WH h; omega
theorem bot_rec : ∀ (hs : List α) (a : Int), botF a (recS WL WH a hs) = endsW WL hs
  | [], _ => rfl
  | h :: hs, a => by
    have ih := bot_rec hs (a + WL h - WH h)
    unfold endsW at *
    simp only [recS, botF, List.filter_cons]
    by_cases e2 : WL h = 0
    · rw [if_neg (by omega), if_neg (by simp [e2])]; exact ih
    · rw [if_pos (by omega), if_pos (by simp [e2]), List.map_cons, ih]
      rw [show a + WL h - a = WL h by omega]; rfl
theorem sum_rec : ∀ (hs : List α) (a : Int), sumF (recS WL WH a hs) = (hs.map WH).sum
  | [], _ => rfl
  | h :: hs, a => by
    have ih := sum_rec hs (a + WL h - WH h)
    unfold sumF at *
    simp only [recS, List.map_cons, List.sum_cons]
    rw [ih]; omega
theorem sum_filt (W : α → Int) (hs : List α) : ((endsW W hs).map (·.2)).sum = (hs.map W).sum := by
  induction hs with
  | nil => rfl
  | cons h hs ih =>
    unfold endsW at *
    simp only [List.filter_cons]
    by_cases e : W h = 0
    · rw [if_neg (by simp [e]), ih]; simp [e]
    · rw [if_pos (by simp [e])]; simp only [List.map_cons, List.sum_cons]; rw [ih]
theorem endsW_or (hs : List α) (p : α → Bool) (W : α → Int) (h : ∀ x, W x ≠ 0 → p x = true) : endsW W (hs.filter p) = endsW W hs := by
  unfold endsW
  rw [List.filter_filter]
  congr 1
  refine List.filter_congr fun x _ => ?_
  by_cases e : W x = 0
  · simp [e]
  · simp [e, h x e]
theorem rec_congr {WL' WH' : α → Int} : ∀ (hs : List α) (a : Int), (∀ h, WL h = WL' h) → (∀ h, WH h = WH' h) → recS WL WH a hs = recS WL' WH' a hs
  | [], _, _, _ => rfl
  | h :: hs, a, e1, e2 => by simp only [recS]; rw [e1, e2, rec_congr hs _ e1 e2]
end
/-! ### rows -/
structure Rw where
  lo : Fq
  hi : Fq
  w : Int
def le (x y : Fq) : Bool := !Fq.lt y x
theorem lt_of_le_lt {x y z : Fq} (h1 : le x y = true) (h2 : Fq.lt y z = true) : Fq.lt x z = true := by
  unfold le at h1
  by_cases e : x = y
  · rw [e]; exact h2
  · have t := Fq.tot x y e
    refine Fq.trans _ _ _ ?_ h2
    cases h : Fq.lt x y with
    | true => rfl
    | false => rw [h] at t; rw [t] at h1; cases h1
theorem lt_of_lt_le {x y z : Fq} (h1 : Fq.lt x y = true) (h2 : le y z = true) : Fq.lt x z = true := by
  unfold le at h2
  by_cases e : y = z
  · rw [← e]; exact h1
  · have := Fq.tot y z e
    refine Fq.trans _ _ _ h1 ?_
    cases h : Fq.lt y z with
    | true => rfl
    | false => rw [h] at this; rw [this] at h2; cases h2
theorem asym {x y : Fq} (h : Fq.lt x y = true) : Fq.lt y x = false := by
  cases e : Fq.lt y x with
  | false => rfl
  | true => have := Fq.trans _ _ _ h e; rw [Fq.irr] at this; cases this
theorem tri (x y : Fq) : Fq.lt x y = true ∨ x = y ∨ Fq.lt y x = true := by
  by_cases e : x = y
  · exact .inr (.inl e)
  · have := Fq.tot x y e
    cases h : Fq.lt x y with
    | true => exact .inl rfl
    | false => rw [h] at this; exact .inr (.inr this)
def sw (rows : List Rw) (p : Rw → Bool) : Int := ((rows.filter p).map Rw.w).sum
def val (rows : List Rw) (h : Fq) : Int := sw rows fun r => !Fq.lt h r.lo && !Fq.lt r.hi h
def wtL (rows : List Rw) (h : Fq) : Int := sw rows fun r => decide (r.lo = h)
def wtH (rows : List Rw) (h : Fq) : Int := sw rows fun r => decide (r.hi = h)
def vbe (rows : List Rw) (h : Fq) : Int := sw rows fun r => !Fq.lt h r.lo && Fq.lt h r.hi
def vah (rows : List Rw) (h : Fq) : Int := sw rows fun r => Fq.lt r.lo h && !Fq.lt r.hi h
theorem sw_cons (r : Rw) (rows : List Rw) (p : Rw → Bool) : sw (r :: rows) p = (if p r = true then r.w else 0) + sw rows p := by
  unfold sw
  rw [List.filter_cons]
  by_cases e : p r = true
  · rw [if_pos e, if_pos e]; simp
  · rw [if_neg e, if_neg e]; simp
theorem sw_congr {rows : List Rw} {p q : Rw → Bool} (h : ∀ r ∈ rows, p r = q r) : sw rows p = sw rows q := by
  unfold sw
  rw [List.filter_congr h]
theorem sw_none {rows : List Rw} {p : Rw → Bool} (h : ∀ r ∈ rows, p r = false) : sw rows p = 0 := by
  unfold sw
  rw [List.filter_eq_nil_iff.mpr fun r hr => by rw [h r hr]; simp]; rfl
theorem sw_split {rows : List Rw} {p q s : Rw → Bool} (h : ∀ r ∈ rows, (p r = true ∧ q r = true ∧ s r = false) ∨ (p r = true ∧ q r = false ∧ s r = true) ∨ (p r = false ∧ q r = false ∧ s r = false)) : sw rows p = sw rows q + sw rows s := by
  induction rows with
  | nil => rfl
  | cons r rows ih =>
    rw [sw_cons, sw_cons, sw_cons, ih fun r hr => h r (by simp [hr])]
    rcases h r (by simp) with ⟨a, b, c⟩ | ⟨a, b, c⟩ | ⟨a, b, c⟩ <;> simp [a, b, c] <;> omega
def RowsLe (rows : List Rw) : Prop := ∀ r ∈ rows, Fq.lt r.hi r.lo = false
theorem val_be {rows : List Rw} (R : RowsLe rows) (h : Fq) : val rows h = vbe rows h + wtH rows h := by
  refine sw_split fun r hr => ?_
  have z := R r hr
  rcases tri h r.lo with a | a | a
  · refine .inr (.inr ⟨by simp [a], by simp [a], decide_eq_false fun e => ?_⟩)
    rw [← e, z] at a; cases a
  · subst a
    rw [Fq.irr]
    rcases tri r.lo r.hi with b | b | b
    · exact .inl ⟨by simp [asym b], by simp [b], decide_eq_false fun e => by rw [e, Fq.irr] at b; cases b⟩
    · exact .inr (.inl ⟨by simp [← b, Fq.irr], by simp [← b, Fq.irr], decide_eq_true b.symm⟩)
    · rw [z] at b; cases b
  · rw [asym a]
    rcases tri h r.hi with b | b | b
    · exact .inl ⟨by simp [asym b], by simp [b], decide_eq_false fun e => by rw [e, Fq.irr] at b; cases b⟩
    · exact .inr (.inl ⟨by simp [← b, Fq.irr], by simp [← b, Fq.irr], decide_eq_true b.symm⟩)
    · exact .inr (.inr ⟨by simp [b], by simp [asym b], decide_eq_false fun e => by rw [e, Fq.irr] at b; cases b⟩)
theorem val_ah {rows : List Rw} (R : RowsLe rows) (h : Fq) : val rows h = vah rows h + wtL rows h := by
  refine sw_split fun r hr => ?_
  have z := R r hr
  rcases tri r.lo h with a | a | a
  · rw [asym a, a]
    cases e : Fq.lt r.hi h with
    | true => exact .inr (.inr ⟨by simp, by simp, decide_eq_false fun e => by rw [e, Fq.irr] at a; cases a⟩)
    | false => exact .inl ⟨by simp, by simp, decide_eq_false fun e => by rw [e, Fq.irr] at a; cases a⟩
  · subst a
    exact .inr (.inl ⟨by simp [Fq.irr, z], by simp [Fq.irr], decide_eq_true rfl⟩)
  · refine .inr (.inr ⟨by simp [a], by simp [asym a], decide_eq_false fun e => by rw [e, Fq.irr] at a; cases a⟩)
/-- between two following heights -/
theorem val_gap {rows : List Rw} {hs : List Fq} (M : ∀ r ∈ rows, r.lo ∈ hs ∧ r.hi ∈ hs) {h g : Fq} (hg : Fq.lt h g = true) (nx : ∀ x ∈ hs, Fq.lt h x = true → Fq.lt g x = true) : val rows g = vbe rows h := by
  refine sw_congr fun r hr => ?_
  obtain ⟨m1, m2⟩ := M r hr
  have key : ∀ x ∈ hs, Fq.lt g x = Fq.lt h x := fun x hx => by
    cases e : Fq.lt h x with
    | true => exact nx x hx e
    | false =>
      cases e' : Fq.lt g x with
      | false => rfl
      | true => rw [Fq.trans _ _ _ hg e'] at e; cases e
  have key2 : ∀ x ∈ hs, (!Fq.lt x g) = Fq.lt h x := fun x hx => by
    rw [← key x hx]
    rcases tri x g with a | a | a
    · rw [a, asym a]; rfl
    · exfalso
      subst a
      have := nx _ hx hg
      rw [Fq.irr] at this; cases this
    · rw [a, asym a]; rfl
  rw [key _ m1, key2 _ m2]
theorem vah_next {rows : List Rw} {hs : List Fq} (M : ∀ r ∈ rows, r.lo ∈ hs ∧ r.hi ∈ hs) {h h' : Fq} (hh : Fq.lt h h' = true) (nx : ∀ x ∈ hs, Fq.lt h x = true → Fq.lt x h' = false) : vah rows h' = vbe rows h := by
  refine sw_congr fun r hr => ?_
  obtain ⟨m1, m2⟩ := M r hr
  have key : ∀ x ∈ hs, Fq.lt x h' = !Fq.lt h x := fun x hx => by
    cases e : Fq.lt h x with
    | true => exact nx x hx e
    | false => exact lt_of_le_lt (by unfold le; rw [e]; rfl) hh
  rw [key _ m1, key _ m2, Bool.not_not]
def GapOk : List Fq → List Fq → Prop
  | [], [] => True
  | [h], [g] => Fq.lt h g = true
  | h :: h' :: hs, g :: gs => Fq.lt h g = true ∧ Fq.lt g h' = true ∧ GapOk (h' :: hs) gs
  | _, _ => False
def zipG (rows : List Rw) : List Fq → List Fq → List (Fq × Int × Int)
  | h :: hs, g :: gs => (h, val rows h, val rows g) :: zipG rows hs gs
  | _, _ => []
theorem zip_rec {rows : List Rw} (R : RowsLe rows) {all : List Fq} (M : ∀ r ∈ rows, r.lo ∈ all ∧ r.hi ∈ all) : ∀ (pre hs gs : List Fq), all = pre ++ hs → Srt Fq.lt all → GapOk hs gs → ∀ a, (∀ h, hs.head? = some h → a = vah rows h) → zipG rows hs gs = recS (wtL rows) (wtH rows) a hs
  | pre, [], [], _, _, _, _, _ => rfl
  | pre, [], _ :: _, _, _, h, _, _ => by simp [GapOk] at h
  | pre, [h], [], _, _, z, _, _ => by simp [GapOk] at z
  | pre, [h], [g], e, S, G, a, ha => by
    have e1 : val rows h = a + wtL rows h := by rw [ha h rfl, val_ah R]
    have e2 : val rows g = vbe rows h := val_gap M (h := h) G (fun x hx hl => by
      rw [e] at hx S
      unfold Srt at S
      rw [List.pairwise_append] at S
      rcases List.mem_append.mp hx with q | q
      · have := S.2.2 x q h (by simp); rw [asym this] at hl; cases hl
      · simp at q; subst q; rw [Fq.irr] at hl; cases hl)
    have e3 := val_be R h
    simp only [zipG, recS]
    rw [e2, e1, show vbe rows h = a + wtL rows h - wtH rows h by omega]
  | pre, [h], _ :: _ :: _, _, _, z, _, _ => by simp [GapOk] at z
  | pre, h :: h' :: hs, [], _, _, z, _, _ => by simp [GapOk] at z
  | pre, h :: h' :: hs, g :: gs, e, S, G, a, ha => by
    obtain ⟨g1, g2, g3⟩ := G
    have pw := S
    rw [e] at pw
    unfold Srt at pw
    rw [List.pairwise_append] at pw
    have S2 := pw.2.1
    rw [List.pairwise_cons, List.pairwise_cons] at S2
    have pos : ∀ x ∈ all, Fq.lt h x = true → x = h' ∨ Fq.lt h' x = true := fun x hx hl => by
      rw [e] at hx
      rcases List.mem_append.mp hx with q | q
      · have := pw.2.2 x q h (by simp); rw [asym this] at hl; cases hl
      · rcases List.mem_cons.mp q with q | q
        · subst q; rw [Fq.irr] at hl; cases hl
        · rcases List.mem_cons.mp q with q | q
          · exact .inl q
          · exact .inr (S2.2.1 x q)
    have e1 : val rows h = a + wtL rows h := by rw [ha h rfl, val_ah R]
    have e2 : val rows g = vbe rows h := val_gap M (h := h) g1 (fun x hx hl => by
      rcases pos x hx hl with q | q
      · rw [q]; exact g2
      · exact Fq.trans _ _ _ g2 q)
    have e3 := val_be R h
    have e4 : vah rows h' = vbe rows h := vah_next M (S2.1 h' (by simp)) (fun x hx hl => by
      rcases pos x hx hl with q | q
      · rw [q]; exact Fq.irr _
      · exact asym q)
    have ih := zip_rec R M (pre ++ [h]) (h' :: hs) gs (by rw [e]; simp) S g3 (a + wtL rows h - wtH rows h) (fun x hx => by
      simp at hx; subst hx; omega)
    simp only [zipG]
    rw [ih, e2, e1, show vbe rows h = a + wtL rows h - wtH rows h by omega]
    rfl
def hsOf (rows : List Rw) : List Fq := ordT Fq.lt (rows.map Rw.lo ++ rows.map Rw.hi)
theorem ord_srt (hs : List Fq) : Srt Fq.lt (ordT Fq.lt hs) := (ord_ok Fq.trans Fq.tot hs).1
theorem ord_mem (hs : List Fq) (x : Fq) : x ∈ ordT Fq.lt hs ↔ x ∈ hs := (ord_ok Fq.trans Fq.tot hs).2.1 x
theorem ord_len (hs : List Fq) : (ordT Fq.lt hs).length ≤ hs.length := (ord_ok Fq.trans Fq.tot hs).2.2
theorem hsOf_mem (rows : List Rw) : ∀ r ∈ rows, r.lo ∈ hsOf rows ∧ r.hi ∈ hsOf rows := fun r hr => by
  unfold hsOf
  rw [ord_mem, ord_mem]
  simp only [List.mem_append, List.mem_map]
  exact ⟨.inl ⟨r, hr, rfl⟩, .inr ⟨r, hr, rfl⟩⟩
theorem vah_first {rows : List Rw} {h : Fq} (S : (hsOf rows).head? = some h) : vah rows h = 0 := by
  refine sw_none fun r hr => ?_
  have m := (hsOf_mem rows r hr).1
  have s := ord_srt (rows.map Rw.lo ++ rows.map Rw.hi)
  change Srt Fq.lt (hsOf rows) at s
  cases e : hsOf rows with
  | nil => rw [e] at m; simp at m
  | cons x xs =>
    rw [e] at m S s
    simp at S; subst S
    unfold Srt at s
    rw [List.pairwise_cons] at s
    rcases List.mem_cons.mp m with q | q
    · rw [q, Fq.irr]; rfl
    · rw [asym (s.1 _ q)]; rfl
def stepsR (rows : List Rw) : List (Fq × Int × Int) := recS (wtL rows) (wtH rows) 0 ((hsOf rows).filter fun h => decide (wtL rows h ≠ 0) || decide (wtH rows h ≠ 0))
theorem steps_told {rows : List Rw} (R : RowsLe rows) {gs : List Fq} (G : GapOk (hsOf rows) gs) : stepsF 0 (zipG rows (hsOf rows) gs) = stepsR rows := by
  rw [zip_rec R (hsOf_mem rows) [] (hsOf rows) gs rfl (ord_srt _) G 0 fun h hh => (vah_first hh).symm]
  exact steps_rec _ _
theorem wt_mem {rows : List Rw} {key : Rw → Fq} {h : Fq} (n : sw rows (fun r => decide (key r = h)) ≠ 0) : h ∈ rows.map key := by
  rw [List.mem_map]
  refine Decidable.byContradiction fun z => n (sw_none fun r hr => decide_eq_false fun e => z ⟨r, hr, e⟩)
def endsR (rows : List Rw) (key : Rw → Fq) : List (Fq × Int) := endsW (fun h => sw rows fun r => decide (key r = h)) (ordT Fq.lt (rows.map key))
theorem endsW_ext {W : Fq → Int} {xs ys : List Fq} (hx : Srt Fq.lt xs) (hy : Srt Fq.lt ys) (h : ∀ x, W x ≠ 0 → x ∈ xs ∧ x ∈ ys) : endsW W xs = endsW W ys := by
  unfold endsW
  congr 1
  refine srt_ext (lt := Fq.lt) Fq.trans Fq.irr (hx.sublist List.filter_sublist) (hy.sublist List.filter_sublist) fun x => ?_
  simp only [List.mem_filter]
  constructor
  · rintro ⟨_, b⟩; exact ⟨(h x (by simpa using b)).2, b⟩
  · rintro ⟨_, b⟩; exact ⟨(h x (by simpa using b)).1, b⟩
theorem top_steps (rows : List Rw) : topF (stepsR rows) = endsR rows Rw.hi := by
  unfold stepsR
  rw [top_rec, endsW_or _ _ _ (fun x hx => by simp [hx])]
  refine endsW_ext (ord_srt _) (ord_srt _) fun x hx => ?_
  have m := wt_mem (key := Rw.hi) hx
  refine ⟨?_, (ord_mem _ _).mpr m⟩
  unfold hsOf
  rw [ord_mem, List.mem_append]; exact .inr m
theorem bot_steps (rows : List Rw) : botF 0 (stepsR rows) = endsR rows Rw.lo := by
  unfold stepsR
  rw [bot_rec, endsW_or _ _ _ (fun x hx => by simp [hx])]
  refine endsW_ext (ord_srt _) (ord_srt _) fun x hx => ?_
  have m := wt_mem (key := Rw.lo) hx
  refine ⟨?_, (ord_mem _ _).mpr m⟩
  unfold hsOf
  rw [ord_mem, List.mem_append]; exact .inl m
theorem srt_nodup {hs : List Fq} (h : Srt Fq.lt hs) : hs.Nodup := by
  unfold Srt at h
  exact h.imp fun {a b} hab e => by rw [e, Fq.irr] at hab; cases hab
theorem zero_sum {α : Type} (hs : List α) : (hs.map fun _ => (0 : Int)).sum = 0 := by induction hs with | nil => rfl | cons _ _ ih => simp [ih]
theorem one_in {hs : List Fq} (n : hs.Nodup) {x : Fq} (hx : x ∈ hs) (w : Int) : (hs.map fun h => if decide (x = h) = true then w else 0).sum = w := by
  induction hs with
  | nil => simp at hx
  | cons y ys ih =>
    rw [List.nodup_cons] at n
    simp only [List.map_cons, List.sum_cons]
    rcases List.mem_cons.mp hx with e | e
    · subst e
      have z : (ys.map fun h => if decide (x = h) = true then w else 0) = ys.map fun _ => 0 := List.map_congr_left fun h hh => if_neg (by simp; rintro rfl; exact n.1 hh)
      rw [z, if_pos (by simp)]
      rw [zero_sum]; omega
    · rw [if_neg (by simp; rintro rfl; exact n.1 e), ih n.2 e]; omega
theorem sum_add (hs : List Fq) (f g : Fq → Int) : (hs.map fun h => f h + g h).sum = (hs.map f).sum + (hs.map g).sum := by
  induction hs with
  | nil => rfl
  | cons h hs ih => simp only [List.map_cons, List.sum_cons]; rw [ih]; omega
theorem sum_all {key : Rw → Fq} {hs : List Fq} (n : hs.Nodup) : ∀ {rows : List Rw}, (∀ r ∈ rows, key r ∈ hs) → (hs.map fun h => sw rows fun r => decide (key r = h)).sum = (rows.map Rw.w).sum
  | [], _ => by
    have : (hs.map fun h => sw [] fun r => decide (key r = h)) = hs.map fun _ => 0 := rfl
    rw [this, zero_sum]; rfl
  | r :: rows, h => by
    have e : (hs.map fun h => sw (r :: rows) fun r => decide (key r = h)) = hs.map fun h => (if decide (key r = h) = true then r.w else 0) + sw rows fun r => decide (key r = h) := List.map_congr_left fun x _ => sw_cons r rows _
    rw [e, sum_add, one_in n (h r (by simp)), sum_all n fun r hr => h r (by simp [hr])]; simp
theorem sum_ends (rows : List Rw) (key : Rw → Fq) : ((endsR rows key).map (·.2)).sum = (rows.map Rw.w).sum := by
  unfold endsR
  rw [sum_filt]
  exact sum_all (srt_nodup (ord_srt _)) fun r hr => (ord_mem _ _).mpr (List.mem_map_of_mem hr)
theorem sum_top (s : List (Fq × Int × Int)) : ((topF s).map (·.2)).sum = sumF s := by
  induction s with
  | nil => rfl
  | cons t s ih =>
    unfold topF sumF at *
    simp only [List.filter_cons, List.map_cons, List.sum_cons]
    by_cases e : t.2.1 = t.2.2
    · rw [if_neg (by simp [e]), ih]; omega
    · rw [if_pos (by simp [e])]; simp only [List.map_cons, List.sum_cons]; rw [ih]
theorem sum_steps (rows : List Rw) : sumF (stepsR rows) = (rows.map Rw.w).sum := by
  rw [← sum_top, top_steps, sum_ends]
/-- rows with the ends of one stretch have that stretch's steps -/
theorem ends_wt {rows : List Rw} {key : Rw → Fq} {l : Fq} {w : Int} (h : endsR rows key = [(l, w)]) (x : Fq) : (sw rows fun r => decide (key r = x)) = if decide (l = x) = true then w else 0 := by
  have mem : ∀ x, (sw rows fun r => decide (key r = x)) ≠ 0 → (x, sw rows fun r => decide (key r = x)) ∈ endsR rows key := fun x n => by
    unfold endsR endsW
    rw [List.mem_map]
    exact ⟨x, by rw [List.mem_filter]; exact ⟨(ord_mem _ _).mpr (wt_mem n), by simpa using n⟩, rfl⟩
  have self : (sw rows fun r => decide (key r = l)) = w := by
    have z : (l, w) ∈ endsR rows key := by rw [h]; simp
    unfold endsR endsW at z
    rw [List.mem_map] at z
    obtain ⟨y, _, e⟩ := z
    simp only [Prod.mk.injEq] at e
    obtain ⟨rfl, e⟩ := e
    exact e
  by_cases e : l = x
  · subst e; rw [if_pos (by simp), self]
  · rw [if_neg (by simp [e])]
    refine Decidable.byContradiction fun n => ?_
    have := mem x n
    rw [h] at this
    simp at this
    exact e this.1.symm
theorem one_wt (key : Rw → Fq) (r : Rw) (x : Fq) : (sw [r] fun r => decide (key r = x)) = if decide (key r = x) = true then r.w else 0 := by
  rw [sw_cons]; show _ + 0 = _; omega
theorem one_steps {rows : List Rw} {l h : Fq} {w : Int} (h1 : endsR rows Rw.lo = [(l, w)]) (h2 : endsR rows Rw.hi = [(h, w)]) : stepsR rows = stepsR [⟨l, h, w⟩] := by
  have eL : ∀ x, wtL rows x = wtL [⟨l, h, w⟩] x := fun x => (ends_wt h1 x).trans (one_wt Rw.lo ⟨l, h, w⟩ x).symm
  have eH : ∀ x, wtH rows x = wtH [⟨l, h, w⟩] x := fun x => (ends_wt h2 x).trans (one_wt Rw.hi ⟨l, h, w⟩ x).symm
  unfold stepsR
  rw [rec_congr _ _ eL eH]
  congr 1
  refine srt_ext (lt := Fq.lt) Fq.trans Fq.irr ((ord_srt _).sublist List.filter_sublist) ((ord_srt _).sublist List.filter_sublist) fun x => ?_
  have inn : ∀ (rs : List Rw), (decide (wtL rs x ≠ 0) || decide (wtH rs x ≠ 0)) = true → x ∈ hsOf rs := fun rs z => by
    unfold hsOf
    rw [ord_mem, List.mem_append]
    rcases Bool.or_eq_true_iff.mp z with q | q
    · exact .inl (wt_mem (of_decide_eq_true q))
    · exact .inr (wt_mem (of_decide_eq_true q))
  simp only [List.mem_filter]
  rw [eL, eH]
  constructor
  · rintro ⟨_, b⟩; exact ⟨inn _ b, b⟩
  · rintro ⟨_, b⟩; exact ⟨inn _ (by rw [eL, eH]; exact b), b⟩
end PH

/-! Looks of stretches: what the defs promise. -/
namespace PH
open PySem PySem.Spec L2
abbrev hD (h : Fq) : D := fr h.p h.q
abbrev rwD (r : Rw) : D := .tuple [hD r.lo, hD r.hi, .int r.w]
abbrev stD (t : Fq × Int × Int) : D := .tuple [hD t.1, .int t.2.1, .int t.2.2]
abbrev ewD (t : Fq × Int) : D := .tuple [hD t.1, .int t.2]
def Hb (k : Nat) (h : Fq) : Prop := Bd k h.p ∧ Bd k h.q
theorem Hb.mono {j k : Nat} {h : Fq} (b : Hb j h) (l : j ≤ k) : Hb k h := ⟨b.1.mono l, b.2.mono l⟩
theorem fq_of {p q : Int} {k : Nat} (h : q ≠ 0) (a : Bd k p) (b : Bd k q) : ∃ x : Fq, frac p q = hD x ∧ Hb k x ∧ x.p * q = p * x.q := by
  obtain ⟨u, v, e, hv, hg, c, b1, b2⟩ := frac_obt h a b
  exact ⟨⟨u, v, hv, hg⟩, e, ⟨b1, b2⟩, c⟩
structure RowsOk (n : Nat) (rows : List Rw) : Prop where
  le : RowsLe rows
  hb : ∀ r ∈ rows, Hb 30 r.lo ∧ Hb 30 r.hi
  wb : ∀ r ∈ rows, r.w.natAbs ≤ 3
  len : rows.length ≤ n
theorem RowsOk.up {m n : Nat} {rows : List Rw} (h : RowsOk m rows) (l : m ≤ n) : RowsOk n rows := ⟨h.le, h.hb, h.wb, Nat.le_trans h.len l⟩
/-! typed loops -/
theorem all2_m {α : Type} (enc f : α → D) {R : D → D → Prop} : ∀ xs : List α, (∀ x ∈ xs, R (enc x) (f x)) → All2 R (xs.map enc) (xs.map f)
  | [], _ => trivial
  | x :: xs, h => ⟨h x (by simp), all2_m enc f xs fun y hy => h y (by simp [hy])⟩
theorem dLcc_m {α : Type} {mi : DA} {g : DG} {me : DE} {vs : List Nat} {σd : DSt} {Q : List D → Prop} (xs : List α) (enc f : α → D) (hi : ∀ R : List D → Prop, R (xs.map enc) → mi σd R) (hl : xs.length ≤ 1000000)
    (h : ∀ x ∈ xs, ∀ Q : D → Prop, Q (f x) → g (enc x) (dwipe (clean σd) vs) fun σ2 => me σ2 Q) (hq : Q (xs.map f)) : dLcc mi g dYes me vs σd Q :=
  dLcc_k (xs.map enc) (xs.map f) hi (by rwa [List.length_map]) (all2_m enc f xs h) hq
theorem dLcc_mt {α : Type} {mi : DA} {g : DG} {mt : DT} {me : DE} {vs : List Nat} {σd : DSt} {Q : List D → Prop} (xs : List α) (enc : α → D) (t : α → Bool) (f : α → D) (hi : ∀ R : List D → Prop, R (xs.map enc) → mi σd R) (hl : xs.length ≤ 1000000)
    (h : ∀ x ∈ xs, ∀ (Q1 : D → Prop) (Q0 : Prop), (t x = true → Q1 (f x)) → (t x = false → Q0) → g (enc x) (dwipe (clean σd) vs) fun σ2 => mt σ2 fun b => if b = true then me σ2 Q1 else Q0) (hq : Q ((xs.filter t).map f)) : dLcc mi g mt me vs σd Q := by
  refine hi _ ⟨by rwa [List.length_map], fun i acc => acc = ((xs.take i).filter t).map f, by simp, fun i y acc hy _ w => ?_, fun acc w => ?_⟩
  · rw [List.getElem?_map] at hy
    obtain ⟨x, hx, rfl⟩ := Option.map_eq_some_iff.mp hy
    have e : xs.take (i + 1) = xs.take i ++ [x] := by rw [List.take_add_one, hx]; rfl
    refine h x (List.mem_of_getElem? hx) (fun z => acc ++ [z] = ((xs.take (i + 1)).filter t).map f) _ (fun ht => ?_) (fun ht => ?_)
    · rw [w, e, List.filter_append, List.map_append]
      simp [ht]
    · show acc = ((xs.take (i + 1)).filter t).map f
      rw [w, e, List.filter_append, List.map_append]
      simp [ht]
  · rw [w, List.length_map, List.take_length]; exact hq
theorem dFor_m {α : Type} {mi : DA} {g : DG} {mb rest : DS} {Dd : DEnds} {σd : DSt} (xs : List α) (enc : α → D) (W : List α → DSt → Prop) (hi : ∀ R : List D → Prop, R (xs.map enc) → mi σd R) (h0 : W [] σd)
    (ht : ∀ pre x post, xs = pre ++ x :: post → ∀ σ', W pre σ' → g (enc x) σ' fun σ2 => mb { Dd with nx := W (pre ++ [x]), ct := W (pre ++ [x]), bk := rest Dd } σ2) (hr : ∀ σ', W xs σ' → rest Dd σ') : dSeq (dFor mi g mb) rest Dd σd := by
  refine hi _ ⟨fun i => W (xs.take i), by simpa using h0, fun i y σ' hy w => ?_, fun σ' w => hr σ' ?_⟩
  · rw [List.getElem?_map] at hy
    obtain ⟨x, hx, rfl⟩ := Option.map_eq_some_iff.mp hy
    have e : xs.take (i + 1) = xs.take i ++ [x] := by rw [List.take_add_one, hx]; rfl
    have e2 : xs = xs.take i ++ x :: xs.drop (i + 1) := by
      have h0 : i < xs.length := (List.getElem?_eq_some_iff.mp hx).1
      have h1 : xs[i] = x := (List.getElem?_eq_some_iff.mp hx).2
      rw [← h1, ← List.drop_eq_getElem_cons h0, List.take_append_drop]
    have := ht (xs.take i) x _ e2 σ' w
    show g (enc x) σ' fun σ2 => mb { Dd with nx := W (xs.take (i + 1)), ct := W (xs.take (i + 1)), bk := rest Dd } σ2
    rw [e]; exact this
  · rw [List.length_map, List.take_length] at w; exact w
theorem ints_mapf {α : Type} (f : α → Int) (xs : List α) : intsOf (xs.map fun x => PyData.int (f x)) = some (xs.map f) := by
  have := intsOf_map (xs.map f)
  rwa [List.map_map] at this
theorem dSum_m {α : Type} {xs : List α} {f : α → Int} {Q : D → Prop} (h : Q (.int (xs.map f).sum)) : dSum [.list (xs.map fun x => PyData.int (f x))] Q := by
  unfold dSum
  dsimp only
  rw [ints_mapf]; exact h
theorem dNin_11 {w : Int} {Q : D → Prop} (h : Q (.bool (!(decide (w = 1) || decide (w = -1))))) : dIn true (.int w) (.tuple [.int 1, .int (-1)]) Q := by
  refine ⟨by simp [SeqAt.shaped, PyData.canLay0, PyData.depth], by simp [SeqAt.shaped, PyData.canLay0, PyData.canLayAll0, PyData.depth, PyData.depthAll], ?_⟩
  have e : ∀ a b : Int, PyData.eqv (.int a) (.int b) = decide (a = b) := fun a b => by simp only [PyData.eqv]; rfl
  simp only [List.any_cons, List.any_nil, Bool.or_false, e, if_true]
  rw [show decide ((1 : Int) = w) = decide (w = 1) by simp [eq_comm], show decide ((-1 : Int) = w) = decide (w = -1) by simp [eq_comm]]
  exact h
theorem lt_c {x y : Fq} {k : Nat} (hx : Hb k x) (hy : Hb k y) (hk : k ≤ 1000) {Q : D → Prop} (h : Q (.bool (Fq.lt x y))) : spPairs (fun _ _ _ _ => True) (fun p q r s => .bool (decide (p * s < r * q))) [hD x, hD y] Q :=
  ⟨x.p, x.q, y.p, y.q, k, rfl, hx.1, hx.2, hy.1, hy.2, hk, trivial, h⟩
/-! what the defs promise -/
def spOrd : DSp := fun ds Q => ∃ hs : List Fq, ds = [.list (hs.map hD)] ∧ (∀ h ∈ hs, Hb 30 h) ∧ hs.length ≤ 1000 ∧ Q (.list ((ordT Fq.lt hs).map hD))
def spVal : DSp := fun ds Q => ∃ (rows : List Rw) (h : Fq), ds = [.list (rows.map rwD), hD h] ∧ RowsOk 1000 rows ∧ Hb 70 h ∧ Q (.int (val rows h))
def spMid : DSp := fun ds Q => ∃ s t : Fq, ds = [hD s, hD t] ∧ Hb 30 s ∧ Hb 30 t ∧ ∀ m : Fq, Hb 62 m → (Fq.lt s t = true → Fq.lt s m = true ∧ Fq.lt m t = true) → Q (hD m)
def spGaps : DSp := fun ds Q => ∃ hs : List Fq, ds = [.list (hs.map hD)] ∧ Srt Fq.lt hs ∧ (∀ h ∈ hs, Hb 30 h) ∧ hs.length ≤ 1000 ∧ ∀ gs : List Fq, (∀ g ∈ gs, Hb 62 g) → GapOk hs gs → Q (.list (gs.map hD))
def spSteps : DSp := fun ds Q => ∃ ts : List (Fq × Int × Int), ds = [.list (ts.map stD)] ∧ ts.length ≤ 1000 ∧ Q (.tuple ((stepsF 0 ts).map stD))
def spStepsOf : DSp := fun ds Q => ∃ rows : List Rw, ds = [.list (rows.map rwD)] ∧ RowsOk 100 rows ∧ Q (.tuple ((stepsR rows).map stD))
def spDraw5 : DSp := fun ds Q => ds = [SRC, .int 5] ∧ ∀ rows : List Rw, RowsOk 5 rows → Q (.list (rows.map rwD))
def spDrawnR : DSp := fun ds Q => ds = [SRC] ∧ ∀ rows : List Rw, RowsOk 9 rows → Q (.list (rows.map rwD))
def spEnds : DSp := fun ds Q => ∃ (rows : List Rw) (i : Int), ds = [.list (rows.map rwD), .int i] ∧ RowsOk 100 rows ∧ ((i = 0 ∧ Q (.list ((endsR rows Rw.lo).map ewD))) ∨ (i = 1 ∧ Q (.list ((endsR rows Rw.hi).map ewD))))
def dueF (lows highs : List (Fq × Int)) : D := match lows, highs with
  | [(l, w)], [(h, _)] => if w.natAbs = 1 then .tuple [.int w, hD l, hD h] else .none
  | _, _ => .none
def spDue : DSp := fun ds Q => ∃ rows : List Rw, ds = [.list (rows.map rwD)] ∧ RowsOk 100 rows ∧ Q (dueF (endsR rows Rw.lo) (endsR rows Rw.hi))
def spTs (f : List (Fq × Int × Int) → D) : DSp := fun ds Q => ∃ ts : List (Fq × Int × Int), ds = [.tuple (ts.map stD)] ∧ ts.length ≤ 1000 ∧ Q (f ts)
def strF (bots tops : List (Fq × Int)) : D := match bots, tops with
  | [(b, _)], [(t, w)] => if w.natAbs = 1 then .tuple [.int w, hD b, hD t] else .none
  | _, _ => .none
end PH

/-! Looks of stretches: helpers of the defs. -/
namespace PH
open PySem PySem.Spec L2
theorem hD_inj {x y : Fq} (h : hD x = hD y) : x = y := by
  simp only [PyData.tuple.injEq, List.cons.injEq, PyData.int.injEq, and_true] at h
  exact Fq.ext' h.1 h.2
theorem hD_fr (x : Fq) : IsFr (hD x) := ⟨_, _, rfl⟩
theorem hD_mem {x : Fq} {xs : List Fq} : hD x ∈ xs.map hD ↔ x ∈ xs := by
  rw [List.mem_map]
  constructor
  · rintro ⟨y, hy, e⟩; rw [← hD_inj e]; exact hy
  · exact fun h => ⟨x, h, rfl⟩
theorem frs_map (xs : List Fq) : ∀ x ∈ xs.map hD, IsFr x := fun x hx => by
  obtain ⟨y, _, rfl⟩ := List.mem_map.mp hx
  exact hD_fr y
theorem hD_eqb (x y : Fq) : (decide (x.p = y.p) && decide (x.q = y.q)) = decide (x = y) := by
  by_cases e : x = y
  · subst e; simp
  · rw [decide_eq_false e]
    by_cases e1 : x.p = y.p
    · rw [decide_eq_true e1, decide_eq_false fun e2 => e (Fq.ext' e1 e2)]; rfl
    · rw [decide_eq_false e1]; rfl
theorem ord_snoc (xs : List Fq) (u : Fq) : ordT Fq.lt (xs ++ [u]) = insT Fq.lt (ordT Fq.lt xs) u := by
  unfold ordT; rw [List.foldl_append]; rfl
theorem ins_in {xs : List Fq} {u : Fq} (h : u ∈ xs) : insT Fq.lt xs u = xs := if_pos h
theorem ins_out {xs : List Fq} {u : Fq} (h : u ∉ xs) : insT Fq.lt xs u = xs.filter (fun x => Fq.lt x u) ++ [u] ++ xs.drop (xs.filter fun x => Fq.lt x u).length := if_neg h
theorem ord_hb {k : Nat} {xs : List Fq} (h : ∀ x ∈ xs, Hb k x) : ∀ x ∈ ordT Fq.lt xs, Hb k x := fun x hx => h x ((ord_mem _ _).mp hx)
theorem mid_lt {a b c d p q : Int} (hb : 0 < b) (hd : 0 < d) (hq : 0 < q) (h : a * d < c * b) (e : p * (2 * b * d) = (a * d + c * b) * q) : a * q < p * b ∧ p * d < c * q := by
  have k : 0 < b * q := Int.mul_pos hb hq
  have k2 : 0 < d * q := Int.mul_pos hd hq
  have m1 := Int.mul_lt_mul_of_pos_right h k
  have m2 := Int.mul_lt_mul_of_pos_right h k2
  constructor
  · refine Int.lt_of_mul_lt_mul_right (a := 2 * b * d) ?_ (by have := Int.mul_pos (Int.mul_pos (show (0 : Int) < 2 by decide) hb) hd; omega)
    have e1 : a * q * (2 * b * d) = a * d * (b * q) + a * d * (b * q) := by grind
    have e2 : p * b * (2 * b * d) = p * (2 * b * d) * b := by grind
    have e3 : (a * d + c * b) * q * b = a * d * (b * q) + c * b * (b * q) := by grind
    rw [e1, e2, e, e3]; omega
  · refine Int.lt_of_mul_lt_mul_right (a := 2 * b * d) ?_ (by have := Int.mul_pos (Int.mul_pos (show (0 : Int) < 2 by decide) hb) hd; omega)
    have e1 : c * q * (2 * b * d) = c * b * (d * q) + c * b * (d * q) := by grind
    have e2 : p * d * (2 * b * d) = p * (2 * b * d) * d := by grind
    have e3 : (a * d + c * b) * q * d = a * d * (d * q) + c * b * (d * q) := by grind
    rw [e1, e2, e, e3]; omega
/-! comprehensions whose items are told by a relation -/
def F2 {α β : Type} (P : α → β → Prop) : List α → List β → Prop
  | [], [] => True
  | a :: as, b :: bs => P a b ∧ F2 P as bs
  | _, _ => False
theorem F2.snoc {α β : Type} {P : α → β → Prop} : ∀ {as : List α} {bs : List β} {a : α} {b : β}, F2 P as bs → P a b → F2 P (as ++ [a]) (bs ++ [b])
  | [], [], _, _, _, h => ⟨h, trivial⟩
  | _ :: _, _ :: _, _, _, h, h' => ⟨h.1, F2.snoc h.2 h'⟩
  | [], _ :: _, _, _, h, _ => h.elim
  | _ :: _, [], _, _, h, _ => h.elim
theorem F2.all {α β : Type} {P : α → β → Prop} {R : β → Prop} (hP : ∀ a b, P a b → R b) : ∀ {as : List α} {bs : List β}, F2 P as bs → ∀ b ∈ bs, R b
  | [], [], _, b, hb => by simp at hb
  | a :: as, c :: bs, h, b, hb => by
    rcases List.mem_cons.mp hb with rfl | hb
    · exact hP _ _ h.1
    · exact F2.all hP h.2 b hb
  | [], _ :: _, h, _, _ => h.elim
  | _ :: _, [], h, _, _ => h.elim
theorem dLcc_n {α β : Type} {mi : DA} {g : DG} {me : DE} {vs : List Nat} {σd : DSt} {Q : List D → Prop} (xs : List α) (enc : α → D) (out : β → D) (P : α → β → Prop) (hi : ∀ R : List D → Prop, R (xs.map enc) → mi σd R) (hl : xs.length ≤ 1000000)
    (h : ∀ x ∈ xs, ∀ Q : D → Prop, (∀ b, P x b → Q (out b)) → g (enc x) (dwipe (clean σd) vs) fun σ2 => me σ2 Q) (hq : ∀ bs : List β, F2 P xs bs → Q (bs.map out)) : dLcc mi g dYes me vs σd Q := by
  refine hi _ ⟨by rwa [List.length_map], fun i acc => ∃ bs : List β, acc = bs.map out ∧ F2 P (xs.take i) bs, ⟨[], by simp, by simp [F2]⟩, fun i y acc hy _ w => ?_, fun acc w => ?_⟩
  · rw [List.getElem?_map] at hy
    obtain ⟨x, hx, rfl⟩ := Option.map_eq_some_iff.mp hy
    obtain ⟨bs, rfl, f⟩ := w
    have e : xs.take (i + 1) = xs.take i ++ [x] := by rw [List.take_add_one, hx]; rfl
    refine h x (List.mem_of_getElem? hx) _ fun b hb => ?_
    show ∃ bs' : List β, bs.map out ++ [out b] = bs'.map out ∧ F2 P (xs.take (i + 1)) bs'
    exact ⟨bs ++ [b], by simp, by rw [e]; exact f.snoc hb⟩
  · obtain ⟨bs, rfl, f⟩ := w
    rw [List.length_map, List.take_length] at f
    exact hq bs f
theorem zip_map (xs ys : List Fq) : zipD (xs.map hD) (ys.map hD) = (xs.zip ys).map fun p => .tuple [hD p.1, hD p.2] := by
  unfold zipD
  rw [List.zipWith_map, List.zip, List.map_zipWith]
theorem cut_1m (xs : List Fq) : cutD (xs.map hD) (some 1) none = (xs.drop 1).map hD := by rw [cut_1, List.map_drop]
theorem cut_l {α : Type} (f : α → D) (xs : List α) : cutD (xs.map f) (some (-1)) none = (xs.drop (xs.length - 1)).map f := by
  unfold cutD
  rw [List.map_drop]
  rw [HT.sIx_none, List.length_map]
  have e : HT.sIx xs.length 0 (some (-1)) = xs.length - 1 := by
    show (if (-1 : Int) < 0 then ((-1 : Int) + (xs.length : Int)).toNat else min (-1 : Int).toNat xs.length) = _
    rw [if_pos (by decide)]; omega
  rw [e, List.take_of_length_le (by rw [List.length_drop, List.length_map]; omega)]
theorem gap_ok : ∀ {hs g1 g2 : List Fq}, Srt Fq.lt hs → F2 (fun (p : Fq × Fq) m => Hb 62 m ∧ (Fq.lt p.1 p.2 = true → Fq.lt p.1 m = true ∧ Fq.lt m p.2 = true)) (hs.zip (hs.drop 1)) g1 → F2 (fun h g => Hb 62 g ∧ Fq.lt h g = true) (hs.drop (hs.length - 1)) g2 → GapOk hs (g1 ++ g2)
  | [], [], [], _, _, _ => trivial
  | [], _ :: _, _, _, h, _ => h.elim
  | [], [], _ :: _, _, _, h => h.elim
  | [h], [], [g], _, _, z => z.1.2
  | [h], [], [], _, _, z => z.elim
  | [h], [], _ :: _ :: _, _, _, z => z.2.elim
  | [h], _ :: _, _, _, z, _ => z.elim
  | h :: h' :: t, [], _, _, z, _ => z.elim
  | h :: h' :: t, g :: g1, g2, s, z, y => by
    unfold Srt at s
    rw [List.pairwise_cons] at s
    have l := s.1 h' (by simp)
    have zz := z.1.2 l
    refine ⟨zz.1, zz.2, gap_ok (hs := h' :: t) (g1 := g1) (g2 := g2) s.2 z.2 ?_⟩
    have e : (h :: h' :: t).drop ((h :: h' :: t).length - 1) = (h' :: t).drop ((h' :: t).length - 1) := by
      simp only [List.length_cons, Nat.add_sub_cancel]; rfl
    rw [e] at y; exact y
theorem zip_zipG (rows : List Rw) : ∀ hs gs : List Fq, (hs.zip gs).map (fun p => (p.1, val rows p.1, val rows p.2)) = zipG rows hs gs
  | [], _ => rfl
  | _ :: _, [] => rfl
  | h :: hs, g :: gs => by simp only [List.zip_cons_cons, List.map_cons, zipG]; rw [zip_zipG rows hs gs]
theorem zipG_len (rows : List Rw) (hs gs : List Fq) : (zipG rows hs gs).length ≤ hs.length := by
  rw [← zip_zipG, List.length_map, List.length_zip]; omega
theorem endsW_snoc (W : Fq → Int) (xs : List Fq) (u : Fq) : endsW W (xs ++ [u]) = endsW W xs ++ if W u = 0 then [] else [(u, W u)] := by
  unfold endsW
  rw [List.filter_append, List.map_append]
  by_cases e : W u = 0
  · simp [e]
  · simp [e]
theorem rep_1 {xs : List D} : repD 1 xs = xs := by simp [repD]
theorem rep_0 {xs : List D} : repD 0 xs = [] := by simp [repD]
/-! shapes -/
theorem lay_map {α : Type} (f : α → D) {n : Nat} (h : ∀ x, (f x).canLay0 = true ∧ (f x).depth ≤ n) : ∀ xs : List α, PyData.canLayAll0 (xs.map f) = true ∧ PyData.depthAll (xs.map f) ≤ n
  | [] => ⟨by simp [PyData.canLayAll0], by simp [PyData.depthAll]⟩
  | x :: xs => by
    obtain ⟨h1, h2⟩ := lay_map f h xs
    obtain ⟨h3, h4⟩ := h x
    exact ⟨by simp [PyData.canLayAll0, h1, h3], by simp only [List.map_cons, PyData.depthAll]; omega⟩
theorem lay_rw (r : Rw) : (rwD r).canLay0 = true ∧ (rwD r).depth ≤ 5 := ⟨by simp [PyData.canLay0, PyData.canLayAll0], by simp [PyData.depth, PyData.depthAll]⟩
theorem lay_st (t : Fq × Int × Int) : (stD t).canLay0 = true ∧ (stD t).depth ≤ 5 := ⟨by simp [PyData.canLay0, PyData.canLayAll0], by simp [PyData.depth, PyData.depthAll]⟩
theorem sh_rows (xs : List Rw) : SeqAt.shaped (.list (xs.map rwD)) = true := by
  obtain ⟨h1, h2⟩ := lay_map rwD lay_rw xs
  have e1 : (PyData.list (xs.map rwD)).canLay0 = true := by simpa [PyData.canLay0] using h1
  have e2 : (PyData.list (xs.map rwD)).depth ≤ 64 := by simp only [PyData.depth]; omega
  unfold SeqAt.shaped
  rw [e1, decide_eq_true e2]; rfl
theorem sh_ts (xs : List (Fq × Int × Int)) : SeqAt.shaped (.tuple (xs.map stD)) = true := by
  obtain ⟨h1, h2⟩ := lay_map stD lay_st xs
  have e1 : (PyData.tuple (xs.map stD)).canLay0 = true := by simpa [PyData.canLay0] using h1
  have e2 : (PyData.tuple (xs.map stD)).depth ≤ 64 := by simp only [PyData.depth]; omega
  unfold SeqAt.shaped
  rw [e1, decide_eq_true e2]; rfl
theorem dEq_nil {xs : List Rw} {Q : D → Prop} (h : Q (.bool xs.isEmpty)) : dEq (.list (xs.map rwD)) (.list []) Q := by
  show Q (.bool (xs.map rwD).isEmpty)
  cases xs <;> exact h
theorem lf_ew : ∀ xs : List (Fq × Int), listFrees (xs.map ewD) = true
  | [] => by simp [listFrees]
  | x :: xs => by simp only [List.map_cons, listFrees, listFree, Bool.true_and, Bool.and_true]; exact lf_ew xs
theorem lf_st : ∀ xs : List (Fq × Int × Int), listFrees (xs.map stD) = true
  | [] => by simp [listFrees]
  | x :: xs => by simp only [List.map_cons, listFrees, listFree, Bool.true_and, Bool.and_true]; exact lf_st xs
/-! what repr asks -/
theorem ok_map {α : Type} (f : α → D) {P : α → Prop} (h : ∀ x, P x → tame (f x) ∧ (f x).bulk ≤ 100 ∧ (f x).depth ≤ 5 ∧ (f x).hasDict = false) : ∀ xs : List α, (∀ x ∈ xs, P x) → tames (xs.map f) ∧ PyData.bulkAll (xs.map f) ≤ 102 * xs.length ∧ PyData.depthAll (xs.map f) ≤ 5 ∧ PyData.hasDictAll (xs.map f) = false
  | [], _ => ⟨trivial, by simp [PyData.bulkAll], by simp [PyData.depthAll], by simp [PyData.hasDictAll]⟩
  | x :: xs, hx => by
    obtain ⟨a, b, c, d⟩ := ok_map f h xs fun y hy => hx y (by simp [hy])
    obtain ⟨a', b', c', d'⟩ := h x (hx x (by simp))
    refine ⟨⟨a', a⟩, ?_, ?_, ?_⟩
    · simp only [List.map_cons, PyData.bulkAll, List.length_cons]; omega
    · simp only [List.map_cons, PyData.depthAll]; omega
    · simp only [List.map_cons, PyData.hasDictAll, d, d']; rfl
theorem ok_ew (t : Fq × Int) (h : Hb 900 t.1 ∧ Bd 900 t.2) : tame (ewD t) ∧ (ewD t).bulk ≤ 100 ∧ (ewD t).depth ≤ 5 ∧ (ewD t).hasDict = false := by
  refine ⟨⟨⟨h.1.1.h, h.1.2.h, trivial⟩, h.2.h, trivial⟩, ?_, ?_, ?_⟩
  · simp [PyData.bulk, PyData.bulkAll]
  · simp [PyData.depth, PyData.depthAll]
  · simp [PyData.hasDict, PyData.hasDictAll]
theorem rOk_two {xs ys : List (Fq × Int)} (hx : ∀ t ∈ xs, Hb 900 t.1 ∧ Bd 900 t.2) (hy : ∀ t ∈ ys, Hb 900 t.1 ∧ Bd 900 t.2) (lx : xs.length ≤ 100) (ly : ys.length ≤ 100) : rOk (.list [.list (xs.map ewD), .list (ys.map ewD)]) := by
  obtain ⟨a, b, c, d⟩ := ok_map ewD ok_ew xs hx
  obtain ⟨a', b', c', d'⟩ := ok_map ewD ok_ew ys hy
  refine rOk_of ⟨by simpa [tame] using a, by simpa [tame] using a', trivial⟩ ?_ ?_ ?_
  · simp only [PyData.bulk, PyData.bulkAll]; omega
  · simp only [PyData.depth, PyData.depthAll]; omega
  · intro z
    simp only [PyData.hasDict, PyData.hasDictAll, d, d'] at z
    cases z
theorem sw_bd (p : Rw → Bool) : ∀ {rows : List Rw}, (∀ r ∈ rows, r.w.natAbs ≤ 3) → (sw rows p).natAbs ≤ 3 * rows.length
  | [], _ => by simp [sw]
  | r :: rows, h => by
    have ih := sw_bd p (rows := rows) fun x hx => h x (by simp [hx])
    have := h r (by simp)
    rw [sw_cons, List.length_cons]
    split <;> omega
theorem ends_ok {n : Nat} {rows : List Rw} (R : RowsOk n rows) (hn : n ≤ 100) (key : Rw → Fq) (hk : ∀ r ∈ rows, Hb 30 (key r)) : (∀ t ∈ endsR rows key, Hb 900 t.1 ∧ Bd 900 t.2) ∧ (endsR rows key).length ≤ 100 := by
  constructor
  · intro t ht
    unfold endsR endsW at ht
    rw [List.mem_map] at ht
    obtain ⟨h, hh, rfl⟩ := ht
    have m := (ord_mem _ _).mp (List.mem_filter.mp hh).1
    obtain ⟨r, hr, rfl⟩ := List.mem_map.mp m
    refine ⟨(hk r hr).mono (by decide), ⟨?_⟩⟩
    have := sw_bd (rows := rows) (fun r' => decide (key r' = key r)) R.wb
    have := R.len
    have : (300 : Nat) < 2 ^ 900 := by decide +kernel
    show (sw rows _).natAbs < _
    omega
  · unfold endsR endsW
    rw [List.length_map]
    have l := ord_len (rows.map key)
    rw [List.length_map] at l
    have := R.len
    exact Nat.le_trans (List.length_filter_le _ _) (by omega)
end PH
namespace PH
theorem F2.len {α β : Type} {P : α → β → Prop} : ∀ {as : List α} {bs : List β}, F2 P as bs → as.length = bs.length
  | [], [], _ => rfl
  | _ :: _, _ :: _, h => by simp [F2.len h.2]
  | [], _ :: _, h => h.elim
  | _ :: _, [], h => h.elim
end PH
namespace PH
theorem dLcc_x {ι : Type} {mi : DA} {g : DG} {mt : DT} {me : DE} {vs : List Nat} {σd : DSt} {Q : List D → Prop} (P : ι → Prop) (ys : ι → List D) (hi : ∀ R : List D → Prop, (∀ i, P i → R (ys i)) → mi σd R)
    (h : ∀ i, P i → dLcc (fun _ R => R (ys i)) g mt me vs σd Q) : dLcc mi g mt me vs σd Q := hi _ h
end PH
namespace PH
open PySem PySem.Spec L2
theorem dFor_n {mi : DA} {g : DG} {mb rest : DS} {Dd : DEnds} {σd : DSt} (n : Nat) (W : Nat → DSt → Prop) (hi : ∀ R : List D → Prop, (∀ ys : List D, ys.length ≤ n → R ys) → mi σd R) (h0 : W 0 σd)
    (ht : ∀ i y, i < n → ∀ σ', W i σ' → g y σ' fun σ2 => mb { Dd with nx := W (i + 1), ct := W (i + 1), bk := rest Dd } σ2) (hr : ∀ i, i ≤ n → ∀ σ', W i σ' → rest Dd σ') : dSeq (dFor mi g mb) rest Dd σd :=
  hi _ fun ys hl => ⟨W, h0, fun i y σ' e w => ht i y (Nat.lt_of_lt_of_le (List.getElem?_eq_some_iff.mp e).1 hl) σ' w, hr _ hl⟩
theorem cop_next (n : Int) : Int.gcd n (n + 1) = 1 := by
  have h1 := Int.gcd_dvd_left (a := n) (b := n + 1)
  have h2 := Int.gcd_dvd_right (a := n) (b := n + 1)
  have h3 : (Int.gcd n (n + 1) : Int) ∣ 1 := by
    have := Int.dvd_sub h2 h1
    rwa [show n + 1 - n = 1 by omega] at this
  have := Int.le_of_dvd (by decide) h3
  have h0 : Int.gcd n (n + 1) ≠ 0 := fun z => by
    have := Int.gcd_eq_zero_iff.mp z
    omega
  omega
def IsH (d : D) : Prop := ∃ h : Fq, d = hD h ∧ Hb 30 h
theorem isH_1 {n : Int} (h0 : 0 < n) (h1 : n ≤ 10 ^ 9) : IsH (fr 1 n) := ⟨⟨1, n, h0, by simp⟩, rfl, ⟨by show (1 : Int).natAbs < 2 ^ 30; decide⟩, ⟨by show n.natAbs < 2 ^ 30; omega⟩⟩
theorem isH_n {n : Int} (h0 : 0 ≤ n) (h1 : n < 10 ^ 9) : IsH (fr n (n + 1)) := ⟨⟨n, n + 1, by omega, cop_next n⟩, rfl, ⟨by show n.natAbs < 2 ^ 30; omega⟩, ⟨by show (n + 1).natAbs < 2 ^ 30; omega⟩⟩
theorem RowsOk.nil : RowsOk 0 [] := ⟨fun _ h => by simp at h, fun _ h => by simp at h, fun _ h => by simp at h, by simp⟩
theorem RowsOk.cons {n : Nat} {rows : List Rw} (R : RowsOk n rows) {lo hi : Fq} {w : Int} (h : Fq.lt hi lo = false) (h1 : Hb 30 lo) (h2 : Hb 30 hi) (hw : w.natAbs ≤ 3) : RowsOk (n + 1) (⟨lo, hi, w⟩ :: rows) :=
  ⟨fun r hr => by rcases List.mem_cons.mp hr with rfl | hr; exact h; exact R.le r hr, fun r hr => by rcases List.mem_cons.mp hr with rfl | hr; exact ⟨h1, h2⟩; exact R.hb r hr, fun r hr => by rcases List.mem_cons.mp hr with rfl | hr; exact hw; exact R.wb r hr, by have := R.len; simp; omega⟩
theorem RowsOk.app {m n : Nat} {xs ys : List Rw} (R : RowsOk m xs) (S : RowsOk n ys) : RowsOk (m + n) (xs ++ ys) :=
  ⟨fun r hr => by rcases List.mem_append.mp hr with hr | hr; exact R.le r hr; exact S.le r hr, fun r hr => by rcases List.mem_append.mp hr with hr | hr; exact R.hb r hr; exact S.hb r hr, fun r hr => by rcases List.mem_append.mp hr with hr | hr; exact R.wb r hr; exact S.wb r hr, by have := R.len; have := S.len; simp; omega⟩
theorem RowsOk.tail {n : Nat} {r : Rw} {rs : List Rw} (R : RowsOk (n + 1) (r :: rs)) : RowsOk n rs := ⟨fun x hx => R.le x (by simp [hx]), fun x hx => R.hb x (by simp [hx]), fun x hx => R.wb x (by simp [hx]), by have := R.len; simp at this; omega⟩
abbrev negR (r : Rw) : Rw := ⟨r.lo, r.hi, -r.w⟩
theorem RowsOk.neg {n : Nat} {rs : List Rw} (R : RowsOk n rs) : RowsOk n (rs.map negR) := by
  refine ⟨fun x hx => ?_, fun x hx => ?_, fun x hx => ?_, by rw [List.length_map]; exact R.len⟩ <;> obtain ⟨y, hy, rfl⟩ := List.mem_map.mp hx
  · exact R.le y hy
  · exact R.hb y hy
  · have := R.wb y hy; show (-y.w).natAbs ≤ 3; omega
end PH

namespace PH
open PySem PySem.Spec L2
theorem str_due {lows highs : List (Fq × Int)} (h : (lows.map (·.2)).sum = (highs.map (·.2)).sum) : strF lows highs = dueF lows highs := by
  rcases lows with _ | ⟨⟨l, w⟩, _ | ⟨l2, ls⟩⟩
  · rfl
  · rcases highs with _ | ⟨⟨k, v⟩, _ | ⟨k2, ks⟩⟩
    · rfl
    · have e : w = v := by simpa using h
      subst e; rfl
    · rfl
  · rfl
theorem str_cases {lows highs : List (Fq × Int)} (h : (lows.map (·.2)).sum = (highs.map (·.2)).sum) : strF lows highs = .none ∨ ∃ (l k : Fq) (w : Int), lows = [(l, w)] ∧ highs = [(k, w)] ∧ w.natAbs = 1 ∧ strF lows highs = .tuple [.int w, hD l, hD k] := by
  rcases lows with _ | ⟨⟨l, w⟩, _ | ⟨l2, ls⟩⟩
  · exact .inl rfl
  · rcases highs with _ | ⟨⟨k, v⟩, _ | ⟨k2, ks⟩⟩
    · exact .inl rfl
    · have e : w = v := by simpa using h
      subst e
      by_cases z : w.natAbs = 1
      · exact .inr ⟨l, k, w, rfl, rfl, z, if_pos z⟩
      · exact .inl (if_neg z)
    · exact .inl rfl
  · exact .inl rfl
theorem ends_hb {n k : Nat} {rows : List Rw} (R : RowsOk n rows) (key : Rw → Fq) (hk : ∀ r ∈ rows, Hb k (key r)) : ∀ t ∈ endsR rows key, Hb k t.1 := by
  intro t ht
  unfold endsR endsW at ht
  rw [List.mem_map] at ht
  obtain ⟨h, hh, rfl⟩ := ht
  have m := (ord_mem _ _).mp (List.mem_filter.mp hh).1
  obtain ⟨r, hr, rfl⟩ := List.mem_map.mp m
  exact hk r hr
theorem rec_len {α : Type} (WL WH : α → Int) : ∀ (a : Int) (hs : List α), (recS WL WH a hs).length = hs.length
  | _, [] => rfl
  | a, h :: hs => by simp only [recS, List.length_cons]; rw [rec_len]
theorem steps_len {n : Nat} {rows : List Rw} (R : RowsOk n rows) : (stepsR rows).length ≤ 2 * n := by
  unfold stepsR
  rw [rec_len]
  have := ord_len (rows.map Rw.lo ++ rows.map Rw.hi)
  rw [List.length_append, List.length_map, List.length_map] at this
  have := R.len
  exact Nat.le_trans (List.length_filter_le _ _) (by unfold hsOf; omega)
theorem sum_bd : ∀ {rows : List Rw}, (∀ r ∈ rows, r.w.natAbs ≤ 3) → (rows.map Rw.w).sum.natAbs ≤ 3 * rows.length
  | [], _ => by simp
  | r :: rows, h => by
    have ih := sum_bd (rows := rows) fun x hx => h x (by simp [hx])
    have := h r (by simp)
    simp only [List.map_cons, List.sum_cons, List.length_cons]
    omega
end PH
namespace PH
open PySem PySem.Spec L2
theorem notN_no {Q : D → Prop} : dIsN true .none .none Q = Q (.bool false) := rfl
theorem notN_t {xs : List D} {Q : D → Prop} : dIsN true (.tuple xs) .none Q = Q (.bool true) := rfl
theorem isN_no {Q : D → Prop} : dIsN false .none .none Q = Q (.bool true) := rfl
end PH

/-! Hulls: the chain of places in order; all places stand on its left. -/
namespace PH
theorem sgn_pos {D P Q s u v : Int} (hs : 0 < s) (hu : 0 < u) (hv : 0 < v) (e : D * s = P * u + Q * v) (h : (0 < P ∧ 0 ≤ Q) ∨ (0 ≤ P ∧ 0 < Q)) : 0 < D := by
  refine Int.lt_of_mul_lt_mul_right (a := s) ?_ (by omega)
  rw [e, Int.zero_mul]
  rcases h with ⟨h1, h2⟩ | ⟨h1, h2⟩
  · have := Int.mul_pos h1 hu; have := Int.mul_nonneg h2 (show 0 ≤ v by omega); omega
  · have := Int.mul_pos h2 hv; have := Int.mul_nonneg h1 (show 0 ≤ u by omega); omega
theorem sgn_nn {D P Q s u v : Int} (hs : 0 < s) (hu : 0 < u) (hv : 0 < v) (e : D * s = P * u + Q * v) (h1 : 0 ≤ P) (h2 : 0 ≤ Q) : 0 ≤ D := by
  refine Int.le_of_mul_le_mul_right (a := s) ?_ hs
  rw [e, Int.zero_mul]
  have := Int.mul_nonneg h1 (show 0 ≤ u by omega); have := Int.mul_nonneg h2 (show 0 ≤ v by omega); omega
theorem sgn_np {D P Q s u v : Int} (hs : 0 < s) (hu : 0 < u) (hv : 0 < v) (e : D * s = P * u + Q * v) (h1 : P ≤ 0) (h2 : Q ≤ 0) : D ≤ 0 := by
  have := sgn_nn (D := -D) (P := -P) (Q := -Q) hs hu hv (by rw [Int.neg_mul, Int.neg_mul, Int.neg_mul]; omega) (by omega) (by omega)
  omega
section
variable {α : Type}
/-- sides and an order that go together -/
structure Ori (R : α → α → Prop) (o : α → α → α → Int) : Prop where
  cyc : ∀ a b c, o b c a = o a b c
  anti : ∀ a b c, o b a c = -o a b c
  tr : ∀ {a b c}, R a b → R b c → R a c
  ir : ∀ a, ¬ R a a
  tot : ∀ a b, R a b ∨ a = b ∨ R b a
  four : ∀ {a b c d}, R a b → R b c → R c d → ∃ ab ac ad bc bd cd : Int, 0 < ab ∧ 0 < ac ∧ 0 < ad ∧ 0 < bc ∧ 0 < bd ∧ 0 < cd ∧
    o a b d * ac = o a c d * ab + o a b c * ad ∧ o a c d * bd = o b c d * ad + o a b d * cd ∧ o a b d * bc = o b c d * ab + o a b c * bd ∧ o a c d * bc = o b c d * ac + o a b c * cd
namespace Ori
variable {R : α → α → Prop} {o : α → α → α → Int} (O : Ori R o)
include O
theorem z1 (a b : α) : o a a b = 0 := by have := O.anti a a b; omega
theorem z2 (a b : α) : o a b b = 0 := by rw [← O.cyc]; exact O.z1 b a
theorem z3 (a b : α) : o a b a = 0 := (O.cyc a a b).trans (O.z1 a b)
theorem sw (a b c : α) : o a c b = -o a b c := by have h1 := O.cyc a c b; have h2 := O.anti b c a; have h3 := O.cyc a b c; omega
end Ori
variable (o : α → α → α → Int)
/-- a place put on the chain (its last one first) -/
def push (p : α) : List α → List α
  | b :: a :: r => if o a b p < 1 then push p (a :: r) else p :: b :: a :: r
  | st => p :: st
/-- the sides of a chain (its last one first) -/
def sidesR : List α → List (α × α)
  | b :: a :: r => (a, b) :: sidesR (a :: r)
  | _ => []
variable {o}
theorem sidesR_mem {R : α → α → Prop} : ∀ {st : List α}, st.Pairwise (fun x y => R y x) → ∀ {u v : α}, (u, v) ∈ sidesR st → u ∈ st ∧ v ∈ st ∧ R u v ∧ (v = st.head? ∨ ∃ b, st.head? = some b ∧ R v b)
  | [], _, u, v, h => by simp [sidesR] at h
  | [_], _, u, v, h => by simp [sidesR] at h
  | b :: a :: r, hp, u, v, h => by
    rw [List.pairwise_cons] at hp
    simp only [sidesR, List.mem_cons, Prod.mk.injEq] at h
    rcases h with ⟨rfl, rfl⟩ | h
    · exact ⟨by simp, by simp, hp.1 _ (by simp), .inl rfl⟩
    · obtain ⟨h1, h2, h3, _⟩ := sidesR_mem hp.2 h
      exact ⟨List.mem_cons_of_mem _ h1, List.mem_cons_of_mem _ h2, h3, .inr ⟨b, rfl, hp.1 _ h2⟩⟩
/-- what holds of a chain of the places seen -/
structure Chn (R : α → α → Prop) (o : α → α → α → Int) (S : α → Prop) (st : List α) : Prop where
  mem : ∀ x ∈ st, S x
  des : st.Pairwise fun x y => R y x
  low : ∀ q, S q → ∃ m, st.getLast? = some m ∧ (q = m ∨ R m q)
  left : ∀ u v, (u, v) ∈ sidesR st → ∀ q, S q → 0 ≤ o u v q
  conv : ∀ c b a, [c, b, a] <:+: st → 0 < o a b c
theorem Chn.tail {R : α → α → Prop} {S : α → Prop} {b a : α} {r : List α} (C : Chn R o S (b :: a :: r)) : Chn R o S (a :: r) :=
  ⟨fun x hx => C.mem x (List.mem_cons_of_mem _ hx), (List.pairwise_cons.mp C.des).2, fun q hq => by
    obtain ⟨m, h1, h2⟩ := C.low q hq
    rw [List.getLast?_cons_cons] at h1
    exact ⟨m, h1, h2⟩, fun u v h q hq => C.left u v (by simp only [sidesR]; exact List.mem_cons_of_mem _ h) q hq, fun c b' a' h => C.conv c b' a' (h.trans (List.infix_cons (List.infix_refl _)))⟩
theorem push_ok {R : α → α → Prop} (O : Ori R o) {S : α → Prop} {p : α} (hp : ∀ q, S q → R q p) : ∀ {st : List α}, st ≠ [] → Chn R o S st → (∀ b, st.head? = some b → ∀ q, S q → R b q → 0 ≤ o b p q) →
    Chn R o (fun q => S q ∨ q = p) (push o p st) ∧ (push o p st).head? = some p
  | [], n, _, _ => absurd rfl n
  | [b], _, C, K => by
    have hb := C.mem b (by simp)
    refine ⟨⟨fun x hx => ?_, ?_, fun q hq => ?_, fun u v h q hq => ?_, fun c b' a' h => ?_⟩, rfl⟩
    · simp only [push, List.mem_cons, List.not_mem_nil, or_false] at hx
      rcases hx with rfl | rfl
      · exact .inr rfl
      · exact .inl hb
    · simp only [push, List.pairwise_cons, List.mem_cons, List.not_mem_nil, or_false, forall_eq, false_implies, implies_true, List.Pairwise.nil, and_true]
      exact hp b hb
    · refine ⟨b, rfl, ?_⟩
      rcases hq with hq | rfl
      · obtain ⟨m, h1, h2⟩ := C.low q hq
        simp at h1; subst h1; exact h2
      · exact .inr (hp b hb)
    · simp only [push, sidesR, List.mem_cons, Prod.mk.injEq, List.not_mem_nil, or_false] at h
      obtain ⟨rfl, rfl⟩ := h
      rcases hq with hq | rfl
      · obtain ⟨m, h1, h2⟩ := C.low q hq
        simp at h1; subst h1
        rcases h2 with rfl | h2
        · rw [O.z3]; exact Int.le_refl _
        · exact K _ rfl q hq h2
      · rw [O.z2]; exact Int.le_refl _
    · exact absurd h.length_le (by simp [push])
  | b :: a :: r, _, C, K => by
    have hb := C.mem b (by simp)
    have ha := C.mem a (by simp)
    have dd := List.pairwise_cons.mp C.des
    have ab : R a b := dd.1 a (by simp)
    have bp := hp b hb
    have ap := hp a ha
    have eL : ∀ q, S q → 0 ≤ o a b q := C.left a b (by simp [sidesR])
    simp only [push]
    by_cases z : o a b p < 1
    · rw [if_pos z]
      refine push_ok O hp (by simp) C.tail fun a' ha' q hq haq => ?_
      simp at ha'; subst ha'
      have nq := hp q hq
      rw [O.sw]
      suffices o a q p ≤ 0 by omega
      rcases O.tot q b with qb | rfl | bq
      · obtain ⟨s1, s2, s3, s4, s5, s6, p1, p2, p3, p4, p5, p6, i1, i2, i3, i4⟩ := O.four haq qb bp
        have := eL q hq
        have w : o a q b ≤ 0 := by rw [O.sw]; omega
        exact sgn_np p2 p1 p3 i1 (by omega) w
      · omega
      · obtain ⟨s1, s2, s3, s4, s5, s6, p1, p2, p3, p4, p5, p6, i1, i2, i3, i4⟩ := O.four ab bq nq
        have := K b rfl q hq bq
        have w : o b q p ≤ 0 := by rw [O.sw]; omega
        exact sgn_np p5 p3 p6 i2 w (by omega)
    · rw [if_neg z]
      have zp : 0 < o a b p := by omega
      -- the new side
      have new : ∀ q, S q → 0 ≤ o b p q := fun q hq => by
        rcases O.tot q b with qb | rfl | bq
        · rw [O.cyc q b p]
          rcases O.tot q a with qa | rfl | aq
          · obtain ⟨s1, s2, s3, s4, s5, s6, p1, p2, p3, p4, p5, p6, i1, i2, i3, i4⟩ := O.four qa ab bp
            have := eL q hq
            rw [O.cyc q a b] at this
            exact sgn_nn p4 p2 p6 i4 (by omega) this
          · omega
          · obtain ⟨s1, s2, s3, s4, s5, s6, p1, p2, p3, p4, p5, p6, i1, i2, i3, i4⟩ := O.four aq qb bp
            have := eL q hq
            have w := O.sw a b q
            refine sgn_nn (P := o a b p) (Q := -o a q b) p2 p4 p6 ?_ (by omega) (by omega)
            rw [Int.neg_mul]; omega
        · rw [O.z3]; exact Int.le_refl _
        · exact K b rfl q hq bq
      refine ⟨⟨fun x hx => ?_, ?_, fun q hq => ?_, fun u v h q hq => ?_, fun c b' a' h => ?_⟩, rfl⟩
      · rcases List.mem_cons.mp hx with rfl | hx
        · exact .inr rfl
        · exact .inl (C.mem x hx)
      · rw [List.pairwise_cons]
        exact ⟨fun x hx => hp x (C.mem x hx), C.des⟩
      · rw [List.getLast?_cons_cons]
        rcases hq with hq | rfl
        · exact C.low q hq
        · obtain ⟨m, h1, h2⟩ := C.low b hb
          refine ⟨m, h1, .inr ?_⟩
          rcases h2 with rfl | h2
          · exact bp
          · exact O.tr h2 bp
      · simp only [sidesR, List.mem_cons, Prod.mk.injEq] at h
        rcases h with ⟨rfl, rfl⟩ | h
        · rcases hq with hq | rfl
          · exact new q hq
          · rw [O.z2]; exact Int.le_refl _
        · have h' : (u, v) ∈ sidesR (b :: a :: r) := by simp only [sidesR, List.mem_cons, Prod.mk.injEq]; exact h
          rcases hq with hq | rfl
          · exact C.left u v h' q hq
          · rcases h with ⟨rfl, rfl⟩ | h
            · omega
            · obtain ⟨m1, m2, uv, _⟩ := sidesR_mem dd.2 h
              have vb := dd.1 v m2
              have sv := C.mem v (List.mem_cons_of_mem _ m2)
              obtain ⟨s1, s2, s3, s4, s5, s6, p1, p2, p3, p4, p5, p6, i1, i2, i3, i4⟩ := O.four uv vb bp
              have n1 := new v sv
              rw [O.cyc v b q] at n1
              exact sgn_nn p4 p1 p5 i3 n1 (C.left u v h' b hb)
      · rcases List.infix_cons_iff.mp h with h | h
        · simp only [List.cons_prefix_cons] at h
          obtain ⟨rfl, rfl, rfl, _⟩ := h
          exact zp
        · exact C.conv c b' a' h
/-- the chain of places in order, its last one first -/
def chainR (o : α → α → α → Int) (ps : List α) : List α := ps.foldl (fun st p => push o p st) []
theorem chain_step (ps : List α) (p : α) : chainR o (ps ++ [p]) = push o p (chainR o ps) := by unfold chainR; rw [List.foldl_append]; rfl
theorem chain_ok {R : α → α → Prop} (O : Ori R o) : ∀ (ps : List α), ps ≠ [] → ps.Pairwise R → Chn R o (· ∈ ps) (chainR o ps) ∧ (chainR o ps).head? = ps.getLast? ∧ (chainR o ps).getLast? = ps.head? := by
  intro ps
  generalize hn : ps.length = n
  induction n generalizing ps with
  | zero => intro n; rw [List.length_eq_zero_iff] at hn; exact absurd hn n
  | succ n ih =>
    intro ne hp
    obtain ⟨qs, p, rfl⟩ : ∃ qs p, ps = qs ++ [p] := ⟨ps.dropLast, ps.getLast ne, (List.dropLast_concat_getLast ne).symm⟩
    rw [chain_step]
    rw [List.pairwise_append] at hp
    cases qs with
    | nil =>
      show Chn R o _ [p] ∧ _
      refine ⟨⟨fun x hx => by simpa using hx, by simp, fun q hq => ⟨p, rfl, .inl (by simpa using hq)⟩, fun u v h => by simp [sidesR] at h, fun c b a h => absurd h.length_le (by simp)⟩, rfl, rfl⟩
    | cons q0 qs =>
      obtain ⟨C, h1, h2⟩ := ih (q0 :: qs) (by simp at hn ⊢; omega) (by simp) hp.1
      have hq : ∀ q, q ∈ q0 :: qs → R q p := fun q hq => hp.2.2 q hq p (by simp)
      have stne : chainR o (q0 :: qs) ≠ [] := fun z => by rw [z] at h2; simp at h2
      have top : ∀ b, (chainR o (q0 :: qs)).head? = some b → ∀ q, q ∈ q0 :: qs → R b q → 0 ≤ o b p q := fun b hb q hq bq => by
        exfalso
        rw [h1] at hb
        have e := List.getLast?_eq_some_iff.mp hb
        obtain ⟨ys, e⟩ := e
        have pw := hp.1
        rw [e, List.pairwise_append] at pw
        rw [e] at hq
        rcases List.mem_append.mp hq with y | y
        · exact O.ir b (O.tr bq (pw.2.2 q y b (by simp)))
        · simp at y; subst y; exact O.ir _ bq
      obtain ⟨C', h3⟩ := push_ok O hq stne C top
      refine ⟨⟨fun x hx => ?_, C'.des, fun q hq => ?_, fun u v h q hq => ?_, C'.conv⟩, ?_, ?_⟩
      · rcases C'.mem x hx with y | y
        · exact List.mem_append.mpr (.inl y)
        · exact List.mem_append.mpr (.inr (by simp [y]))
      · refine C'.low q ?_
        rcases List.mem_append.mp hq with y | y
        · exact .inl y
        · exact .inr (by simpa using y)
      · refine C'.left u v h q ?_
        rcases List.mem_append.mp hq with y | y
        · exact .inl y
        · exact .inr (by simpa using y)
      · rw [h3, List.getLast?_append]; rfl
      · obtain ⟨m, e1, e2⟩ := C'.low q0 (.inl (by simp))
        rw [e1]
        have hm : m ∈ push o p (chainR o (q0 :: qs)) := List.mem_of_getLast? e1
        rcases e2 with rfl | e2
        · simp
        · exfalso
          rcases C'.mem m hm with y | rfl
          · rcases List.mem_cons.mp y with rfl | y
            · exact O.ir _ e2
            · exact O.ir _ (O.tr e2 ((List.pairwise_cons.mp hp.1).1 m y))
          · exact O.ir _ (O.tr e2 (hq q0 (by simp)))
end
end PH

/-! The hull: both chains; places of the plane. -/
namespace PH
open PySem PySem.Spec L2
section
variable {α : Type}
/-- each with the next one -/
def nx (xs : List α) : List (α × α) := xs.zip (xs.drop 1)
theorem nx_cons (x y : α) (xs : List α) : nx (x :: y :: xs) = (x, y) :: nx (y :: xs) := rfl
theorem nx_app : ∀ (xs : List α) (l : α) (zs : List α), nx (xs ++ l :: zs) = nx (xs ++ [l]) ++ nx (l :: zs)
  | [], l, zs => by simp [nx]
  | [x], l, zs => by simp [nx]
  | x :: y :: xs, l, zs => by
    have := nx_app (y :: xs) l zs
    simp only [List.cons_append] at this ⊢
    rw [nx_cons, nx_cons, this]; rfl
theorem nx_rev {o : α → α → α → Int} : ∀ (st : List α) (u v : α), (u, v) ∈ nx st.reverse ↔ (u, v) ∈ sidesR st
  | [], u, v => by simp [nx, sidesR]
  | [x], u, v => by simp [nx, sidesR]
  | b :: a :: r, u, v => by
    have ih := nx_rev (o := o) (a :: r) u v
    rw [List.reverse_cons, List.reverse_cons, List.append_assoc]
    show (u, v) ∈ nx (r.reverse ++ a :: [b]) ↔ _
    rw [nx_app, List.mem_append]
    rw [List.reverse_cons] at ih
    rw [ih]
    simp only [sidesR, List.mem_cons]
    simp only [nx, List.drop_succ_cons, List.drop_zero, List.zip_cons_cons, List.zip_nil_right, List.mem_cons, List.not_mem_nil, or_false]
    exact or_comm
theorem Ori.flip {R : α → α → Prop} {o : α → α → α → Int} (O : Ori R o) : Ori (fun a b => R b a) o where
  cyc := O.cyc
  anti := O.anti
  tr h1 h2 := O.tr h2 h1
  ir := O.ir
  tot a b := by rcases O.tot a b with h | h | h; exact .inr (.inr h); exact .inr (.inl h); exact .inl h
  four := by
    intro a b c d h1 h2 h3
    have r : ∀ a b c, o c b a = -o a b c := fun a b c => by have h1 := O.anti b c a; have h2 := O.cyc a b c; omega
    obtain ⟨ab, ac, ad, bc, bd, cd, p1, p2, p3, p4, p5, p6, i1, i2, i3, i4⟩ := O.four h3 h2 h1
    refine ⟨cd, bd, ad, bc, ac, ab, p6, p5, p3, p4, p2, p1, ?_, ?_, ?_, ?_⟩
    · rw [r a b d, r a b c, r a c d] at i2
      simp only [Int.neg_mul] at i2; omega
    · rw [r a c d, r a b d, r b c d] at i1
      simp only [Int.neg_mul] at i1; omega
    · rw [r a b d, r a b c, r b c d] at i4
      simp only [Int.neg_mul] at i4; omega
    · rw [r a c d, r a b c, r b c d] at i3
      simp only [Int.neg_mul] at i3; omega
/-- the chain as the program's list -/
def chainL (o : α → α → α → Int) (ps : List α) : List α := (chainR o ps).reverse
/-- the corners of the hull of places in order -/
def hullL (o : α → α → α → Int) (ps : List α) : List α := (chainL o ps).dropLast ++ (chainL o ps.reverse).dropLast
/-- what holds of the corners -/
structure Hull (R : α → α → Prop) (o : α → α → α → Int) (S : List α) (H : List α) : Prop where
  mem : ∀ x ∈ H, x ∈ S
  left : ∀ m, H.head? = some m → ∀ u v, (u, v) ∈ nx (H ++ [m]) → ∀ q ∈ S, 0 ≤ o u v q
  two : ∀ a b, H = [a, b] → R a b ∧ ∀ q ∈ S, (q = a ∨ R a q) ∧ (q = b ∨ R q b)
  len : 2 ≤ H.length
theorem hull_ok {R : α → α → Prop} {o : α → α → α → Int} (O : Ori R o) {ps : List α} (hl : 2 ≤ ps.length) (hp : ps.Pairwise R) : Hull R o ps (hullL o ps) := by
  have ne : ps ≠ [] := fun z => by rw [z] at hl; simp at hl
  have ne' : ps.reverse ≠ [] := fun z => ne (List.reverse_eq_nil_iff.mp z)
  obtain ⟨C, h1, h2⟩ := chain_ok O ps ne hp
  obtain ⟨C', h1', h2'⟩ := chain_ok O.flip ps.reverse ne' (List.pairwise_reverse.mpr hp)
  obtain ⟨m, hm⟩ : ∃ m, ps.head? = some m := by cases ps with | nil => exact absurd rfl ne | cons a b => exact ⟨a, rfl⟩
  obtain ⟨M, hM⟩ : ∃ m, ps.getLast? = some m := ⟨_, List.getLast?_eq_getLast ne⟩
  rw [List.getLast?_reverse, hm] at h1'
  rw [List.head?_reverse, hM] at h2'
  rw [hM] at h1; rw [hm] at h2
  have Lh : (chainL o ps).head? = some m := by unfold chainL; rw [List.head?_reverse]; exact h2
  have Ll : (chainL o ps).getLast? = some M := by unfold chainL; rw [List.getLast?_reverse]; exact h1
  have Uh : (chainL o ps.reverse).head? = some M := by unfold chainL; rw [List.head?_reverse]; exact h2'
  have Ul : (chainL o ps.reverse).getLast? = some m := by unfold chainL; rw [List.getLast?_reverse]; exact h1'
  have mM : R m M := by
    cases ps with
    | nil => exact absurd rfl ne
    | cons a b =>
      simp at hm; subst hm
      cases b with
      | nil => simp at hl
      | cons b c =>
        rw [List.getLast?_cons_cons] at hM
        exact (List.pairwise_cons.mp hp).1 M (List.mem_of_getLast? hM)
  have nmM : m ≠ M := fun z => O.ir M (z ▸ mM)
  have mn : ∀ q ∈ ps, q = m ∨ R m q := fun q hq => by
    obtain ⟨m', e, h⟩ := C.low q hq
    rw [h2] at e; cases e; exact h
  have mx : ∀ q ∈ ps, q = M ∨ R q M := fun q hq => by
    obtain ⟨m', e, h⟩ := C'.low q (List.mem_reverse.mpr hq)
    rw [h2'] at e; cases e; exact h
  obtain ⟨L, hL⟩ := List.getLast?_eq_some_iff.mp Ll
  obtain ⟨U, hU⟩ := List.getLast?_eq_some_iff.mp Ul
  have eH : hullL o ps = L ++ U := by unfold hullL; rw [hL, hU, List.dropLast_concat, List.dropLast_concat]
  -- the first ones
  obtain ⟨L', rfl⟩ : ∃ L', L = m :: L' := by
    cases L with
    | nil => rw [hL] at Lh; simp at Lh; exact absurd Lh.symm nmM
    | cons a b => rw [hL] at Lh; simp at Lh; exact ⟨b, by rw [Lh]⟩
  obtain ⟨U', rfl⟩ : ∃ U', U = M :: U' := by
    cases U with
    | nil => rw [hU] at Uh; simp at Uh; exact absurd Uh nmM
    | cons a b => rw [hU] at Uh; simp at Uh; exact ⟨b, by rw [Uh]⟩
  rw [eH]
  refine ⟨fun x hx => ?_, fun m' hm' u v h q hq => ?_, fun a b e => ?_, by simp; omega⟩
  · rcases List.mem_append.mp hx with y | y
    · refine C.mem x (List.mem_reverse.mp ?_)
      show x ∈ chainL o ps
      rw [hL]; exact List.mem_append.mpr (.inl y)
    · refine List.mem_reverse.mp (C'.mem x (List.mem_reverse.mp ?_))
      show x ∈ chainL o ps.reverse
      rw [hU]; exact List.mem_append.mpr (.inl y)
  · simp at hm'; subst hm'
    have e : (m :: L') ++ (M :: U') ++ [m] = (m :: L') ++ M :: (U' ++ [m]) := by simp
    rw [e, nx_app, List.mem_append] at h
    rcases h with h | h
    · refine C.left u v ((nx_rev (o := o) _ u v).mp ?_) q hq
      show (u, v) ∈ nx (chainL o ps)
      rw [hL]; exact h
    · refine C'.left u v ((nx_rev (o := o) _ u v).mp ?_) q (List.mem_reverse.mpr hq)
      show (u, v) ∈ nx (chainL o ps.reverse)
      rw [hU]; exact h
  · have : L'.length + U'.length = 0 := by
      have := congrArg List.length e
      simp at this; omega
    have l0 : L' = [] := List.length_eq_zero_iff.mp (by omega)
    have u0 : U' = [] := List.length_eq_zero_iff.mp (by omega)
    subst l0; subst u0
    simp at e
    obtain ⟨rfl, rfl⟩ := e
    exact ⟨mM, fun q hq => ⟨mn q hq, mx q hq⟩⟩
end
/-! ### places of the plane -/
structure Pt where
  x : Int
  y : Int
  d : Int
  pos : 0 < d
  cop : g3 x y d = 1
deriving DecidableEq
theorem Pt.ext' {p q : Pt} (h1 : p.x = q.x) (h2 : p.y = q.y) (h3 : p.d = q.d) : p = q := by
  cases p; cases q; simp at h1 h2 h3; subst h1; subst h2; subst h3; rfl
namespace Pt
def lt (p q : Pt) : Bool := lessP p.x p.y p.d q.x q.y q.d
def o (p q r : Pt) : Int := detP p.x p.y p.d q.x q.y q.d r.x r.y r.d
def sx (p q : Pt) : Int := q.x * p.d - p.x * q.d
def sy (p q : Pt) : Int := q.y * p.d - p.y * q.d
theorem lt_iff (p q : Pt) : lt p q = true ↔ 0 < sx p q ∨ (sx p q = 0 ∧ 0 < sy p q) := by
  unfold lt lessP sx sy
  rw [decide_eq_true_iff]
  constructor <;> rintro (h | h) <;> omega
theorem cop_of {p q : Pt} (h1 : sx p q = 0) (h2 : sy p q = 0) : p = q := by
  unfold sx sy at *
  obtain ⟨e1, e2, e3⟩ := place_uniq p.pos q.pos p.cop q.cop (show p.x * q.d = q.x * p.d by omega) (show p.y * q.d = q.y * p.d by omega)
  exact Pt.ext' e1 e2 e3
theorem sx_tr (a b c : Pt) : sx a c * b.d = sx a b * c.d + sx b c * a.d := by unfold sx; grind
theorem sy_tr (a b c : Pt) : sy a c * b.d = sy a b * c.d + sy b c * a.d := by unfold sy; grind
theorem x1 (a b c d : Pt) : o a b d * sx a c = o a c d * sx a b + o a b c * sx a d := by unfold o detP sx; grind
theorem x2 (a b c d : Pt) : o a c d * sx b d = o b c d * sx a d + o a b d * sx c d := by unfold o detP sx; grind
theorem x3 (a b c d : Pt) : o a b d * sx b c = o b c d * sx a b + o a b c * sx b d := by unfold o detP sx; grind
theorem x4 (a b c d : Pt) : o a c d * sx b c = o b c d * sx a c + o a b c * sx c d := by unfold o detP sx; grind
theorem y1 (a b c d : Pt) : o a b d * sy a c = o a c d * sy a b + o a b c * sy a d := by unfold o detP sy; grind
theorem y2 (a b c d : Pt) : o a c d * sy b d = o b c d * sy a d + o a b d * sy c d := by unfold o detP sy; grind
theorem y3 (a b c d : Pt) : o a b d * sy b c = o b c d * sy a b + o a b c * sy b d := by unfold o detP sy; grind
theorem y4 (a b c d : Pt) : o a c d * sy b c = o b c d * sy a c + o a b c * sy c d := by unfold o detP sy; grind
end Pt
end PH

namespace PH
open PySem PySem.Spec L2
namespace Pt
theorem lp_tr {a b s t u : Int} (h : u * b = s * a + t * b) : u * b = s * a + t * b := h
theorem shear {N X Y : Int} (hN : Y.natAbs < N) (h : 0 < X ∨ (X = 0 ∧ 0 < Y)) : 0 < N * X + Y := by
  rcases h with h | ⟨h, h'⟩
  · have : N * 1 ≤ N * X := Int.mul_le_mul_of_nonneg_left (by omega) (by omega)
    omega
  · rw [h, Int.mul_zero]; omega
theorem comb {D P Q N X Y X1 Y1 X2 Y2 : Int} (e1 : D * X = P * X1 + Q * X2) (e2 : D * Y = P * Y1 + Q * Y2) : D * (N * X + Y) = P * (N * X1 + Y1) + Q * (N * X2 + Y2) := by
  have a1 : D * (N * X + Y) = N * (D * X) + D * Y := by grind
  have a2 : P * (N * X1 + Y1) + Q * (N * X2 + Y2) = N * (P * X1 + Q * X2) + (P * Y1 + Q * Y2) := by grind
  rw [a1, a2, e1, e2]
theorem mul_pos' {a b : Int} (hb : 0 < b) : 0 < a * b ↔ 0 < a := by
  constructor
  · intro h
    exact Int.lt_of_mul_lt_mul_right (a := b) (by omega) (by omega)
  · exact fun h => Int.mul_pos h hb
theorem tr' {a b c : Pt} (h1 : lt a b = true) (h2 : lt b c = true) : lt a c = true := by
  rw [lt_iff] at *
  have ex := sx_tr a b c
  have ey := sy_tr a b c
  have pa := a.pos; have pb := b.pos; have pc := c.pos
  rcases h1 with h1 | ⟨h1, h1'⟩
  · left
    rw [← mul_pos' pb, ex]
    have := Int.mul_pos h1 pc
    rcases h2 with h2 | ⟨h2, _⟩
    · have := Int.mul_pos h2 pa; omega
    · rw [h2, Int.zero_mul]; omega
  · rcases h2 with h2 | ⟨h2, h2'⟩
    · left
      rw [← mul_pos' pb, ex, h1, Int.zero_mul]
      have := Int.mul_pos h2 pa; omega
    · right
      constructor
      · rw [h1, h2, Int.zero_mul, Int.zero_mul] at ex
        rcases Int.mul_eq_zero.mp ex with z | z
        · exact z
        · omega
      · rw [← mul_pos' pb, ey]
        have := Int.mul_pos h1' pc; have := Int.mul_pos h2' pa; omega
theorem sx_neg (a b : Pt) : sx b a = -sx a b := by unfold sx; omega
theorem sy_neg (a b : Pt) : sy b a = -sy a b := by unfold sy; omega
theorem ori : Ori (fun p q : Pt => lt p q = true) o where
  cyc a b c := det_cyc a.x a.y a.d b.x b.y b.d c.x c.y c.d
  anti a b c := det_swap a.x a.y a.d b.x b.y b.d c.x c.y c.d
  tr := tr'
  ir a := by rw [lt_iff]; unfold sx sy; omega
  tot a b := by
    have n1 := sx_neg a b
    have n2 := sy_neg a b
    by_cases h1 : sx a b = 0
    · by_cases h2 : sy a b = 0
      · exact .inr (.inl (cop_of h1 h2))
      · by_cases h3 : 0 < sy a b
        · exact .inl ((lt_iff a b).mpr (.inr ⟨h1, h3⟩))
        · exact .inr (.inr ((lt_iff b a).mpr (.inr ⟨by omega, by omega⟩)))
    · by_cases h3 : 0 < sx a b
      · exact .inl ((lt_iff a b).mpr (.inl h3))
      · exact .inr (.inr ((lt_iff b a).mpr (.inl (by omega))))
  four := by
    intro a b c d h1 h2 h3
    have ac := tr' h1 h2
    have bd := tr' h2 h3
    have ad := tr' ac h3
    rw [lt_iff] at h1 h2 h3 ac bd ad
    obtain ⟨N, hN⟩ : ∃ N : Int, N = 1 + (sy a b).natAbs + (sy a c).natAbs + (sy a d).natAbs + (sy b c).natAbs + (sy b d).natAbs + (sy c d).natAbs := ⟨_, rfl⟩
    exact ⟨N * sx a b + sy a b, N * sx a c + sy a c, N * sx a d + sy a d, N * sx b c + sy b c, N * sx b d + sy b d, N * sx c d + sy c d, shear (by omega) h1, shear (by omega) ac, shear (by omega) ad, shear (by omega) h2, shear (by omega) bd, shear (by omega) h3,
      comb (x1 a b c d) (y1 a b c d), comb (x2 a b c d) (y2 a b c d), comb (x3 a b c d) (y3 a b c d), comb (x4 a b c d) (y4 a b c d)⟩
end Pt
end PH

/-! Places and plates: what the defs promise. -/
namespace PH
open PySem PySem.Spec L2
abbrev pD (p : Pt) : D := pl p.x p.y p.d
def PB (k : Nat) (p : Pt) : Prop := Bd k p.x ∧ Bd k p.y ∧ Bd k p.d
theorem PB.mono {j k : Nat} {p : Pt} (h : PB j p) (l : j ≤ k) : PB k p := ⟨h.1.mono l, h.2.1.mono l, h.2.2.mono l⟩
def PBd (j k : Nat) (p : Pt) : Prop := Bd j p.x ∧ Bd j p.y ∧ Bd k p.d
theorem PBd.pb {j k : Nat} {p : Pt} (h : PBd j k p) (l : k ≤ j) : PB j p := ⟨h.1, h.2.1, h.2.2.mono l⟩
theorem PBd.mono {j k j' k' : Nat} {p : Pt} (h : PBd j k p) (l : j ≤ j') (l' : k ≤ k') : PBd j' k' p := ⟨h.1.mono l, h.2.1.mono l, h.2.2.mono l'⟩
theorem pt_of2 {x y d : Int} {j k : Nat} (h : d ≠ 0) (h1 : Bd j x) (h2 : Bd j y) (h3 : Bd k d) : ∃ p : Pt, plc x y d = pD p ∧ PBd j k p ∧ p.x * d = x * p.d ∧ p.y * d = y * p.d := by
  obtain ⟨u, v, w, e, a1, a2, a3, a4, a5⟩ := plc_spec (x := x) (y := y) h
  obtain ⟨c1, c2, c3, c4⟩ := plc_cross h e
  exact ⟨⟨u, v, w, c3, c4⟩, e, ⟨⟨Nat.lt_of_le_of_lt a3 h1.h⟩, ⟨Nat.lt_of_le_of_lt a4 h2.h⟩, ⟨Nat.lt_of_le_of_lt a5 h3.h⟩⟩, c1, c2⟩
theorem pt_of {x y d : Int} {k : Nat} (h : d ≠ 0) (h1 : Bd k x) (h2 : Bd k y) (h3 : Bd k d) : ∃ p : Pt, plc x y d = pD p ∧ PB k p ∧ p.x * d = x * p.d ∧ p.y * d = y * p.d := by
  obtain ⟨u, v, w, e, P⟩ := plc_Pl (x := x) (y := y) (d := d) h h1 h2 h3
  obtain ⟨c1, c2, c3, c4⟩ := plc_cross h e
  exact ⟨⟨u, v, w, c3, c4⟩, e, ⟨P.2.2.1, P.2.2.2.1, P.2.2.2.2⟩, c1, c2⟩
theorem pD_inj {p q : Pt} (h : pD p = pD q) : p = q := by
  simp only [PyData.tuple.injEq, List.cons.injEq, PyData.int.injEq, and_true] at h
  exact Pt.ext' h.1 h.2.1 h.2.2
theorem pD_mem {p : Pt} {ps : List Pt} : pD p ∈ ps.map pD ↔ p ∈ ps := by
  rw [List.mem_map]
  constructor
  · rintro ⟨y, hy, e⟩; rw [← pD_inj e]; exact hy
  · exact fun h => ⟨p, h, rfl⟩
theorem eqv_pD (p q : Pt) : PyData.eqv (pD p) (pD q) = decide (p = q) := by
  rw [eqv_pp]
  by_cases e : p = q
  · subst e; simp
  · rw [decide_eq_false e]
    by_cases e1 : p.x = q.x
    · by_cases e2 : p.y = q.y
      · rw [decide_eq_true e1, decide_eq_true e2, decide_eq_false fun e3 => e (Pt.ext' e1 e2 e3)]; rfl
      · rw [decide_eq_true e1, decide_eq_false e2]; rfl
    · rw [decide_eq_false e1]; rfl
theorem lay_pt (p : Pt) : (pD p).canLay0 = true ∧ (pD p).depth ≤ 5 := ⟨by simp [PyData.canLay0, PyData.canLayAll0], by simp [PyData.depth, PyData.depthAll]⟩
theorem sh_pts (xs : List Pt) : SeqAt.shaped (.list (xs.map pD)) = true := by
  obtain ⟨h1, h2⟩ := lay_map pD lay_pt xs
  have e1 : (PyData.list (xs.map pD)).canLay0 = true := by simpa [PyData.canLay0] using h1
  have e2 : (PyData.list (xs.map pD)).depth ≤ 64 := by simp only [PyData.depth]; omega
  unfold SeqAt.shaped
  rw [e1, decide_eq_true e2]; rfl
theorem any_pD {xs : List Pt} {u : Pt} : ((xs.map pD).any fun z => PyData.eqv z (pD u)) = decide (u ∈ xs) := by
  induction xs with
  | nil => rfl
  | cons x xs ih =>
    rw [List.map_cons, List.any_cons, ih, eqv_pD]
    by_cases e : x = u
    · subst e; simp
    · rw [decide_eq_false e, Bool.false_or]
      by_cases h : u ∈ xs
      · rw [decide_eq_true h, decide_eq_true (List.mem_cons_of_mem _ h)]
      · rw [decide_eq_false h, decide_eq_false fun z => (List.mem_cons.mp z).elim (fun y => e y.symm) h]
theorem dIn_pD {neg : Bool} {xs : List Pt} {u : Pt} {Q : D → Prop} (h1 : u ∈ xs → Q (.bool (!neg))) (h2 : u ∉ xs → Q (.bool neg)) : dIn neg (pD u) (.list (xs.map pD)) Q := by
  refine ⟨sh_iii, sh_pts xs, ?_⟩
  rw [any_pD]
  by_cases h : u ∈ xs
  · rw [decide_eq_true h]; have := h1 h; cases neg <;> exact this
  · rw [decide_eq_false h]; have := h2 h; cases neg <;> exact this
theorem dEq_pD {p q : Pt} {Q : D → Prop} (h : Q (.bool (decide (p = q)))) : dEq (pD p) (pD q) Q := by
  refine ⟨sh_iii, sh_iii, ?_⟩
  rw [eqv_pD]; exact h
/-! calls -/
theorem step_c {p q : Pt} {k : Nat} (hp : PB k p) (hq : PB k q) (hk : k ≤ 1000) {Q : D → Prop} (h : Q (.tuple [.int (Pt.sx p q), .int (Pt.sy p q)])) : spPl2 (fun _ _ _ _ _ _ => True) (fun a b c d e g => .tuple [.int (stepX a c d g), .int (stepX b c e g)]) [pD p, pD q] Q :=
  ⟨p.x, p.y, p.d, q.x, q.y, q.d, k, rfl, trivial, hp.1, hp.2.1, hp.2.2, hq.1, hq.2.1, hq.2.2, hk, h⟩
theorem first_c {p q : Pt} {k : Nat} (hp : PB k p) (hq : PB k q) (hk : k ≤ 1000) {Q : D → Prop} (h : Q (.bool (Pt.lt p q))) : spPl2 (fun _ _ _ _ _ _ => True) (fun a b c d e g => .bool (lessP a b c d e g)) [pD p, pD q] Q :=
  ⟨p.x, p.y, p.d, q.x, q.y, q.d, k, rfl, trivial, hp.1, hp.2.1, hp.2.2, hq.1, hq.2.1, hq.2.2, hk, h⟩
def spTurnP : DSp := fun ds Q => ∃ (p q r : Pt) (k : Nat), ds = [pD p, pD q, pD r] ∧ PB k p ∧ PB k q ∧ PB k r ∧ k ≤ 1000 ∧ Q (.int (Int.sign (Pt.o p q r)))
theorem turn_c {p q r : Pt} {k : Nat} (hp : PB k p) (hq : PB k q) (hr : PB k r) (hk : k ≤ 1000) {Q : D → Prop} (h : Q (.int (Int.sign (Pt.o p q r)))) : spTurnP [pD p, pD q, pD r] Q := ⟨p, q, r, k, rfl, hp, hq, hr, hk, h⟩
theorem turn_id (p q r : Pt) : Pt.sx p q * Pt.sy p r - Pt.sy p q * Pt.sx p r = p.d * Pt.o p q r := by unfold Pt.sx Pt.sy Pt.o detP; grind
theorem sign_turn (p q r : Pt) : Int.sign (Pt.sx p q * Pt.sy p r - Pt.sy p q * Pt.sx p r) = Int.sign (Pt.o p q r) := by
  rw [turn_id, Int.sign_mul, Int.sign_eq_one_of_pos p.pos, Int.one_mul]
def PsOk (n : Nat) (ds : List D) (ps : List Pt) : Prop := ds = [.list (ps.map pD)] ∧ (∃ k, k ≤ 1000 ∧ ∀ p ∈ ps, PB k p) ∧ ps.length ≤ n
def spPlaces : DSp := fun ds Q => ∃ ps : List Pt, PsOk 1000 ds ps ∧ Q (.list ((ordT Pt.lt ps).map pD))
def spChain : DSp := fun ds Q => ∃ ps : List Pt, PsOk 1000 ds ps ∧ Q (.list ((chainL Pt.o ps).dropLast.map pD))
def hullP (ps : List Pt) : List Pt := if (ordT Pt.lt ps).length < 2 then ordT Pt.lt ps else hullL Pt.o (ordT Pt.lt ps)
def spHull : DSp := fun ds Q => ∃ ps : List Pt, PsOk 1000 ds ps ∧ Q (.tuple ((hullP ps).map pD))
theorem Pt.ltT : ∀ x y z : Pt, lt x y = true → lt y z = true → lt x z = true := fun _ _ _ => tr'
theorem Pt.ltO (x y : Pt) (h : x ≠ y) : lt y x = !lt x y := by
  have no : ∀ a b, lt a b = true → lt b a = false := fun a b h => by
    cases e : lt b a with
    | false => rfl
    | true => exact absurd (tr' h e) (by have := ori.ir a; simpa using this)
  rcases ori.tot x y with e | e | e
  · rw [e, no _ _ e]; rfl
  · exact absurd e h
  · rw [e, no _ _ e]; rfl
theorem pord_srt (ps : List Pt) : (ordT Pt.lt ps).Pairwise (fun p q => Pt.lt p q = true) := (ord_ok Pt.ltT Pt.ltO ps).1
theorem pord_mem (ps : List Pt) (x : Pt) : x ∈ ordT Pt.lt ps ↔ x ∈ ps := (ord_ok Pt.ltT Pt.ltO ps).2.1 x
theorem pord_len (ps : List Pt) : (ordT Pt.lt ps).length ≤ ps.length := (ord_ok Pt.ltT Pt.ltO ps).2.2
theorem push_len {α : Type} (o : α → α → α → Int) (p : α) : ∀ st : List α, (push o p st).length ≤ st.length + 1
  | [] => by simp [push]
  | [b] => by simp [push]
  | b :: a :: r => by
    simp only [push]
    split
    · have := push_len o p (a :: r)
      simp only [List.length_cons] at this ⊢; omega
    · simp
theorem chain_len {α : Type} (o : α → α → α → Int) (ps : List α) : (chainR o ps).length ≤ ps.length := by
  have : ∀ (ps st : List α), (ps.foldl (fun st p => push o p st) st).length ≤ ps.length + st.length := fun ps => by
    induction ps with
    | nil => intro st; simp
    | cons p ps ih =>
      intro st
      have := push_len o p st
      have := ih (push o p st)
      simp only [List.foldl_cons, List.length_cons]; omega
  have z := this ps []
  rw [List.length_nil, Nat.add_zero] at z
  exact z
/-- a plate: one place, or a hull's corners -/
def PlateOk (H : List Pt) : Prop := (∃ a, H = [a]) ∨ ∃ S, Hull (fun p q => Pt.lt p q = true) Pt.o S H ∧ ∀ x ∈ H, x ∈ S
theorem plate_ok {ps : List Pt} (h : ps ≠ []) : PlateOk (hullP ps) ∧ (∀ x ∈ hullP ps, x ∈ ps) ∧ (hullP ps).length ≤ 2 * ps.length := by
  have m := pord_mem ps
  have l := pord_len ps
  have s := pord_srt ps
  unfold hullP
  split
  · rename_i hl
    refine ⟨.inl ?_, fun x hx => (m x).mp hx, by omega⟩
    match e : ordT Pt.lt ps with
    | [] =>
      exfalso
      obtain ⟨x, hx⟩ := List.exists_mem_of_ne_nil _ h
      have := (m x).mpr hx
      rw [e] at this; simp at this
    | [a] => exact ⟨a, rfl⟩
    | a :: b :: r => rw [e] at hl; simp at hl; omega
  · rename_i hl
    have H := hull_ok Pt.ori (by omega) s
    refine ⟨.inr ⟨_, H, H.mem⟩, fun x hx => (m x).mp (H.mem x hx), ?_⟩
    unfold hullL chainL
    rw [List.length_append, List.length_dropLast, List.length_dropLast, List.length_reverse, List.length_reverse]
    have := chain_len Pt.o (ordT Pt.lt ps)
    have := chain_len Pt.o (ordT Pt.lt ps).reverse
    rw [List.length_reverse] at this
    omega
def spPool : DSp := fun ds Q => ∃ n w : Int, ds = [SRC, .int n, .int w] ∧ 1 ≤ n ∧ n ≤ 100 ∧ 0 ≤ w ∧ w ≤ 4 ∧ ∀ ps : List Pt, ps.length = n.toNat → (∀ p ∈ ps, PBd 4 2 p) → Q (.list (ps.map pD))
def spPlate : DSp := fun ds Q => ∃ ps : List Pt, ds = [SRC, .list (ps.map pD)] ∧ ps ≠ [] ∧ ps.length ≤ 1000 ∧ (∀ p ∈ ps, PBd 4 2 p) ∧ ∀ H : List Pt, PlateOk H → (∀ p ∈ H, PBd 4 2 p) → H.length ≤ 8 → Q (.tuple (H.map pD))
def spMore : DSp := fun ds Q => ∃ (H ps : List Pt), ds = [SRC, .tuple (H.map pD), .list (ps.map pD)] ∧ PlateOk H ∧ (∀ p ∈ H, PBd 4 2 p) ∧ H.length ≤ 8 ∧ ∀ H' : List Pt, PlateOk H' → (∀ p ∈ H', PBd 7 4 p) → H'.length ≤ 128 → Q (.tuple (H'.map pD))
def spMiddle : DSp := fun ds Q => ∃ (p q : Pt) (j k : Nat), ds = [pD p, pD q] ∧ PB j p ∧ PB k q ∧ j + k ≤ 950 ∧ ∀ m : Pt, PB (j + k + 2) m → m.x * (2 * p.d * q.d) = (p.x * q.d + q.x * p.d) * m.d → m.y * (2 * p.d * q.d) = (p.y * q.d + q.y * p.d) * m.d → Q (pD m)
def spNear : DSp := fun ds Q => ∃ (p : Pt) (k : Nat), ds = [SRC, pD p] ∧ PB k p ∧ k ≤ 900 ∧ ∀ m : Pt, PB (k + 21) m → Q (pD m)
/-- what has_place tells of a plate -/
def hasB (H : List Pt) (p : Pt) : Bool := match H with
  | [a] => decide (a = p)
  | [a, b] => decide (Pt.o a b p = 0) && (!Pt.lt p a && !Pt.lt b p)
  | H => (nx (H ++ H.take 1)).all fun e => decide (0 ≤ Pt.o e.1 e.2 p)
abbrev ppD (e : Pt × Pt) : D := .tuple [pD e.1, pD e.2]
def spWays : DSp := fun ds Q => ∃ H : List Pt, ds = [.tuple (H.map pD)] ∧ 2 ≤ H.length ∧ H.length ≤ 1000 ∧ Q (.list ((nx (H ++ H.take 1)).map ppD))
def spHas : DSp := fun ds Q => ∃ (H : List Pt) (p : Pt) (k : Nat), ds = [.tuple (H.map pD), pD p] ∧ PlateOk H ∧ (∀ x ∈ H, PB k x) ∧ PB k p ∧ k ≤ 1000 ∧ H.length ≤ 1000 ∧ Q (.bool (hasB H p))
/-- a mixture of corners: whatever linear is not below 0 at all of them is not below 0 there -/
def MixOf (H : List Pt) (p : Pt) : Prop := ∀ A B C : Int, (∀ c ∈ H, 0 ≤ A * c.x + B * c.y + C * c.d) → 0 ≤ A * p.x + B * p.y + C * p.d
def spMixed : DSp := fun ds Q => ∃ H : List Pt, ds = [SRC, .tuple (H.map pD)] ∧ H ≠ [] ∧ (∀ x ∈ H, PBd 7 4 x) ∧ H.length ≤ 128 ∧ ∀ m : Pt, PB 700 m → MixOf H m → Q (pD m)
theorem PlateOk.ne {H : List Pt} (h : PlateOk H) : H ≠ [] := by
  rcases h with ⟨a, rfl⟩ | ⟨S, h, _⟩
  · simp
  · intro z; have := h.len; rw [z] at this; simp at this
theorem atI_m1 {α : Type} (xs : List α) (a : α) : L2.atI (xs ++ [a]) (-1) = some a := L2.atI_last xs a
theorem atI_m2 {α : Type} (xs : List α) (a b : α) : L2.atI (xs ++ [a, b]) (-2) = some a := by
  have hl : (xs ++ [a, b]).length = xs.length + 2 := by simp
  unfold L2.atI L2.ixN
  rw [hl, if_neg (by decide)]
  rw [if_pos (by omega)]
  show (xs ++ [a, b])[((-2 : Int) + ((xs.length + 2 : Nat) : Int)).toNat]? = some a
  rw [show ((-2 : Int) + ((xs.length + 2 : Nat) : Int)).toNat = xs.length by omega]
  simp
theorem cut_init {α : Type} (f : α → D) (xs : List α) : cutD (xs.map f) none (some (-1)) = xs.dropLast.map f := by
  unfold cutD
  rw [HT.sIx_none, List.drop_zero, List.length_map, Nat.sub_zero, List.dropLast_eq_take, List.map_take]
  congr 1
  show (if (-1 : Int) < 0 then ((-1 : Int) + (xs.length : Int)).toNat else min (-1 : Int).toNat xs.length) = _
  rw [if_pos (by decide)]; omega
end PH
namespace PH
theorem push_mem {α : Type} {o : α → α → α → Int} : ∀ (p : α) (st : List α) {x : α}, x ∈ push o p st → x = p ∨ x ∈ st
  | p, [], x, h => by simpa [push] using h
  | p, [b], x, h => by simpa [push] using h
  | p, b :: a :: r, x, h => by
    simp only [push] at h
    split at h
    · rcases push_mem p (a :: r) h with y | y
      · exact .inl y
      · exact .inr (List.mem_cons_of_mem _ y)
    · exact List.mem_cons.mp h
end PH
namespace PH
open PySem PySem.Spec L2
theorem nx_mem {α : Type} {xs : List α} {u v : α} (h : (u, v) ∈ nx (xs ++ xs.take 1)) : u ∈ xs ∧ v ∈ xs := by
  unfold nx at h
  have := List.of_mem_zip h
  have t : ∀ x, x ∈ xs ++ xs.take 1 → x ∈ xs := fun x hx => (List.mem_append.mp hx).elim id List.mem_of_mem_take
  exact ⟨t _ this.1, t _ (List.mem_of_mem_drop this.2)⟩
theorem hasB_2 (a b p : Pt) : hasB [a, b] p = (decide (Pt.o a b p = 0) && (!Pt.lt p a && !Pt.lt b p)) := rfl
theorem hasB_3 (a b c : Pt) (r : List Pt) (p : Pt) : hasB (a :: b :: c :: r) p = (nx ((a :: b :: c :: r) ++ (a :: b :: c :: r).take 1)).all fun e => decide (0 ≤ Pt.o e.1 e.2 p) := rfl
theorem hasB_no (a b : Pt) (r : List Pt) (p : Pt) : ∀ e ∈ nx ((a :: b :: r) ++ (a :: b :: r).take 1), Pt.o e.1 e.2 p < 0 → hasB (a :: b :: r) p = false := by
  intro e he z
  cases r with
  | nil =>
    have he' : e = (a, b) ∨ e = (b, a) := by simpa [nx] using he
    have n : Pt.o a b p ≠ 0 := by
      rcases he' with rfl | rfl
      · dsimp only at z; omega
      · have := Pt.ori.anti a b p; dsimp only at z; omega
    rw [hasB_2, decide_eq_false n]; rfl
  | cons c r =>
    rw [hasB_3, List.all_eq_false]
    exact ⟨e, he, by simp; omega⟩
theorem hasB_fin2 (a b : Pt) (p : Pt) (h : ∀ e ∈ nx ([a, b] ++ [a, b].take 1), 0 ≤ Pt.o e.1 e.2 p) : hasB [a, b] p = (!Pt.lt p a && !Pt.lt b p) := by
  have h1 := h (a, b) (by simp [nx])
  have h2 := h (b, a) (by simp [nx])
  have := Pt.ori.anti a b p
  dsimp only at h1 h2
  rw [hasB_2, decide_eq_true (by omega), Bool.true_and]
theorem hasB_fin3 (a b c : Pt) (r : List Pt) (p : Pt) (h : ∀ e ∈ nx ((a :: b :: c :: r) ++ (a :: b :: c :: r).take 1), 0 ≤ Pt.o e.1 e.2 p) : hasB (a :: b :: c :: r) p = true := by
  rw [hasB_3, List.all_eq_true]
  exact fun e he => decide_eq_true (h e he)
end PH
namespace PH
theorem cut_to {α : Type} (f : α → D) (xs : List α) (n : Nat) : cutD (xs.map f) none (some (n : Int)) = (xs.take n).map f := by
  unfold cutD
  rw [HT.sIx_none, List.drop_zero, Nat.sub_zero, HT.sIx_nat, List.length_map, List.map_take]
  by_cases h : n ≤ xs.length
  · rw [Nat.min_eq_left h]
  · rw [Nat.min_eq_right (by omega), List.take_of_length_le (by rw [List.length_map]; omega), List.take_of_length_le (by rw [List.length_map]; omega)]
end PH

/-! Mixtures and middles of places of a plate. -/
namespace PH
open PySem PySem.Spec L2
def O1 : Pt := ⟨0, 0, 1, by decide, by decide⟩
theorem PlateOk.two {a b : Pt} (h : PlateOk [a, b]) : Pt.lt a b = true := by
  rcases h with ⟨c, h⟩ | ⟨S, h, _⟩
  · cases h
  · exact (h.two a b rfl).1
/-- two that go one way, both ahead: their product is above 0 -/
theorem dot_pos {x1 y1 x2 y2 : Int} (c : x1 * y2 = y1 * x2) (h1 : 0 < x1 ∨ (x1 = 0 ∧ 0 < y1)) (h2 : 0 < x2 ∨ (x2 = 0 ∧ 0 < y2)) : 0 < x1 * x2 + y1 * y2 := by
  rcases h1 with h1 | ⟨h1, h1'⟩
  · rcases h2 with h2 | ⟨h2, h2'⟩
    · have a := Int.mul_pos h1 h2
      have k : (y1 * y2) * (x1 * x2) = (x1 * y2) * (y1 * x2) := by grind
      rw [c] at k
      have s : 0 ≤ (y1 * x2) * (y1 * x2) := by
        rcases Int.le_total 0 (y1 * x2) with z | z
        · exact Int.mul_nonneg z z
        · exact Int.mul_nonneg_of_nonpos_of_nonpos z z
      rw [← k] at s
      have : 0 ≤ y1 * y2 := Int.le_of_mul_le_mul_right (a := x1 * x2) (by rw [Int.zero_mul]; exact s) a
      omega
    · exfalso
      rw [h2, Int.mul_zero] at c
      have := Int.mul_pos h1 h2'
      omega
  · rcases h2 with h2 | ⟨h2, h2'⟩
    · exfalso
      rw [h1, Int.zero_mul] at c
      have := Int.mul_pos h1' h2
      omega
    · rw [h1, h2, Int.zero_mul]
      have := Int.mul_pos h1' h2'
      omega
theorem col_id (a b p : Pt) (h : Pt.o a b p = 0) : Pt.sx p a * Pt.sy p b = Pt.sy p a * Pt.sx p b := by
  have := turn_id p a b
  have e : Pt.o p a b = Pt.o a b p := (Pt.ori.cyc p a b).symm
  rw [e, h, Int.mul_zero] at this
  omega
theorem seg_has {a b p : Pt} (ab : Pt.lt a b = true) (h : Pt.o a b p = 0) : decide (Pt.sx p a * Pt.sx p b + Pt.sy p a * Pt.sy p b ≤ 0) = (!Pt.lt p a && !Pt.lt b p) := by
  have c := col_id a b p h
  have no : ∀ a b, Pt.lt a b = true → Pt.lt b a = false := fun a b h => by
    cases e : Pt.lt b a with
    | false => rfl
    | true => exact absurd (Pt.tr' h e) (by have := Pt.ori.ir a; simpa using this)
  rcases Pt.ori.tot p a with z | z | z
  · have zb := Pt.tr' z ab
    have d := dot_pos c ((Pt.lt_iff p a).mp z) ((Pt.lt_iff p b).mp zb)
    rw [z, decide_eq_false (by omega)]; rfl
  · subst z
    have e1 : Pt.sx p p = 0 := by unfold Pt.sx; omega
    have e2 : Pt.sy p p = 0 := by unfold Pt.sy; omega
    have e3 : Pt.lt p p = false := by have := Pt.ori.ir p; simpa using this
    rw [e1, e2, Int.zero_mul, Int.zero_mul, e3, no _ _ ab]; rfl
  · rw [no _ _ z]
    have ap := (Pt.lt_iff a p).mp z
    rw [Pt.sx_neg p a, Pt.sy_neg p a] at ap
    rcases Pt.ori.tot b p with y | y | y
    · have bp := (Pt.lt_iff b p).mp y
      rw [Pt.sx_neg p b, Pt.sy_neg p b] at bp
      have d := dot_pos (x1 := -Pt.sx p a) (y1 := -Pt.sy p a) (x2 := -Pt.sx p b) (y2 := -Pt.sy p b) (by rw [Int.neg_mul_neg, Int.neg_mul_neg]; exact c) ap bp
      rw [Int.neg_mul_neg, Int.neg_mul_neg] at d
      rw [y, decide_eq_false (by omega)]; rfl
    · subst y
      have e1 : Pt.sx b b = 0 := by unfold Pt.sx; omega
      have e2 : Pt.sy b b = 0 := by unfold Pt.sy; omega
      have e3 : Pt.lt b b = false := by have := Pt.ori.ir b; simpa using this
      rw [e1, e2, Int.mul_zero, Int.mul_zero, e3]; rfl
    · have d := dot_pos (x1 := -Pt.sx p a) (y1 := -Pt.sy p a) (x2 := Pt.sx p b) (y2 := Pt.sy p b) (by rw [Int.neg_mul, Int.neg_mul]; omega) ap ((Pt.lt_iff p b).mp y)
      rw [Int.neg_mul, Int.neg_mul] at d
      rw [no _ _ y, decide_eq_true (by omega)]; rfl
theorem mix_step {A B C fx fy fd ux uy ud gx gy gd n m : Int} (hu : 0 < ud) (hf : 0 < fd) (hg : 0 < gd) (hm : 0 ≤ m) (c1 : gx * (fd * ud) = (fx * ud + m * ux * fd) * gd) (c2 : gy * (fd * ud) = (fy * ud + m * uy * fd) * gd)
    (lin : 0 ≤ A * fx + B * fy + C * (fd * n)) (hc : 0 ≤ A * ux + B * uy + C * ud) : 0 ≤ A * gx + B * gy + C * (gd * (n + m)) := by
  have k : 0 < fd * ud := Int.mul_pos hf hu
  refine Int.le_of_mul_le_mul_right (a := fd * ud) ?_ k
  rw [Int.zero_mul]
  have e : (A * gx + B * gy + C * (gd * (n + m))) * (fd * ud) = A * (gx * (fd * ud)) + B * (gy * (fd * ud)) + C * (gd * (n + m)) * (fd * ud) := by grind
  rw [e, c1, c2]
  have e2 : A * ((fx * ud + m * ux * fd) * gd) + B * ((fy * ud + m * uy * fd) * gd) + C * (gd * (n + m)) * (fd * ud) = (A * fx + B * fy + C * (fd * n)) * (ud * gd) + (A * ux + B * uy + C * ud) * (m * fd * gd) := by grind
  rw [e2]
  have h1 := Int.mul_nonneg lin (show 0 ≤ ud * gd from Int.le_of_lt (Int.mul_pos hu hg))
  have h2 := Int.mul_nonneg hc (show 0 ≤ m * fd * gd from Int.mul_nonneg (Int.mul_nonneg hm (by omega)) (by omega))
  omega
end PH
namespace PH
open PySem PySem.Spec L2
theorem mix_end {A B C fx fy k gx gy gd : Int} (hk : 0 < k) (hg : 0 < gd) (c1 : gx * k = fx * gd) (c2 : gy * k = fy * gd) (lin : 0 ≤ A * fx + B * fy + C * k) : 0 ≤ A * gx + B * gy + C * gd := by
  refine Int.le_of_mul_le_mul_right (a := k) ?_ hk
  rw [Int.zero_mul]
  have e : (A * gx + B * gy + C * gd) * k = A * (gx * k) + B * (gy * k) + C * gd * k := by grind
  rw [e, c1, c2]
  have e2 : A * (fx * gd) + B * (fy * gd) + C * gd * k = (A * fx + B * fy + C * k) * gd := by grind
  rw [e2]
  exact Int.mul_nonneg lin (by omega)
/-- each corner with the one ahead of it, from the first one on -/
def rot (H : List Pt) : List (Pt × Pt) := match H with
  | [] => []
  | a :: r => ((a :: r).getLast (by simp), a) :: nx (a :: r)
theorem rot_len (H : List Pt) (h : H ≠ []) : (rot H).length = H.length := by
  cases H with
  | nil => exact absurd rfl h
  | cons a r => simp [rot, nx]
theorem rot_nx (H : List Pt) (h : H ≠ []) (e : Pt × Pt) : e ∈ rot H ↔ e ∈ nx (H ++ H.take 1) := by
  cases H with
  | nil => exact absurd rfl h
  | cons a r =>
    have hl : a :: r = (a :: r).dropLast ++ [(a :: r).getLast (by simp)] := (List.dropLast_concat_getLast (by simp)).symm
    have e1 : nx ((a :: r) ++ (a :: r).take 1) = nx (a :: r) ++ [((a :: r).getLast (by simp), a)] := by
      show nx ((a :: r) ++ [a]) = _
      generalize (a :: r).getLast (by simp) = l at hl
      rw [hl, List.append_assoc]
      show nx ((a :: r).dropLast ++ l :: [a]) = _
      rw [nx_app]; simp [nx]
    rw [e1, List.mem_append]
    simp only [rot, List.mem_cons, List.not_mem_nil, or_false]
    exact or_comm
theorem rot_mem (H : List Pt) : ∀ e ∈ rot H, e.1 ∈ H ∧ e.2 ∈ H := fun e he => by
  cases H with
  | nil => simp [rot] at he
  | cons a r => exact nx_mem (u := e.1) (v := e.2) ((rot_nx (a :: r) (by simp) e).mp he)
theorem rot_ix (H : List Pt) (h : H ≠ []) : ∀ (k : Nat) (e : Pt × Pt), (rot H)[k]? = some e → L2.atI (H.map pD) ((k : Int) - 1) = some (pD e.1) ∧ L2.atI (H.map pD) (k : Int) = some (pD e.2) := by
  intro k e he
  cases H with
  | nil => exact absurd rfl h
  | cons a r =>
    cases k with
    | zero =>
      simp [rot] at he
      subst he
      constructor
      · have hl : a :: r = (a :: r).dropLast ++ [(a :: r).getLast (by simp)] := (List.dropLast_concat_getLast (by simp)).symm
        show L2.atI ((a :: r).map pD) (-1) = _
        generalize (a :: r).getLast (by simp) = l at hl
        rw [hl, List.map_append]
        exact L2.atI_last _ _
      · exact L2.atI_nat rfl
    | succ k =>
      simp only [rot, List.getElem?_cons_succ] at he
      unfold nx at he
      rw [List.getElem?_zip_eq_some] at he
      obtain ⟨h1, h2⟩ := he
      constructor
      · rw [show ((k + 1 : Nat) : Int) - 1 = (k : Int) by omega]
        exact L2.atI_nat (by rw [List.getElem?_map, h1]; rfl)
      · refine L2.atI_nat ?_
        rw [List.getElem?_drop] at h2
        rw [List.getElem?_map, Nat.add_comm, h2]; rfl
theorem has_rot (a b c : Pt) (r : List Pt) (p : Pt) : (!((rot (a :: b :: c :: r)).any fun e => decide (Int.sign (Pt.o e.1 e.2 p) < 0))) = hasB (a :: b :: c :: r) p := by
  have sg : ∀ z : Int, (Int.sign z < 0) ↔ z < 0 := fun z => by
    rcases Int.lt_trichotomy z 0 with y | y | y
    · rw [Int.sign_eq_neg_one_of_neg y]; omega
    · rw [y]; decide
    · rw [Int.sign_eq_one_of_pos y]; omega
  rw [hasB_3]
  have rn := rot_nx (a :: b :: c :: r) (by simp)
  generalize nx ((a :: b :: c :: r) ++ (a :: b :: c :: r).take 1) = N at rn ⊢
  generalize rot (a :: b :: c :: r) = M at rn ⊢
  cases h : N.all fun e => decide (0 ≤ Pt.o e.1 e.2 p) with
  | true =>
    rw [List.all_eq_true] at h
    have : (M.any fun e => decide (Int.sign (Pt.o e.1 e.2 p) < 0)) = false := by
      rw [List.any_eq_false]
      intro e he
      have := of_decide_eq_true (h e ((rn e).mp he))
      rw [decide_eq_true_iff, sg]; omega
    rw [this]; rfl
  | false =>
    rw [List.all_eq_false] at h
    obtain ⟨e, he, z⟩ := h
    have : (M.any fun e => decide (Int.sign (Pt.o e.1 e.2 p) < 0)) = true := by
      rw [List.any_eq_true]
      refine ⟨e, (rn e).mpr he, ?_⟩
      rw [decide_eq_true_iff, sg]
      rw [decide_eq_true_iff] at z; omega
    rw [this]; rfl
theorem zip_fst {α β γ : Type} (f : α → γ) : ∀ (xs : List α) (ys : List β), xs.length = ys.length → (xs.zip ys).map (fun q => f q.1) = xs.map f
  | [], _, _ => rfl
  | x :: xs, [], h => by simp at h
  | x :: xs, y :: ys, h => by simp only [List.zip_cons_cons, List.map_cons]; rw [zip_fst f xs ys (by simpa using h)]
theorem zip_any {α β : Type} (t : β → Bool) : ∀ (xs : List α) (ys : List β), xs.length = ys.length → ((xs.zip ys).any fun q => t q.2) = ys.any t
  | [], [], _ => rfl
  | [], _ :: _, h => by simp at h
  | x :: xs, [], h => by simp at h
  | x :: xs, y :: ys, h => by simp only [List.zip_cons_cons, List.any_cons]; rw [zip_any t xs ys (by simpa using h)]
theorem zip_range {β : Type} {n k : Nat} {ys : List β} {e : β} (h : (k, e) ∈ (List.range n).zip ys) : ys[k]? = some e := by
  obtain ⟨i, hi⟩ := List.mem_iff_getElem?.mp h
  rw [List.getElem?_zip_eq_some] at hi
  obtain ⟨h1, h2⟩ := hi
  have : k = i := by
    have := List.getElem?_eq_some_iff.mp h1
    obtain ⟨_, e⟩ := this
    simp at e; exact e.symm
  rw [this]; exact h2
theorem bools_map {α : Type} (t : α → Bool) (xs : List α) : boolsD (xs.map fun x => PyData.bool (t x)) = some (xs.map t) := by
  induction xs with
  | nil => rfl
  | cons x xs ih => simp [boolsD, ih]
theorem any_map {α : Type} {t : α → Bool} {xs : List α} {Q : D → Prop} (h : Q (.bool (xs.any t))) : dAny [.list (xs.map fun x => PyData.bool (t x))] Q := by
  unfold dAny
  dsimp only
  rw [bools_map]
  dsimp only
  rw [List.any_map]; exact h
end PH
namespace PH
open PySem PySem.Spec L2
theorem cut_1m' (xs : List Pt) : cutD (xs.map pD) (some 1) none = (xs.drop 1).map pD := by rw [cut_1, List.map_drop]
theorem zip_nx (a : Pt) (r : List Pt) : zipD ((a :: r).map pD) (r.map pD ++ [pD a]) = (nx ((a :: r) ++ (a :: r).take 1)).map ppD := by
  have e : r.map pD ++ [pD a] = (r ++ [a]).map pD := by simp
  rw [e]
  unfold zipD nx
  rw [List.zipWith_map]
  show _ = (((a :: r) ++ [a]).zip (r ++ [a])).map ppD
  rw [List.zip, List.map_zipWith]
  have : ∀ (xs ys zs : List Pt), xs.length = ys.length → List.zipWith (fun x y => PyData.tuple [pD x, pD y]) xs ys = List.zipWith (fun x y => ppD (x, y)) (xs ++ zs) ys := fun xs => by
    induction xs with
    | nil => intro ys zs h; cases ys with
      | nil => cases zs <;> rfl
      | cons _ _ => simp at h
    | cons x xs ih => intro ys zs h; cases ys with
      | nil => simp at h
      | cons y ys => simp only [List.zipWith_cons_cons, List.cons_append]; rw [ih ys zs (by simpa using h)]
  exact this (a :: r) (r ++ [a]) [a] (by simp)
end PH

/-! Mixtures and middles stand in the plate. -/
namespace PH
open PySem PySem.Spec L2
def oA (a b : Pt) : Int := a.y * b.d - a.d * b.y
def oB (a b : Pt) : Int := a.d * b.x - a.x * b.d
def oC (a b : Pt) : Int := a.x * b.y - a.y * b.x
theorem o_lin (a b q : Pt) : oA a b * q.x + oB a b * q.y + oC a b * q.d = Pt.o a b q := by unfold oA oB oC Pt.o detP; grind
theorem o_linN (a b q : Pt) : (-oA a b) * q.x + (-oB a b) * q.y + (-oC a b) * q.d = -Pt.o a b q := by rw [← o_lin]; grind
def up (N : Int) (a q : Pt) : Int := N * Pt.sx a q + Pt.sy a q
theorem up_lin (N : Int) (a q : Pt) : (N * a.d) * q.x + a.d * q.y + (-(N * a.x + a.y)) * q.d = up N a q := by unfold up Pt.sx Pt.sy; grind
theorem dn_lin (N : Int) (b q : Pt) : (-(N * b.d)) * q.x + (-b.d) * q.y + (N * b.x + b.y) * q.d = up N q b := by unfold up Pt.sx Pt.sy; grind
theorem up_self (N : Int) (a : Pt) : up N a a = 0 := by unfold up Pt.sx Pt.sy; grind
theorem up_anti (N : Int) (a b : Pt) : up N b a = -up N a b := by unfold up Pt.sx Pt.sy; grind
theorem up_pos {N : Int} {a b : Pt} (h : Pt.lt a b = true) (hN : (Pt.sy a b).natAbs < N) : 0 < up N a b := Pt.shear hN ((Pt.lt_iff a b).mp h)
theorem sx_lin (a q : Pt) : a.d * q.x + 0 * q.y + (-a.x) * q.d = Pt.sx a q := by unfold Pt.sx; grind
theorem sx_linN (a q : Pt) : (-a.d) * q.x + 0 * q.y + a.x * q.d = -Pt.sx a q := by unfold Pt.sx; grind
theorem sy_lin (a q : Pt) : 0 * q.x + a.d * q.y + (-a.y) * q.d = Pt.sy a q := by unfold Pt.sy; grind
theorem sy_linN (a q : Pt) : 0 * q.x + (-a.d) * q.y + a.y * q.d = -Pt.sy a q := by unfold Pt.sy; grind
theorem s_self (a : Pt) : Pt.sx a a = 0 ∧ Pt.sy a a = 0 := by unfold Pt.sx Pt.sy; omega
/-- what is linear and not below 0 at the corners shows that the plate has it -/
theorem has_lin {H : List Pt} (P : PlateOk H) {p : Pt} (h : ∀ A B C : Int, (∀ c ∈ H, 0 ≤ A * c.x + B * c.y + C * c.d) → 0 ≤ A * p.x + B * p.y + C * p.d) : hasB H p = true := by
  rcases P with ⟨a, rfl⟩ | ⟨S, P, hS⟩
  · obtain ⟨s1, s2⟩ := s_self a
    have h1 := h _ _ _ (fun c hc => by simp at hc; subst hc; rw [sx_lin, s1]; exact Int.le_refl _)
    have h2 := h _ _ _ (fun c hc => by simp at hc; subst hc; rw [sx_linN, s1]; exact Int.le_refl _)
    have h3 := h _ _ _ (fun c hc => by simp at hc; subst hc; rw [sy_lin, s2]; exact Int.le_refl _)
    have h4 := h _ _ _ (fun c hc => by simp at hc; subst hc; rw [sy_linN, s2]; exact Int.le_refl _)
    rw [sx_lin] at h1; rw [sx_linN] at h2; rw [sy_lin] at h3; rw [sy_linN] at h4
    exact decide_eq_true (Pt.cop_of (by omega) (by omega))
  · match H, P, hS, h with
    | [], P, _, _ => exact absurd P.len (by simp)
    | [a], P, _, _ => exact absurd P.len (by simp)
    | [a, b], P, hS, h =>
      have ab := (P.two a b rfl).1
      have z2 := Pt.ori.z2 a b
      have z3 := Pt.ori.z3 a b
      have h1 := h (oA a b) (oB a b) (oC a b) (fun c hc => by
        rw [o_lin]; simp at hc; rcases hc with rfl | rfl <;> omega)
      have h2 := h (-oA a b) (-oB a b) (-oC a b) (fun c hc => by
        rw [o_linN]; simp at hc; rcases hc with rfl | rfl <;> omega)
      rw [o_lin] at h1; rw [o_linN] at h2
      obtain ⟨N, hN⟩ : ∃ N : Int, N = 1 + (Pt.sy a b).natAbs + (Pt.sy p a).natAbs + (Pt.sy b p).natAbs := ⟨_, rfl⟩
      have pos := up_pos (N := N) ab (by omega)
      have h3 := h _ _ _ (fun c hc => by
        rw [up_lin N a]; simp at hc
        rcases hc with rfl | rfl
        · rw [up_self]; exact Int.le_refl _
        · omega)
      have h4 := h _ _ _ (fun c hc => by
        rw [dn_lin N b]; simp at hc
        rcases hc with rfl | rfl
        · omega
        · rw [up_self]; exact Int.le_refl _)
      rw [up_lin] at h3; rw [dn_lin] at h4
      rw [hasB_2, decide_eq_true (by omega)]
      cases e1 : Pt.lt p a with
      | true =>
        have := up_pos (N := N) e1 (by omega)
        rw [up_anti] at this; omega
      | false =>
        cases e2 : Pt.lt b p with
        | true =>
          have := up_pos (N := N) e2 (by omega)
          rw [up_anti] at this; omega
        | false => rfl
    | a :: b :: c :: r, P, hS, h =>
      refine hasB_fin3 a b c r p fun e he => ?_
      have := h (oA e.1 e.2) (oB e.1 e.2) (oC e.1 e.2) (fun q hq => by
        rw [o_lin]
        exact P.left a rfl e.1 e.2 he q (hS q hq))
      rw [o_lin] at this; exact this
theorem has_mix {H : List Pt} (P : PlateOk H) {p : Pt} (h : MixOf H p) : hasB H p = true := has_lin P h
theorem mid_lin {A B C px py pd ax ay ad mx my md : Int} (hp : 0 < pd) (ha : 0 < ad) (hm : 0 < md) (c1 : mx * (2 * pd * ad) = (px * ad + ax * pd) * md) (c2 : my * (2 * pd * ad) = (py * ad + ay * pd) * md)
    (l1 : 0 ≤ A * px + B * py + C * pd) (l2 : 0 ≤ A * ax + B * ay + C * ad) : 0 ≤ A * mx + B * my + C * md := by
  have k : 0 < 2 * pd * ad := Int.mul_pos (Int.mul_pos (by decide) hp) ha
  refine Int.le_of_mul_le_mul_right (a := 2 * pd * ad) ?_ k
  rw [Int.zero_mul]
  have e : (A * mx + B * my + C * md) * (2 * pd * ad) = A * (mx * (2 * pd * ad)) + B * (my * (2 * pd * ad)) + C * md * (2 * pd * ad) := by grind
  rw [e, c1, c2]
  have e2 : A * ((px * ad + ax * pd) * md) + B * ((py * ad + ay * pd) * md) + C * md * (2 * pd * ad) = (A * px + B * py + C * pd) * (ad * md) + (A * ax + B * ay + C * ad) * (pd * md) := by grind
  rw [e2]
  have h1 := Int.mul_nonneg l1 (show 0 ≤ ad * md from Int.le_of_lt (Int.mul_pos ha hm))
  have h2 := Int.mul_nonneg l2 (show 0 ≤ pd * md from Int.le_of_lt (Int.mul_pos hp hm))
  omega
theorem has_mid {a : Pt} {r : List Pt} (P : PlateOk (a :: r)) {p m : Pt} (h : hasB (a :: r) p = true) (c1 : m.x * (2 * p.d * a.d) = (p.x * a.d + a.x * p.d) * m.d) (c2 : m.y * (2 * p.d * a.d) = (p.y * a.d + a.y * p.d) * m.d) : hasB (a :: r) m = true := by
  have ml : ∀ A B C : Int, 0 ≤ A * p.x + B * p.y + C * p.d → 0 ≤ A * a.x + B * a.y + C * a.d → 0 ≤ A * m.x + B * m.y + C * m.d := fun A B C l1 l2 => mid_lin p.pos a.pos m.pos c1 c2 l1 l2
  match r, P, h with
  | [], P, h =>
    have e : a = p := of_decide_eq_true h
    subst e
    exact has_lin P fun A B C hh => ml A B C (hh a (by simp)) (hh a (by simp))
  | [b], P, h =>
    have ab := P.two
    rw [hasB_2, Bool.and_eq_true, Bool.and_eq_true] at h
    obtain ⟨h0, h1, h2⟩ := h
    have z0 : Pt.o a b p = 0 := of_decide_eq_true h0
    have z3 := Pt.ori.z3 a b
    have g1 := ml (oA a b) (oB a b) (oC a b) (by rw [o_lin]; omega) (by rw [o_lin]; omega)
    have g2 := ml (-oA a b) (-oB a b) (-oC a b) (by rw [o_linN]; omega) (by rw [o_linN]; omega)
    rw [o_lin] at g1; rw [o_linN] at g2
    obtain ⟨N, hN⟩ : ∃ N : Int, N = 1 + (Pt.sy a b).natAbs + (Pt.sy a p).natAbs + (Pt.sy p b).natAbs + (Pt.sy m a).natAbs + (Pt.sy b m).natAbs := ⟨_, rfl⟩
    have pos := up_pos (N := N) ab (by omega)
    have pa : 0 ≤ up N a p := by
      rcases Pt.ori.tot p a with y | y | y
      · rw [y] at h1; cases h1
      · rw [y, up_self]; exact Int.le_refl _
      · exact Int.le_of_lt (up_pos y (by omega))
    have pb : 0 ≤ up N p b := by
      rcases Pt.ori.tot b p with y | y | y
      · rw [y] at h2; cases h2
      · rw [y, up_self]; exact Int.le_refl _
      · exact Int.le_of_lt (up_pos y (by omega))
    have g3 := ml _ _ _ (by rw [up_lin N a]; exact pa) (by rw [up_lin N a, up_self]; exact Int.le_refl _)
    have g4 := ml _ _ _ (by rw [dn_lin N b]; exact pb) (by rw [dn_lin N b]; omega)
    rw [up_lin] at g3; rw [dn_lin] at g4
    rw [hasB_2, decide_eq_true (by omega)]
    cases e1 : Pt.lt m a with
    | true =>
      have := up_pos (N := N) e1 (by omega)
      rw [up_anti] at this; omega
    | false =>
      cases e2 : Pt.lt b m with
      | true =>
        have := up_pos (N := N) e2 (by omega)
        rw [up_anti] at this; omega
      | false => rfl
  | b :: c :: r, P, h =>
    rw [hasB_3, List.all_eq_true] at h
    rcases P with ⟨x, hx⟩ | ⟨S, P, hS⟩
    · cases hx
    refine hasB_fin3 a b c r m fun e he => ?_
    have l1 := of_decide_eq_true (h e he)
    have l2 := P.left a rfl e.1 e.2 he a (hS a (by simp))
    have := ml (oA e.1 e.2) (oB e.1 e.2) (oC e.1 e.2) (by rw [o_lin]; exact l1) (by rw [o_lin]; exact l2)
    rw [o_lin] at this; exact this
end PH
namespace PH
open PySem PySem.Spec L2
theorem dFor_z {α : Type} {mi : DA} {g : DG} {mb : DS} {Dd : DEnds} {σd : DSt} (xs : List α) (enc : α → D) (W : List α → DSt → Prop) (hi : ∀ R : List D → Prop, R (xs.map enc) → mi σd R) (h0 : W [] σd)
    (ht : ∀ pre x post, xs = pre ++ x :: post → ∀ σ', W pre σ' → g (enc x) σ' fun σ2 => mb { Dd with nx := W (pre ++ [x]), ct := W (pre ++ [x]), bk := Dd.nx } σ2) (hr : ∀ σ', W xs σ' → Dd.nx σ') : dFor mi g mb Dd σd :=
  dFor_m (rest := fun D σ => D.nx σ) (Dd := Dd) xs enc W hi h0 ht hr
end PH

/-! Hulls are told strictly: no third corner on a side's line, no corner twice. -/
namespace PH
open PySem PySem.Spec L2
section
variable {α : Type} {R : α → α → Prop} {o : α → α → α → Int}
theorem sidesR_split : ∀ {st : List α} {u v : α}, (u, v) ∈ sidesR st → ∃ X Y, st = X ++ v :: u :: Y
  | [], _, _, h => by simp [sidesR] at h
  | [_], _, _, h => by simp [sidesR] at h
  | b :: a :: r, u, v, h => by
    simp only [sidesR, List.mem_cons, Prod.mk.injEq] at h
    rcases h with ⟨rfl, rfl⟩ | h
    · exact ⟨[], r, rfl⟩
    · obtain ⟨X, Y, e⟩ := sidesR_split h
      exact ⟨b :: X, Y, by rw [e]; rfl⟩
theorem sidesR_of : ∀ (X : List α) (v u : α) (Y : List α), (u, v) ∈ sidesR (X ++ v :: u :: Y)
  | [], v, u, Y => by simp [sidesR]
  | [x], v, u, Y => by simp [sidesR]
  | x :: y :: X, v, u, Y => by
    have := sidesR_of (y :: X) v u Y
    simp only [List.cons_append, sidesR, List.mem_cons] at this ⊢
    exact .inr this
/-- what stands on a side's line stands between its ends -/
theorem flat_in (O : Ori R o) {S : α → Prop} {st : List α} (C : Chn R o S st) (top : ∀ M, st.head? = some M → ∀ q, S q → q = M ∨ R q M) {u v q : α} (h : (u, v) ∈ sidesR st) (hq : S q) (z : o u v q = 0) : (q = u ∨ R u q) ∧ (q = v ∨ R q v) := by
  obtain ⟨X, Y, e⟩ := sidesR_split h
  have asym : ∀ {a b : α}, R a b → R b a → False := fun h1 h2 => O.ir _ (O.tr h1 h2)
  have des := C.des
  rw [e] at des
  have duv : R u v := by
    have := (List.pairwise_append.mp des).2.1
    exact (List.pairwise_cons.mp this).1 u (by simp)
  constructor
  · rcases O.tot u q with k | k | k
    · exact .inr k
    · exact .inl k.symm
    · exfalso
      cases Y with
      | nil =>
        obtain ⟨m, h1, h2⟩ := C.low q hq
        rw [e] at h1
        have h1 : u = m := by simpa using h1
        subst h1
        rcases h2 with rfl | h2
        · exact O.ir _ k
        · exact asym k h2
      | cons t Y =>
        have c1 : 0 < o t u v := C.conv v u t ⟨X, Y, by rw [e]; simp⟩
        have c2 : 0 ≤ o t u q := C.left t u (by rw [e]; have := sidesR_of (X ++ [v]) u t Y; simpa using this) q hq
        have dtu : R t u := by
          have := (List.pairwise_append.mp des).2.1
          exact (List.pairwise_cons.mp (List.pairwise_cons.mp this).2).1 t (by simp)
        rcases O.tot q t with g | g | g
        · obtain ⟨s1, s2, s3, s4, s5, s6, p1, p2, p3, p4, p5, p6, i1, i2, i3, i4⟩ := O.four g dtu duv
          have a1 := O.cyc q u v
          have a2 := O.cyc q t u
          rw [a2] at c2
          rw [a1] at z
          rw [z, Int.zero_mul] at i4
          have := Int.mul_pos c1 p2
          have := Int.mul_nonneg c2 (show 0 ≤ s6 by omega)
          omega
        · subst g
          have a1 := O.cyc q u v
          omega
        · obtain ⟨s1, s2, s3, s4, s5, s6, p1, p2, p3, p4, p5, p6, i1, i2, i3, i4⟩ := O.four g k duv
          have a1 := O.cyc q u v
          have a2 := O.sw t q u
          rw [a1] at z
          rw [z, Int.zero_mul] at i4
          have := Int.mul_pos c1 p4
          have := Int.mul_nonneg c2 (show 0 ≤ s6 by omega)
          have a3 : o t q u * s6 = -(o t u q * s6) := by rw [← Int.neg_mul, a2, Int.neg_neg]
          omega
  · rcases O.tot q v with k | k | k
    · exact .inr k
    · exact .inl k
    · exfalso
      rcases List.eq_nil_or_concat X with rfl | ⟨X', w, rfl⟩
      · have := top v (by rw [e]; rfl) q hq
        rcases this with rfl | this
        · exact O.ir _ k
        · exact asym k this
      · have c1 : 0 < o u v w := C.conv w v u ⟨X', Y, by rw [e]; simp⟩
        have c2 : 0 ≤ o v w q := C.left v w (by rw [e]; have := sidesR_of X' w v (u :: Y); simpa using this) q hq
        have dvw : R v w := (List.pairwise_append.mp des).2.2 w (by simp) v (by simp)
        rcases O.tot w q with g | g | g
        · obtain ⟨s1, s2, s3, s4, s5, s6, p1, p2, p3, p4, p5, p6, i1, i2, i3, i4⟩ := O.four duv dvw g
          rw [z, Int.zero_mul] at i3
          have := Int.mul_pos c1 p5
          have := Int.mul_nonneg c2 (show 0 ≤ s1 by omega)
          omega
        · subst g; omega
        · obtain ⟨s1, s2, s3, s4, s5, s6, p1, p2, p3, p4, p5, p6, i1, i2, i3, i4⟩ := O.four duv k g
          rw [z, Int.zero_mul] at i3
          have a2 := O.sw v q w
          have a3 : o v q w * s1 = -(o v w q * s1) := by rw [← Int.neg_mul, a2, Int.neg_neg]
          have := Int.mul_pos c1 p4
          have := Int.mul_nonneg c2 (show 0 ≤ s1 by omega)
          omega
/-- two on a line with r between them: what is not on the right of either is on the line -/
theorem line_in (O : Ori R o) {u v r s : α} (ur : R u r) (rv : R r v) (rs : R r s) (z : o u v r = 0) (h1 : 0 ≤ o s r u) (h2 : 0 ≤ o s r v) : o s r u = 0 := by
  have z' : o u r v = 0 := by have := O.sw u v r; omega
  rcases O.tot v s with g | g | g
  · obtain ⟨s1, s2, s3, s4, s5, s6, p1, p2, p3, p4, p5, p6, i1, i2, i3, i4⟩ := O.four ur rv g
    have e1 : o u r s = -o s r u := by have := O.cyc u r s; have := O.anti s r u; omega
    have e2 : o r v s = o s r v := O.cyc s r v
    rw [z', Int.zero_mul, e1, e2] at i3
    have := Int.mul_nonneg h2 (show 0 ≤ s1 by omega)
    rw [Int.neg_mul] at i3
    rcases Int.lt_or_eq_of_le h1 with k | k
    · have := Int.mul_pos k p4; omega
    · exact k.symm
  · subst g
    have := O.cyc v r u; have := O.cyc u v r; have := O.sw u v r; have := O.cyc r u v; omega
  · obtain ⟨s1, s2, s3, s4, s5, s6, p1, p2, p3, p4, p5, p6, i1, i2, i3, i4⟩ := O.four ur rs g
    have e1 : o u r s = -o s r u := by have := O.cyc u r s; have := O.anti s r u; omega
    have e2 : o r s v = -o s r v := O.anti s r v
    rw [z', Int.zero_mul, e1, e2, Int.neg_mul, Int.neg_mul] at i3
    have := Int.mul_nonneg h2 (show 0 ≤ s1 by omega)
    rcases Int.lt_or_eq_of_le h1 with k | k
    · have := Int.mul_pos k p5; omega
    · exact k.symm
theorem strict_in (O : Ori R o) {S : α → Prop} {st st' : List α} (C : Chn R o S st) (C' : Chn (fun a b => R b a) o S st') (top : ∀ M, st.head? = some M → ∀ q, S q → q = M ∨ R q M) (top' : ∀ M, st'.head? = some M → ∀ q, S q → q = M ∨ R M q)
    {u v r : α} (h : (u, v) ∈ sidesR st) (hr : r ∈ st ∨ r ∈ st') (z : o u v r = 0) : r = u ∨ r = v := by
  have asym : ∀ {a b : α}, R a b → R b a → False := fun h1 h2 => O.ir _ (O.tr h1 h2)
  have sr : S r := hr.elim (C.mem r) (C'.mem r)
  obtain ⟨f1, f2⟩ := flat_in O C top h sr z
  obtain ⟨X, Y, e⟩ := sidesR_split h
  rcases f1 with f1 | f1
  · exact .inl f1
  rcases f2 with f2 | f2
  · exact .inr f2
  exfalso
  rcases hr with hr | hr
  · have des := C.des
    rw [e] at des hr
    obtain ⟨d1, d2, d3⟩ := List.pairwise_append.mp des
    simp only [List.mem_append, List.mem_cons] at hr
    rcases hr with hr | rfl | rfl | hr
    · exact asym f2 (d3 r hr v (by simp))
    · exact O.ir _ f2
    · exact O.ir _ f1
    · exact asym f1 ((List.pairwise_cons.mp (List.pairwise_cons.mp d2).2).1 r hr)
  · have su : S u := C.mem u (by rw [e]; simp)
    have sv : S v := C.mem v (by rw [e]; simp)
    obtain ⟨A, B, e'⟩ := List.append_of_mem hr
    cases B with
    | nil =>
      obtain ⟨m, h1, h2⟩ := C'.low v sv
      rw [e'] at h1
      have h1 : r = m := by simpa using h1
      subst h1
      rcases h2 with rfl | h2
      · exact O.ir _ f2
      · exact asym f2 h2
    | cons s B =>
      have hs : (s, r) ∈ sidesR st' := by rw [e']; exact sidesR_of A r s B
      have des := C'.des
      rw [e'] at des
      have rs : R r s := (List.pairwise_cons.mp (List.pairwise_append.mp des).2.1).1 s (by simp)
      have z2 := line_in O f1 f2 rs z (C'.left s r hs u su) (C'.left s r hs v sv)
      obtain ⟨_, g⟩ := flat_in O.flip C' top' hs su z2
      rcases g with rfl | g
      · exact O.ir _ f1
      · exact asym f1 g
/-- corners of one list, strictly told -/
structure Strict (o : α → α → α → Int) (H : List α) : Prop where
  nd : H.Nodup
  two : ∀ u v, (u, v) ∈ nx (H ++ H.take 1) → 2 ≤ H.length → u ≠ v
  st : ∀ u v, (u, v) ∈ nx (H ++ H.take 1) → 2 ≤ H.length → ∀ r ∈ H, o u v r = 0 → r = u ∨ r = v
theorem hull_strict (O : Ori R o) {ps : List α} (hl : 2 ≤ ps.length) (hp : ps.Pairwise R) : Strict o (hullL o ps) := by
  have ne : ps ≠ [] := fun z => by rw [z] at hl; simp at hl
  have ne' : ps.reverse ≠ [] := fun z => ne (List.reverse_eq_nil_iff.mp z)
  have asym : ∀ {a b : α}, R a b → R b a → False := fun h1 h2 => O.ir _ (O.tr h1 h2)
  obtain ⟨C, h1, h2⟩ := chain_ok O ps ne hp
  obtain ⟨C', h1', h2'⟩ := chain_ok O.flip ps.reverse ne' (List.pairwise_reverse.mpr hp)
  obtain ⟨m, hm⟩ : ∃ m, ps.head? = some m := by cases ps with | nil => exact absurd rfl ne | cons a b => exact ⟨a, rfl⟩
  obtain ⟨M, hM⟩ : ∃ m, ps.getLast? = some m := ⟨_, List.getLast?_eq_getLast ne⟩
  rw [List.getLast?_reverse, hm] at h1'
  rw [List.head?_reverse, hM] at h2'
  rw [hM] at h1; rw [hm] at h2
  have C2 : Chn (fun a b => R b a) o (· ∈ ps) (chainR o ps.reverse) := ⟨fun x hx => List.mem_reverse.mp (C'.mem x hx), C'.des, fun q hq => C'.low q (List.mem_reverse.mpr hq), fun u v h q hq => C'.left u v h q (List.mem_reverse.mpr hq), C'.conv⟩
  have mn : ∀ q ∈ ps, q = m ∨ R m q := fun q hq => by
    obtain ⟨m', e, h⟩ := C.low q hq
    rw [h2] at e; cases e; exact h
  have mx : ∀ q ∈ ps, q = M ∨ R q M := fun q hq => by
    obtain ⟨m', e, h⟩ := C2.low q hq
    rw [h2'] at e; cases e; exact h
  have top : ∀ N, (chainR o ps).head? = some N → ∀ q, q ∈ ps → q = N ∨ R q N := fun N e q hq => by rw [h1] at e; cases e; exact mx q hq
  have top' : ∀ N, (chainR o ps.reverse).head? = some N → ∀ q, q ∈ ps → q = N ∨ R N q := fun N e q hq => by rw [h1'] at e; cases e; exact mn q hq
  have Ll : (chainL o ps).getLast? = some M := by unfold chainL; rw [List.getLast?_reverse]; exact h1
  have Ul : (chainL o ps.reverse).getLast? = some m := by unfold chainL; rw [List.getLast?_reverse]; exact h1'
  have Lh : (chainL o ps).head? = some m := by unfold chainL; rw [List.head?_reverse]; exact h2
  have Uh : (chainL o ps.reverse).head? = some M := by unfold chainL; rw [List.head?_reverse]; exact h2'
  obtain ⟨L, hL⟩ := List.getLast?_eq_some_iff.mp Ll
  obtain ⟨U, hU⟩ := List.getLast?_eq_some_iff.mp Ul
  have eH : hullL o ps = L ++ U := by unfold hullL; rw [hL, hU, List.dropLast_concat, List.dropLast_concat]
  have eR : chainR o ps = M :: L.reverse := by
    have : (chainL o ps).reverse = chainR o ps := by unfold chainL; rw [List.reverse_reverse]
    rw [← this, hL]; simp
  have eR' : chainR o ps.reverse = m :: U.reverse := by
    have : (chainL o ps.reverse).reverse = chainR o ps.reverse := by unfold chainL; rw [List.reverse_reverse]
    rw [← this, hU]; simp
  have mM : m ≠ M := by
    cases ps with
    | nil => exact absurd rfl ne
    | cons a b =>
      simp at hm; subst hm
      cases b with
      | nil => simp at hl
      | cons b c =>
        rw [List.getLast?_cons_cons] at hM
        have := (List.pairwise_cons.mp hp).1 M (List.mem_of_getLast? hM)
        exact fun z => O.ir _ (z ▸ this)
  obtain ⟨L', rfl⟩ : ∃ L', L = m :: L' := by
    cases L with
    | nil => rw [hL] at Lh; simp at Lh; exact absurd Lh.symm mM
    | cons a b => rw [hL] at Lh; simp at Lh; exact ⟨b, by rw [Lh]⟩
  obtain ⟨U', rfl⟩ : ∃ U', U = M :: U' := by
    cases U with
    | nil => rw [hU] at Uh; simp at Uh; exact absurd Uh mM
    | cons a b => rw [hU] at Uh; simp at Uh; exact ⟨b, by rw [Uh]⟩
  have inH : ∀ r ∈ hullL o ps, r ∈ chainR o ps ∨ r ∈ chainR o ps.reverse := fun r hr => by
    rw [eH] at hr
    rw [eR, eR']
    rcases List.mem_append.mp hr with y | y
    · exact .inl (List.mem_cons_of_mem _ (List.mem_reverse.mpr y))
    · exact .inr (List.mem_cons_of_mem _ (List.mem_reverse.mpr y))
  have sides : ∀ u v, (u, v) ∈ nx (hullL o ps ++ (hullL o ps).take 1) → (u, v) ∈ sidesR (chainR o ps) ∨ (u, v) ∈ sidesR (chainR o ps.reverse) := fun u v h => by
    rw [eH] at h
    have e : (m :: L') ++ (M :: U') ++ ((m :: L') ++ (M :: U')).take 1 = (m :: L') ++ M :: (U' ++ [m]) := by simp
    rw [e, nx_app, List.mem_append] at h
    rcases h with h | h
    · left
      refine (nx_rev (o := o) _ u v).mp ?_
      show (u, v) ∈ nx (chainL o ps)
      rw [hL]; exact h
    · right
      refine (nx_rev (o := o) _ u v).mp ?_
      show (u, v) ∈ nx (chainL o ps.reverse)
      rw [hU]; exact h
  have nd1 : (chainR o ps).Nodup := C.des.imp fun {a b} h => fun z => O.ir _ (z ▸ h)
  have nd2 : (chainR o ps.reverse).Nodup := C2.des.imp fun {a b} h => fun z => O.ir _ (z ▸ h)
  refine ⟨?_, fun u v h _ => ?_, fun u v h _ r hr z => ?_⟩
  · rw [eH, List.nodup_append]
    refine ⟨?_, ?_, fun x hx y hy e => ?_⟩
    · rw [eR] at nd1
      have := (List.nodup_cons.mp nd1).2
      exact (List.reverse_perm _).nodup_iff.mp this
    · rw [eR'] at nd2
      have := (List.nodup_cons.mp nd2).2
      exact (List.reverse_perm _).nodup_iff.mp this
    · subst e
      have x1 : x ∈ chainR o ps := by rw [eR]; exact List.mem_cons_of_mem _ (List.mem_reverse.mpr hx)
      have x2 : x ∈ chainR o ps.reverse := by rw [eR']; exact List.mem_cons_of_mem _ (List.mem_reverse.mpr hy)
      have xM : x ≠ M := fun z => by
        rw [eR] at nd1
        exact (List.nodup_cons.mp nd1).1 (z ▸ List.mem_reverse.mpr hx)
      have xm : x ≠ m := fun z => by
        rw [eR'] at nd2
        exact (List.nodup_cons.mp nd2).1 (z ▸ List.mem_reverse.mpr hy)
      obtain ⟨X, Y, e1⟩ := List.append_of_mem x1
      obtain ⟨A, B, e2⟩ := List.append_of_mem x2
      cases Y with
      | nil => rw [e1] at h2; exact xm (by simpa using h2)
      | cons u Y =>
        cases B with
        | nil => rw [e2] at h2'; exact xM (by simpa using h2')
        | cons s B =>
          have s1 : (u, x) ∈ sidesR (chainR o ps) := by rw [e1]; exact sidesR_of X x u Y
          have s2 : (s, x) ∈ sidesR (chainR o ps.reverse) := by rw [e2]; exact sidesR_of A x s B
          have mu := C.mem u (by rw [e1]; simp)
          have ms := C2.mem s (by rw [e2]; simp)
          have g1 := C.left u x s1 s ms
          have g2 := C2.left s x s2 u mu
          have g3 : o s x u = -o u x s := by have := O.cyc s x u; have := O.anti u x s; omega
          have g4 : o u x s = 0 := by omega
          obtain ⟨_, f⟩ := flat_in O C top s1 ms g4
          have des := C2.des
          rw [e2] at des
          have xs : R x s := (List.pairwise_cons.mp (List.pairwise_append.mp des).2.1).1 s (by simp)
          rcases f with f | f
          · exact O.ir _ (f ▸ xs)
          · exact asym xs f
  · rcases sides u v h with h | h
    · have := (sidesR_mem C.des h).2.2.1
      exact fun z => O.ir _ (z ▸ this)
    · have := (sidesR_mem (R := fun a b => R b a) C2.des h).2.2.1
      exact fun z => O.ir _ (z ▸ this)
  · rcases sides u v h with h | h
    · exact strict_in O C C2 top top' h (inH r hr) z
    · exact strict_in O.flip C2 C top' top h ((inH r hr).elim .inr .inl) z
end
theorem count_two {α : Type} [DecidableEq α] {u v : α} (h : u ≠ v) : ∀ {H : List α}, H.Nodup → (H.filter fun r => decide (r = u ∨ r = v)).length = (if u ∈ H then 1 else 0) + (if v ∈ H then 1 else 0)
  | [], _ => by simp
  | x :: H, nd => by
    have ih := count_two (H := H) h (List.nodup_cons.mp nd).2
    have nx := (List.nodup_cons.mp nd).1
    rw [List.filter_cons]
    by_cases e1 : x = u
    · subst e1
      have e2 : ¬ v = x := fun z => h z.symm
      simp only [true_or, decide_true, if_true, List.length_cons, ih, List.mem_cons, e2, false_or, nx, if_false]
      omega
    · by_cases e2 : x = v
      · subst e2
        have e3 : ¬ u = x := h
        simp only [or_true, decide_true, if_true, List.length_cons, ih, List.mem_cons, e3, false_or, true_or, nx, if_false]
      · have e3 : ¬ u = x := fun z => e1 z.symm
        have e4 : ¬ v = x := fun z => e2 z.symm
        simp only [e1, e2, e3, e4, or_self, decide_false, Bool.false_eq_true, if_false, ih, List.mem_cons, false_or]

end PH

/-! Sides of plates, their normals, heights along directions. -/
namespace PH
open PySem PySem.Spec L2
/-- a plate, strictly told -/
def PlateS (H : List Pt) : Prop := PlateOk H ∧ Strict Pt.o H
theorem plate_okS {ps : List Pt} (h : ps ≠ []) : PlateS (hullP ps) := by
  refine ⟨(plate_ok h).1, ?_⟩
  unfold hullP
  split
  · rename_i hl
    match e : ordT Pt.lt ps, hl with
    | [], _ => exact ⟨by simp, fun u v _ h => by simp at h, fun u v _ h => by simp at h⟩
    | [a], _ => exact ⟨by simp, fun u v _ h => by simp at h, fun u v _ h => by simp at h⟩
    | a :: b :: r, hl => simp at hl; omega
  · rename_i hl
    exact hull_strict Pt.ori (by omega) (pord_srt ps)
def spPlateS : DSp := fun ds Q => ∃ ps : List Pt, ds = [SRC, .list (ps.map pD)] ∧ ps ≠ [] ∧ ps.length ≤ 1000 ∧ (∀ p ∈ ps, PBd 4 2 p) ∧ ∀ H : List Pt, PlateS H → (∀ p ∈ H, PBd 4 2 p) → H.length ≤ 8 → Q (.tuple (H.map pD))
def spMoreS : DSp := fun ds Q => ∃ (H ps : List Pt), ds = [SRC, .tuple (H.map pD), .list (ps.map pD)] ∧ PlateS H ∧ (∀ p ∈ H, PBd 4 2 p) ∧ H.length ≤ 8 ∧ ∀ H' : List Pt, PlateS H' → (∀ p ∈ H', PBd 7 4 p) → H'.length ≤ 128 → Q (.tuple (H'.map pD))
theorem PlateS.ne {H : List Pt} (h : PlateS H) : H ≠ [] := h.1.ne
/-! ### directions -/
structure Vd where
  a : Int
  b : Int
  cop : Int.gcd a b = 1
deriving DecidableEq
theorem Vd.ext' {u v : Vd} (h1 : u.a = v.a) (h2 : u.b = v.b) : u = v := by
  cases u; cases v; simp at h1 h2; subst h1; subst h2; rfl
theorem Vd.ne (u : Vd) : ¬ (u.a = 0 ∧ u.b = 0) := fun ⟨h1, h2⟩ => by have := u.cop; rw [h1, h2] at this; simp at this
abbrev vD (u : Vd) : D := fr u.a u.b
def VB (k : Nat) (u : Vd) : Prop := Bd k u.a ∧ Bd k u.b
theorem VB.mono {j k : Nat} {u : Vd} (h : VB j u) (l : j ≤ k) : VB k u := ⟨h.1.mono l, h.2.mono l⟩
theorem vd_of {a b : Int} {k : Nat} (h : ¬ (a = 0 ∧ b = 0)) (ha : Bd k a) (hb : Bd k b) : ∃ u : Vd, dirv a b = vD u ∧ VB k u ∧ ∃ g : Int, 0 < g ∧ a = u.a * g ∧ b = u.b * g := by
  obtain ⟨u, v, e, g, h1, h2⟩ := dirv_spec h
  have e' := e
  unfold dirv at e'
  simp only [PyData.tuple.injEq, List.cons.injEq, PyData.int.injEq, and_true] at e'
  refine ⟨⟨u, v, g⟩, e, ⟨e'.1 ▸ bd_fdiv, e'.2 ▸ bd_fdiv⟩, _, ?_, h1, h2⟩
  have := g2_pos h; omega
theorem vD_inj {u v : Vd} (h : vD u = vD v) : u = v := by
  simp only [PyData.tuple.injEq, List.cons.injEq, PyData.int.injEq, and_true] at h
  exact Vd.ext' h.1 h.2
/-- one direction, told twice -/
theorem vd_uniq {u v : Vd} {g h : Int} (hg : 0 < g) (hh : 0 < h) (h1 : u.a * g = v.a * h) (h2 : u.b * g = v.b * h) : u = v := by
  have e1 := Int.gcd_mul_right u.a g u.b
  have e2 := Int.gcd_mul_right v.a h v.b
  rw [u.cop, Nat.one_mul] at e1
  rw [v.cop, Nat.one_mul, ← h1, ← h2] at e2
  have e : g = h := by
    have : g.natAbs = h.natAbs := e1.symm.trans e2
    omega
  subst e
  exact Vd.ext' (Int.eq_of_mul_eq_mul_right (by omega) h1) (Int.eq_of_mul_eq_mul_right (by omega) h2)
/-! ### heights -/
theorem mkF_pos {p q : Int} (h : 0 < q) : 0 < q.fdiv (gs p q) ∧ Int.gcd (p.fdiv (gs p q)) (q.fdiv (gs p q)) = 1 ∧ p.fdiv (gs p q) * q = p * q.fdiv (gs p q) := by
  obtain ⟨u, v, e, h1, h2, h3, h4⟩ := frac_spec (p := p) (show q ≠ 0 by omega)
  obtain ⟨c, _⟩ := frac_cross (show q ≠ 0 by omega) e
  unfold frac at e
  simp only [PyData.tuple.injEq, List.cons.injEq, PyData.int.injEq, and_true] at e
  rw [e.1, e.2]
  exact ⟨h1, h2, c.symm⟩
def mkF (p q : Int) (h : 0 < q) : Fq := ⟨p.fdiv (gs p q), q.fdiv (gs p q), (mkF_pos h).1, (mkF_pos h).2.1⟩
theorem mkF_D (p q : Int) (h : 0 < q) : frac p q = hD (mkF p q h) := rfl
theorem mkF_cross (p q : Int) (h : 0 < q) : (mkF p q h).p * q = p * (mkF p q h).q := (mkF_pos h).2.2
theorem mkF_lt {p q r s : Int} (h : 0 < q) (h' : 0 < s) : Fq.lt (mkF p q h) (mkF r s h') = decide (p * s < r * q) := by
  have c1 := mkF_cross p q h
  have c2 := mkF_cross r s h'
  have p1 := (mkF p q h).pos
  have p2 := (mkF r s h').pos
  generalize mkF p q h = x at *
  generalize mkF r s h' = y at *
  unfold Fq.lt
  refine decide_eq_decide.mpr ?_
  have e1 : x.p * y.q * (q * s) = p * s * (x.q * y.q) := by
    have : x.p * y.q * (q * s) = (x.p * q) * (y.q * s) := by grind
    rw [this, c1]; grind
  have e2 : y.p * x.q * (q * s) = r * q * (x.q * y.q) := by
    have : y.p * x.q * (q * s) = (y.p * s) * (x.q * q) := by grind
    rw [this, c2]; grind
  have qs := Int.mul_pos h h'
  have xy := Int.mul_pos p1 p2
  constructor
  · intro z
    have := Int.mul_lt_mul_of_pos_right z qs
    rw [e1, e2] at this
    exact Int.lt_of_mul_lt_mul_right this (by omega)
  · intro z
    have := Int.mul_lt_mul_of_pos_right z xy
    rw [← e1, ← e2] at this
    exact Int.lt_of_mul_lt_mul_right this (by omega)
theorem mkF_eq {p q r s : Int} (h : 0 < q) (h' : 0 < s) : mkF p q h = mkF r s h' ↔ p * s = r * q := by
  constructor
  · intro e
    have l1 := mkF_lt (p := p) (r := r) h h'
    have l2 := mkF_lt (p := r) (r := p) h' h
    rw [e, Fq.irr] at l1
    rw [← e, Fq.irr] at l2
    have := of_decide_eq_false l1.symm
    have := of_decide_eq_false l2.symm
    omega
  · intro e
    rcases tri (mkF p q h) (mkF r s h') with z | z | z
    · rw [mkF_lt] at z; have := of_decide_eq_true z; omega
    · exact z
    · rw [mkF_lt] at z; have := of_decide_eq_true z; omega
/-- the height of a place along a direction, a fraction -/
def hq (u : Vd) (p : Pt) : Fq := mkF (u.a * p.x + u.b * p.y) p.d p.pos
theorem hq_lt (u : Vd) (p q : Pt) : Fq.lt (hq u p) (hq u q) = decide ((u.a * p.x + u.b * p.y) * q.d < (u.a * q.x + u.b * q.y) * p.d) := mkF_lt _ _
theorem hq_eq (u : Vd) (p q : Pt) : hq u p = hq u q ↔ (u.a * p.x + u.b * p.y) * q.d = (u.a * q.x + u.b * q.y) * p.d := mkF_eq _ _
/-- the direction across a side, to its right -/
def IsNrm (n : Vd) (u v : Pt) : Prop := ∃ g : Int, 0 < g ∧ Pt.sy u v = n.a * g ∧ -Pt.sx u v = n.b * g
theorem nrm_id {n : Vd} {u v : Pt} {g : Int} (h1 : Pt.sy u v = n.a * g) (h2 : -Pt.sx u v = n.b * g) (r : Pt) : ((n.a * u.x + n.b * u.y) * r.d - (n.a * r.x + n.b * r.y) * u.d) * g = u.d * Pt.o u v r := by
  have e : ((n.a * u.x + n.b * u.y) * r.d - (n.a * r.x + n.b * r.y) * u.d) * g = (n.a * g) * (u.x * r.d - r.x * u.d) + (n.b * g) * (u.y * r.d - r.y * u.d) := by grind
  rw [e, ← h1, ← h2, ← turn_id]
  unfold Pt.sx Pt.sy; grind
theorem nrm_h {n : Vd} {u v : Pt} (h : IsNrm n u v) (r : Pt) : (Fq.lt (hq n u) (hq n r) = true ↔ Pt.o u v r < 0) ∧ (hq n r = hq n u ↔ Pt.o u v r = 0) := by
  obtain ⟨g, g0, h1, h2⟩ := h
  have id := nrm_id h1 h2 r
  have ud := u.pos
  rw [hq_lt, hq_eq]
  generalize (n.a * u.x + n.b * u.y) * r.d = A at *
  generalize (n.a * r.x + n.b * r.y) * u.d = B at *
  refine ⟨?_, ?_⟩
  · rw [decide_eq_true_iff]
    constructor
    · intro z
      have : (A - B) * g < 0 := Int.mul_neg_of_neg_of_pos (by omega) g0
      rw [id] at this
      exact Int.lt_of_mul_lt_mul_left (a := u.d) (by omega) (by omega)
    · intro z
      have : u.d * Pt.o u v r < 0 := Int.mul_neg_of_pos_of_neg ud z
      rw [← id] at this
      have := Int.lt_of_mul_lt_mul_right (a := g) (b := A - B) (c := 0) (by omega) (by omega)
      omega
  · constructor
    · intro z
      rw [show A - B = 0 by omega, Int.zero_mul] at id
      rcases Int.mul_eq_zero.mp id.symm with y | y
      · omega
      · exact y
    · intro z
      rw [z, Int.mul_zero] at id
      rcases Int.mul_eq_zero.mp id with y | y <;> omega
theorem nrm_v {n : Vd} {u v : Pt} (h : IsNrm n u v) : hq n v = hq n u := (nrm_h h v).2.mpr (Pt.ori.z2 u v)
/-- the greatest height -/
def topq (u : Vd) : List Pt → Fq
  | [] => ⟨0, 1, by decide, by decide⟩
  | a :: r => r.foldl (fun f p => if Fq.lt f (hq u p) = true then hq u p else f) (hq u a)
theorem topq_max {u : Vd} {H : List Pt} {p : Pt} (hp : p ∈ H) (hm : ∀ r ∈ H, Fq.lt (hq u p) (hq u r) = false) : topq u H = hq u p := by
  have key : ∀ (r : List Pt) (f : Fq), let t := r.foldl (fun f p => if Fq.lt f (hq u p) = true then hq u p else f) f; (t = f ∨ ∃ q ∈ r, t = hq u q) ∧ Fq.lt t f = false ∧ ∀ q ∈ r, Fq.lt t (hq u q) = false := fun r => by
    induction r with
    | nil => intro f; exact ⟨.inl rfl, Fq.irr _, fun _ h => by simp at h⟩
    | cons a r ih =>
      intro f
      obtain ⟨i1, i2, i3⟩ := ih (if Fq.lt f (hq u a) = true then hq u a else f)
      simp only [List.foldl_cons]
      generalize List.foldl (fun f p => if Fq.lt f (hq u p) = true then hq u p else f) (if Fq.lt f (hq u a) = true then hq u a else f) r = t at *
      have le2 : ∀ {x y z : Fq}, Fq.lt x y = false → Fq.lt y z = false → Fq.lt x z = false := fun {x y z} h1 h2 => by
        cases e : Fq.lt x z with
        | false => rfl
        | true =>
          have := lt_of_lt_le (x := x) (y := z) (z := y) e (by unfold le; rw [h2]; rfl)
          rw [h1] at this; cases this
      by_cases c : Fq.lt f (hq u a) = true
      · rw [if_pos c] at i1 i2
        refine ⟨.inr ?_, le2 i2 (asym c), fun q hq' => ?_⟩
        · rcases i1 with e | ⟨q, hq', e⟩
          · exact ⟨a, by simp, e⟩
          · exact ⟨q, by simp [hq'], e⟩
        · rcases List.mem_cons.mp hq' with rfl | h
          · exact i2
          · exact i3 q h
      · rw [if_neg c] at i1 i2
        refine ⟨?_, i2, fun q hq' => ?_⟩
        · rcases i1 with e | ⟨q, hq', e⟩
          · exact .inl e
          · exact .inr ⟨q, by simp [hq'], e⟩
        · rcases List.mem_cons.mp hq' with rfl | h
          · exact le2 i2 (by simpa using c)
          · exact i3 q h
  match H, hp, hm with
  | a :: r, hp, hm =>
    obtain ⟨i1, i2, i3⟩ := key r (hq u a)
    show List.foldl _ _ _ = _
    generalize List.foldl (fun f p => if Fq.lt f (hq u p) = true then hq u p else f) (hq u a) r = t at *
    have h1 : Fq.lt t (hq u p) = false := by
      rcases List.mem_cons.mp hp with rfl | h
      · exact i2
      · exact i3 p h
    have h2 : Fq.lt (hq u p) t = false := by
      rcases i1 with e | ⟨q, hq', e⟩
      · rw [e]; exact hm a (by simp)
      · rw [e]; exact hm q (by simp [hq'])
    rcases tri t (hq u p) with z | z | z
    · rw [h1] at z; cases z
    · exact z
    · rw [h2] at z; cases z
end PH

/-! Sides as data; what the defs of sides promise. -/
namespace PH
open PySem PySem.Spec L2
/-- the direction across a side, as a datum -/
def nrmD (u v : Pt) : D := dirv (Pt.sy u v) (0 - Pt.sx u v)
abbrev sdD (e : Pt × Pt) : D := .tuple [nrmD e.1 e.2, pD e.1, pD e.2]
theorem s_ne {u v : Pt} (h : u ≠ v) : ¬ (Pt.sx u v = 0 ∧ Pt.sy u v = 0) := fun z => h (Pt.cop_of z.1 z.2)
theorem s_bd {u v : Pt} {k : Nat} (hu : PB k u) (hv : PB k v) : Bd (2 * k + 1) (Pt.sx u v) ∧ Bd (2 * k + 1) (Pt.sy u v) :=
  ⟨(bd_sub2 (@bd_mul _ _ _ _ hv.1 hu.2.2) (@bd_mul _ _ _ _ hu.1 hv.2.2)).mono (by omega), (bd_sub2 (@bd_mul _ _ _ _ hv.2.1 hu.2.2) (@bd_mul _ _ _ _ hu.2.1 hv.2.2)).mono (by omega)⟩
theorem bd_z {k : Nat} {x : Int} (h : Bd k x) : Bd k (0 - x) := ⟨by have := h.h; omega⟩
theorem nrm_of {u v : Pt} {k : Nat} (h : u ≠ v) (hu : PB k u) (hv : PB k v) : ∃ n : Vd, nrmD u v = vD n ∧ VB (2 * k + 1) n ∧ IsNrm n u v := by
  obtain ⟨b1, b2⟩ := s_bd hu hv
  obtain ⟨n, e, hb, g, g0, h1, h2⟩ := vd_of (a := Pt.sy u v) (b := 0 - Pt.sx u v) (k := 2 * k + 1) (fun z => s_ne h ⟨by omega, z.1⟩) b2 (bd_z b1)
  exact ⟨n, e, hb, g, g0, h1, by omega⟩
/-- towards, turned by a quarter and back -/
theorem nrm_code {u v : Pt} (h : u ≠ v) : ∃ w : Vd, dirv (Pt.sx u v) (Pt.sy u v) = vD w ∧ nrmD u v = fr (- -w.b) (-w.a) := by
  obtain ⟨a, b, e, g, h1, h2⟩ := dirv_spec (s_ne h)
  refine ⟨⟨a, b, g⟩, e, ?_⟩
  obtain ⟨c, d, e', g', h1', h2'⟩ := dirv_spec (a := Pt.sy u v) (b := 0 - Pt.sx u v) (fun z => s_ne h ⟨by omega, z.1⟩)
  have p1 := g2_pos (s_ne h)
  have p2 := g2_pos (a := Pt.sy u v) (b := 0 - Pt.sx u v) (fun z => s_ne h ⟨by omega, z.1⟩)
  have cop : Int.gcd b (-a) = 1 := by rw [Int.gcd_neg, Int.gcd_comm]; exact g
  have := vd_uniq (u := ⟨c, d, g'⟩) (v := ⟨b, -a, cop⟩) (g := (Int.gcd (Pt.sy u v) (0 - Pt.sx u v) : Int)) (h := (Int.gcd (Pt.sx u v) (Pt.sy u v) : Int)) (by omega) (by omega) (by dsimp only; omega) (by dsimp only; rw [← h2', Int.neg_mul]; omega)
  unfold nrmD
  rw [e']
  simp only [Vd.mk.injEq] at this
  rw [this.1, this.2]
  simp
/-- the sides of a plate -/
def sidesL (H : List Pt) : List (Pt × Pt) := if H.length = 1 then [] else nx (H ++ H.take 1)
theorem nx_len {α : Type} (H : List α) (h : H ≠ []) : (nx (H ++ H.take 1)).length = H.length := by
  unfold nx
  rw [List.length_zip, List.length_drop, List.length_append, List.length_take]
  have := List.length_pos_iff.mpr h
  omega
theorem sidesL_mem {H : List Pt} (h : PlateS H) {u v : Pt} (e : (u, v) ∈ sidesL H) : u ∈ H ∧ v ∈ H ∧ u ≠ v ∧ (u, v) ∈ nx (H ++ H.take 1) ∧ 2 ≤ H.length := by
  unfold sidesL at e
  split at e
  · simp at e
  · rename_i n1
    have ne := List.length_pos_iff.mpr h.ne
    obtain ⟨m1, m2⟩ := nx_mem e
    exact ⟨m1, m2, h.2.two u v e (by omega), e, by omega⟩
theorem sidesL_len {H : List Pt} (h : H ≠ []) : (sidesL H).length ≤ H.length := by
  unfold sidesL
  split
  · simp
  · rw [nx_len H h]; exact Nat.le_refl _
/-- all corners on the left of a side -/
theorem sides_left {H : List Pt} (h : PlateS H) {u v : Pt} (e : (u, v) ∈ sidesL H) {r : Pt} (hr : r ∈ H) : 0 ≤ Pt.o u v r := by
  obtain ⟨m1, m2, ne, e2, l2⟩ := sidesL_mem h e
  rcases h.1 with ⟨a, rfl⟩ | ⟨S, hS, hm⟩
  · simp at l2
  · have h0 : ∃ m, H.head? = some m ∧ H.take 1 = [m] := by
      cases H with
      | nil => simp at m1
      | cons a r => exact ⟨a, rfl, rfl⟩
    obtain ⟨m, hm1, hm2⟩ := h0
    rw [hm2] at e2
    exact hS.left m hm1 u v e2 r (hm r hr)
theorem side_top {H : List Pt} (h : PlateS H) {u v : Pt} (e : (u, v) ∈ sidesL H) {n : Vd} (hn : IsNrm n u v) : topq n H = hq n u := by
  obtain ⟨m1, _⟩ := sidesL_mem h e
  refine topq_max m1 fun r hr => ?_
  cases z : Fq.lt (hq n u) (hq n r) with
  | false => rfl
  | true =>
    have := (nrm_h hn r).1.mp z
    have := sides_left h e hr
    omega
theorem side_two {H : List Pt} (h : PlateS H) {u v : Pt} (e : (u, v) ∈ sidesL H) {n : Vd} (hn : IsNrm n u v) : (H.filter fun r => decide (hq n r = hq n u)).length = 2 := by
  obtain ⟨m1, m2, ne, e2, l2⟩ := sidesL_mem h e
  have eq : (H.filter fun r => decide (hq n r = hq n u)) = H.filter fun r => decide (r = u ∨ r = v) := by
    refine List.filter_congr fun r hr => ?_
    refine decide_eq_decide.mpr ?_
    rw [(nrm_h hn r).2]
    constructor
    · exact h.2.st u v e2 l2 r hr
    · rintro (rfl | rfl)
      · exact Pt.ori.z3 _ _
      · exact Pt.ori.z2 _ _
  rw [eq, count_two ne h.2.nd, if_pos m1, if_pos m2]
/-! data -/
theorem lf_sd : ∀ xs : List (Pt × Pt), listFrees (xs.map sdD) = true
  | [] => by simp [listFrees]
  | x :: xs => by
    have := lf_sd xs
    simp only [List.map_cons, listFrees, listFree, nrmD, dirv, Bool.true_and, Bool.and_true]; exact this
theorem lf_pts : ∀ xs : List Pt, listFrees (xs.map pD) = true
  | [] => by simp [listFrees]
  | x :: xs => by
    have := lf_pts xs
    simp only [List.map_cons, listFrees, listFree, Bool.true_and, Bool.and_true]; exact this
theorem lf_plate (xs : List Pt) : listFrees [.tuple (xs.map pD)] = true := by
  simp only [listFrees, listFree, Bool.and_true]; exact lf_pts xs
theorem ok_sd {k : Nat} (hk : k ≤ 400) (e : Pt × Pt) (h : PB k e.1 ∧ PB k e.2) : tame (sdD e) ∧ (sdD e).bulk ≤ 100 ∧ (sdD e).depth ≤ 5 ∧ (sdD e).hasDict = false := by
  obtain ⟨h1, h2⟩ := h
  obtain ⟨b1, b2⟩ := s_bd h1 h2
  have n1 : Bd (2 * k + 1) ((Pt.sy e.1 e.2).fdiv (Int.gcd (Pt.sy e.1 e.2) (0 - Pt.sx e.1 e.2))) := @bd_fdiv _ _ _ b2
  have n2 : Bd (2 * k + 1) ((0 - Pt.sx e.1 e.2).fdiv (Int.gcd (Pt.sy e.1 e.2) (0 - Pt.sx e.1 e.2))) := @bd_fdiv _ _ _ (bd_z b1)
  refine ⟨⟨⟨(n1.mono (by omega)).h, (n2.mono (by omega)).h, trivial⟩, ⟨(h1.1.mono (by omega)).h, (h1.2.1.mono (by omega)).h, (h1.2.2.mono (by omega)).h, trivial⟩, ⟨(h2.1.mono (by omega)).h, (h2.2.1.mono (by omega)).h, (h2.2.2.mono (by omega)).h, trivial⟩, trivial⟩, ?_, ?_, ?_⟩
  · simp [nrmD, dirv, PyData.bulk, PyData.bulkAll]
  · simp [nrmD, dirv, PyData.depth, PyData.depthAll]
  · simp [nrmD, dirv, PyData.hasDict, PyData.hasDictAll]
theorem rOk_map {α : Type} (f : α → D) {P : α → Prop} (h : ∀ x, P x → tame (f x) ∧ (f x).bulk ≤ 100 ∧ (f x).depth ≤ 5 ∧ (f x).hasDict = false) {xs : List α} (hx : ∀ x ∈ xs, P x) (hl : xs.length ≤ 300) : rOk (.list (xs.map f)) := by
  obtain ⟨a, b, c, d⟩ := ok_map f h xs hx
  refine rOk_of (by simpa [tame] using a) ?_ ?_ ?_
  · simp only [PyData.bulk]; omega
  · simp only [PyData.depth]; omega
  · intro z
    simp only [PyData.hasDict, d] at z
    cases z
theorem lay_sd (e : Pt × Pt) : (sdD e).canLay0 = true ∧ (sdD e).depth ≤ 5 := ⟨by simp [nrmD, dirv, PyData.canLay0, PyData.canLayAll0], by simp [nrmD, dirv, PyData.depth, PyData.depthAll]⟩
theorem sh_sds (xs : List (Pt × Pt)) : SeqAt.shaped (.list (xs.map sdD)) = true := by
  obtain ⟨h1, h2⟩ := lay_map sdD lay_sd xs
  have e1 : (PyData.list (xs.map sdD)).canLay0 = true := by simpa [PyData.canLay0] using h1
  have e2 : (PyData.list (xs.map sdD)).depth ≤ 64 := by simp only [PyData.depth]; omega
  unfold SeqAt.shaped
  rw [e1, decide_eq_true e2]; rfl
theorem dNe_pD {p q : Pt} {Q : D → Prop} (h : Q (.bool (!decide (p = q)))) : dNe (pD p) (pD q) Q := by
  refine ⟨sh_iii, sh_iii, ?_⟩
  rw [eqv_pD]; exact h
/-! promises -/
def spSides : DSp := fun ds Q => ∃ (H : List Pt) (k : Nat), ds = [.tuple (H.map pD)] ∧ PlateS H ∧ (∀ x ∈ H, PB k x) ∧ k ≤ 400 ∧ H.length ≤ 1000 ∧ Q (.list ((sidesL H).map sdD))
def spHq : DSp := fun ds Q => ∃ (u : Vd) (p : Pt) (k : Nat), ds = [vD u, pD p] ∧ VB k u ∧ PB k p ∧ k ≤ 900 ∧ Q (hD (hq u p))
theorem hq_c {u : Vd} {p : Pt} {k : Nat} (hu : VB k u) (hp : PB k p) (hk : k ≤ 900) {Q : D → Prop} (h : Q (hD (hq u p))) : spHq [vD u, pD p] Q := ⟨u, p, k, rfl, hu, hp, hk, h⟩
theorem hq_bd {u : Vd} {p : Pt} {k : Nat} (hu : VB k u) (hp : PB k p) : Hb (2 * k + 1) (hq u p) := by
  have b1 : Bd (2 * k + 1) (u.a * p.x + u.b * p.y) := (bd_add2 (@bd_mul _ _ _ _ hu.1 hp.1) (@bd_mul _ _ _ _ hu.2 hp.2.1)).mono (by omega)
  exact ⟨@bd_fdiv _ _ _ b1, @bd_fdiv _ _ _ (hp.2.2.mono (by omega))⟩
def spTopq : DSp := fun ds Q => ∃ (H : List Pt) (u : Vd) (k : Nat), ds = [.tuple (H.map pD), vD u] ∧ H ≠ [] ∧ (∀ x ∈ H, PB k x) ∧ VB k u ∧ k ≤ 400 ∧ H.length ≤ 1000 ∧ Q (hD (topq u H))
theorem topq_mem (u : Vd) : ∀ {H : List Pt}, H ≠ [] → ∃ p ∈ H, topq u H = hq u p
  | a :: r, _ => by
    have key : ∀ (r : List Pt) (f : Fq), let t := r.foldl (fun f p => if Fq.lt f (hq u p) = true then hq u p else f) f; t = f ∨ ∃ q ∈ r, t = hq u q := fun r => by
      induction r with
      | nil => intro f; exact .inl rfl
      | cons a r ih =>
        intro f
        have i1 := ih (if Fq.lt f (hq u a) = true then hq u a else f)
        simp only [List.foldl_cons]
        rcases i1 with e | ⟨q, h, e⟩
        · rw [e]
          split
          · exact .inr ⟨a, by simp, rfl⟩
          · exact .inl rfl
        · exact .inr ⟨q, by simp [h], e⟩
    rcases key r (hq u a) with e | ⟨q, h, e⟩
    · exact ⟨a, by simp, e⟩
    · exact ⟨q, by simp [h], e⟩
/-- a corner and the next one, by places -/
theorem nx_ix (H : List Pt) (h : H ≠ []) : ∀ (k : Nat) (e : Pt × Pt), (nx (H ++ H.take 1))[k]? = some e → L2.atI (H.map pD) (k : Int) = some (pD e.1) ∧ L2.atI ((H ++ H.take 1).map pD) ((k : Int) + 1) = some (pD e.2) := by
  intro k e he
  unfold nx at he
  rw [List.getElem?_zip_eq_some] at he
  obtain ⟨h1, h2⟩ := he
  rw [List.getElem?_drop] at h2
  have kl : k < H.length := by
    have hk : 1 + k < (H ++ H.take 1).length := (List.getElem?_eq_some_iff.mp h2).1
    rw [List.length_append, List.length_take] at hk
    have := List.length_pos_iff.mpr h
    omega
  rw [List.getElem?_append_left kl] at h1
  refine ⟨L2.atI_nat (by rw [List.getElem?_map, h1]; rfl), ?_⟩
  rw [show (k : Int) + 1 = ((1 + k : Nat) : Int) by omega]
  exact L2.atI_nat (by rw [List.getElem?_map, h2]; rfl)
theorem zip_snd {α β : Type} : ∀ (xs : List α) (ys : List β), xs.length = ys.length → (xs.zip ys).map (fun q => q.2) = ys
  | [], [], _ => rfl
  | [], y :: ys, h => by simp at h
  | x :: xs, [], h => by simp at h
  | x :: xs, y :: ys, h => by simp only [List.zip_cons_cons, List.map_cons]; rw [zip_snd xs ys (by simpa using h)]
theorem dEq_hD {x y : Fq} {Q : D → Prop} (h : Q (.bool (decide (x = y)))) : dEq (hD x) (hD y) Q := by
  refine dEq_ii ?_
  have e : (decide (x.p = y.p) && decide (x.q = y.q)) = decide (x = y) := by
    by_cases c : x = y
    · subst c; simp
    · rw [decide_eq_false c]
      by_cases c1 : x.p = y.p
      · rw [decide_eq_true c1, decide_eq_false fun c2 => c (Fq.ext' c1 c2)]; rfl
      · rw [decide_eq_false c1]; rfl
  rw [e]; exact h
end PH

/-! Farthest corners. -/
namespace PH
open PySem PySem.Spec L2
/-- a plate as its sides tell it -/
structure Plt (H : List Pt) : Prop where
  ne : H ≠ []
  st : Strict Pt.o H
  left : ∀ u v, (u, v) ∈ nx (H ++ H.take 1) → 2 ≤ H.length → ∀ r ∈ H, 0 ≤ Pt.o u v r
theorem PlateS.plt {H : List Pt} (h : PlateS H) : Plt H := ⟨h.ne, h.2, fun u v e l r hr => sides_left h (u := u) (v := v) (by unfold sidesL; rw [if_neg (by omega)]; exact e) hr⟩
/-- the corners of greatest height, counterclockwise -/
def maxL (u : Vd) (H : List Pt) : List Pt := H.filter fun p => decide (hq u p = topq u H)
def isN (x y : Pt) (u : Vd) : Bool := match nrmD x y with
  | .tuple [.int a, .int b] => decide (a = u.a) && decide (b = u.b)
  | _ => false
theorem isN_iff {x y : Pt} {u : Vd} : isN x y u = true ↔ nrmD x y = vD u := by
  unfold isN nrmD dirv
  simp
def farL (u : Vd) (H : List Pt) : List Pt := match maxL u H with
  | [x, y] => if isN x y u = true then [x, y] else [y, x]
  | F => F
theorem maxL_mem {u : Vd} {H : List Pt} {p : Pt} : p ∈ maxL u H ↔ p ∈ H ∧ hq u p = topq u H := by
  unfold maxL; rw [List.mem_filter, decide_eq_true_iff]
theorem topq_le (u : Vd) {H : List Pt} {p : Pt} (hp : p ∈ H) : Fq.lt (topq u H) (hq u p) = false := by
  match H, hp with
  | a :: r, hp =>
    have key : ∀ (r : List Pt) (f : Fq), let t := r.foldl (fun f p => if Fq.lt f (hq u p) = true then hq u p else f) f; Fq.lt t f = false ∧ ∀ q ∈ r, Fq.lt t (hq u q) = false := fun r => by
      induction r with
      | nil => intro f; exact ⟨Fq.irr _, fun _ h => by simp at h⟩
      | cons a r ih =>
        intro f
        obtain ⟨i2, i3⟩ := ih (if Fq.lt f (hq u a) = true then hq u a else f)
        simp only [List.foldl_cons]
        generalize List.foldl (fun f p => if Fq.lt f (hq u p) = true then hq u p else f) (if Fq.lt f (hq u a) = true then hq u a else f) r = t at *
        have le2 : ∀ {x y z : Fq}, Fq.lt x y = false → Fq.lt y z = false → Fq.lt x z = false := fun {x y z} h1 h2 => by
          cases e : Fq.lt x z with
          | false => rfl
          | true =>
            have := lt_of_lt_le (x := x) (y := z) (z := y) e (by unfold le; rw [h2]; rfl)
            rw [h1] at this; cases this
        by_cases c : Fq.lt f (hq u a) = true
        · rw [if_pos c] at i2
          refine ⟨le2 i2 (asym c), fun q hq' => ?_⟩
          rcases List.mem_cons.mp hq' with rfl | h
          · exact i2
          · exact i3 q h
        · rw [if_neg c] at i2
          refine ⟨i2, fun q hq' => ?_⟩
          rcases List.mem_cons.mp hq' with rfl | h
          · exact le2 i2 (by simpa using c)
          · exact i3 q h
    obtain ⟨i2, i3⟩ := key r (hq u a)
    show Fq.lt (List.foldl _ _ _) _ = _
    rcases List.mem_cons.mp hp with rfl | h
    · exact i2
    · exact i3 p h
/-- the way between two of one height -/
theorem flat_way {u : Vd} {x y : Pt} (ne : x ≠ y) (e : hq u x = hq u y) : ∃ t : Int, t ≠ 0 ∧ Pt.sx x y = -u.b * t ∧ Pt.sy x y = u.a * t := by
  have h0 : u.a * Pt.sx x y = -u.b * Pt.sy x y := by
    have := (hq_eq u x y).mp e
    unfold Pt.sx Pt.sy; grind
  have d : u.a ∣ Pt.sy x y := by
    have d1 : u.a ∣ u.b * Pt.sy x y := ⟨-Pt.sx x y, by rw [Int.mul_neg, h0]; grind⟩
    have w := Int.dvd_gcd_mul_iff_dvd_mul.mpr d1
    rw [u.cop] at w
    simpa using w
  by_cases a0 : u.a = 0
  · have b1 : u.b = 1 ∨ u.b = -1 := by
      have := u.cop
      rw [a0, Int.gcd_zero_left] at this
      omega
    have sy0 : Pt.sy x y = 0 := by
      rw [a0] at h0
      rcases b1 with b1 | b1 <;> rw [b1] at h0 <;> omega
    refine ⟨-u.b * Pt.sx x y, fun z => ?_, ?_, by rw [a0, sy0]; simp⟩
    · have : Pt.sx x y = 0 := by rcases b1 with b1 | b1 <;> rw [b1] at z <;> omega
      exact s_ne ne ⟨this, sy0⟩
    · rcases b1 with b1 | b1 <;> rw [b1] <;> omega
  · obtain ⟨t, ht⟩ := d
    have e2 : Pt.sx x y = -u.b * t := by
      refine Int.eq_of_mul_eq_mul_left a0 ?_
      rw [h0, ht]; grind
    refine ⟨t, fun z => ?_, e2, ht⟩
    rw [z] at e2 ht
    exact s_ne ne ⟨by simpa using e2, by simpa using ht⟩
theorem nx_next {α : Type} : ∀ (H : List α) (x : α), x ∈ H → ∃ y, (x, y) ∈ nx (H ++ H.take 1) := by
  intro H x hx
  obtain ⟨i, hi⟩ := List.mem_iff_getElem?.mp hx
  have hl : i < H.length := (List.getElem?_eq_some_iff.mp hi).1
  have hl2 : 1 + i < (H ++ H.take 1).length := by rw [List.length_append, List.length_take]; omega
  refine ⟨(H ++ H.take 1)[1 + i], ?_⟩
  unfold nx
  refine List.mem_of_getElem? (i := i) ?_
  rw [List.getElem?_zip_eq_some]
  refine ⟨by rw [List.getElem?_append_left hl]; exact hi, ?_⟩
  rw [List.getElem?_drop]
  exact List.getElem?_eq_getElem hl2
/-- two corners of greatest height are the ends of a side across -/
theorem far_side {u : Vd} {H : List Pt} (P : Plt H) {x y : Pt} (hx : x ∈ H) (hy : y ∈ H) (e1 : hq u x = topq u H) (e2 : hq u y = topq u H) {t : Int} (t0 : 0 < t) (s1 : Pt.sx x y = -u.b * t) (s2 : Pt.sy x y = u.a * t) : (x, y) ∈ nx (H ++ H.take 1) ∧ nrmD x y = vD u := by
  have ne : x ≠ y := fun z => by
    subst z
    have a1 : Pt.sx x x = 0 := by unfold Pt.sx; omega
    have a2 : Pt.sy x x = 0 := by unfold Pt.sy; omega
    rw [a1] at s1; rw [a2] at s2
    have b1 : u.b = 0 := by rcases Int.mul_eq_zero.mp (show u.b * t = 0 by rw [Int.neg_mul] at s1; omega) with z | z <;> omega
    have b2 : u.a = 0 := by rcases Int.mul_eq_zero.mp s2.symm with z | z <;> omega
    exact u.ne ⟨b2, b1⟩
  have l2 : 2 ≤ H.length := by
    match H, hx, hy with
    | [a], hx, hy => simp at hx hy; exact absurd (hx.trans hy.symm) ne
    | a :: b :: r, _, _ => simp
  obtain ⟨z, hz⟩ := nx_next H x hx
  have mz := (nx_mem hz).2
  have zy : z = y := by
    rcases Decidable.em (z = y) with c | c
    · exact c
    exfalso
    have h1 := P.left x z hz l2 y hy
    have h2 : Pt.o x z y ≠ 0 := fun w => by
      rcases P.st.st x z hz l2 y hy w with q | q
      · exact ne q.symm
      · exact c q.symm
    have id := turn_id x z y
    rw [s1, s2] at id
    have hz2 := topq_le u mz
    rw [← e1, hq_lt] at hz2
    have hz3 := of_decide_eq_false hz2
    have w : u.a * Pt.sx x z + u.b * Pt.sy x z ≤ 0 := by
      have : u.a * Pt.sx x z + u.b * Pt.sy x z = (u.a * z.x + u.b * z.y) * x.d - (u.a * x.x + u.b * x.y) * z.d := by unfold Pt.sx Pt.sy; grind
      omega
    have id2 : t * (u.a * Pt.sx x z + u.b * Pt.sy x z) = x.d * Pt.o x z y := by rw [← id]; grind
    have p1 := Int.mul_pos x.pos (show 0 < Pt.o x z y by omega)
    have p2 := Int.mul_nonneg (show 0 ≤ t by omega) (show 0 ≤ -(u.a * Pt.sx x z + u.b * Pt.sy x z) by omega)
    rw [Int.mul_neg] at p2
    omega
  subst zy
  refine ⟨hz, ?_⟩
  unfold nrmD
  rw [s1, s2, show 0 - -u.b * t = u.b * t by rw [Int.neg_mul]; omega, dirv_scale u.ne t0, dirv_id u.cop]
theorem nrm_way {u : Vd} {x y : Pt} (ne : x ≠ y) (h : nrmD x y = vD u) : ∃ g : Int, 0 < g ∧ Pt.sx x y = -u.b * g ∧ Pt.sy x y = u.a * g := by
  obtain ⟨a, b, e, g, h1, h2⟩ := dirv_spec (a := Pt.sy x y) (b := 0 - Pt.sx x y) (fun z => s_ne ne ⟨by omega, z.1⟩)
  have p := g2_pos (a := Pt.sy x y) (b := 0 - Pt.sx x y) (fun z => s_ne ne ⟨by omega, z.1⟩)
  unfold nrmD at h
  rw [e] at h
  simp only [PyData.tuple.injEq, List.cons.injEq, PyData.int.injEq, and_true] at h
  rw [h.1] at h1; rw [h.2] at h2
  refine ⟨_, (by omega : 0 < (Int.gcd (Pt.sy x y) (0 - Pt.sx x y) : Int)), ?_, h1⟩
  rw [Int.neg_mul]; omega
theorem nrm_not {u : Vd} {x y : Pt} (ne : x ≠ y) (h : nrmD x y = vD u) : nrmD y x ≠ vD u := fun h' => by
  obtain ⟨g, g0, h1, h2⟩ := nrm_way ne h
  obtain ⟨g', g0', h1', h2'⟩ := nrm_way (fun z => ne z.symm) h'
  rw [Pt.sx_neg] at h1'; rw [Pt.sy_neg] at h2'
  have b0 : u.b = 0 := by
    have : u.b * (g + g') = 0 := by grind
    rcases Int.mul_eq_zero.mp this with z | z <;> omega
  have a0 : u.a = 0 := by
    have : u.a * (g + g') = 0 := by grind
    rcases Int.mul_eq_zero.mp this with z | z <;> omega
  exact u.ne ⟨a0, b0⟩
theorem two_of {α : Type} [DecidableEq α] {F : List α} {p q : α} (nd : F.Nodup) (ne : p ≠ q) (hm : ∀ x, x ∈ F ↔ x = p ∨ x = q) : F = [p, q] ∨ F = [q, p] := by
  have hl : F.length = 2 := by
    have := count_two ne nd
    rw [List.filter_eq_self.mpr fun x hx => decide_eq_true ((hm x).mp hx), if_pos ((hm p).mpr (.inl rfl)), if_pos ((hm q).mpr (.inr rfl))] at this
    exact this
  match F, hl with
  | [a, b], _ =>
    have ha := (hm a).mp (by simp)
    have hb := (hm b).mp (by simp)
    have nab : a ≠ b := by simpa using nd
    rcases ha with rfl | rfl <;> rcases hb with rfl | rfl
    · exact absurd rfl nab
    · exact .inl rfl
    · exact .inr rfl
    · exact absurd rfl nab
/-- a side across is what is told -/
theorem far_one {u : Vd} {H : List Pt} (P : Plt H) {p q : Pt} (e : (p, q) ∈ nx (H ++ H.take 1)) (ne : p ≠ q) (e1 : hq u p = topq u H) (e2 : hq u q = topq u H) (hn : nrmD p q = vD u) : farL u H = [p, q] := by
  obtain ⟨mp, mq⟩ := nx_mem e
  have l2 : 2 ≤ H.length := by
    match H, mp, mq with
    | [a], hx, hy => simp at hx hy; exact absurd (hx.trans hy.symm) ne
    | a :: b :: r, _, _ => simp
  have hm : ∀ x, x ∈ maxL u H ↔ x = p ∨ x = q := fun x => by
    rw [maxL_mem]
    constructor
    · rintro ⟨hx, hh⟩
      refine P.st.st p q e l2 x hx ?_
      obtain ⟨g, g0, s1, s2⟩ := nrm_way ne hn
      exact (nrm_h (n := u) (u := p) (v := q) ⟨g, g0, s2, by rw [s1, Int.neg_mul]; omega⟩ x).2.mp (hh.trans e1.symm)
    · rintro (rfl | rfl)
      · exact ⟨mp, e1⟩
      · exact ⟨mq, e2⟩
  unfold farL
  rcases two_of (F := maxL u H) (P.st.nd.sublist List.filter_sublist) ne hm with z | z
  · rw [z]
    show (if isN p q u = true then [p, q] else [q, p]) = [p, q]
    rw [if_pos (isN_iff.mpr hn)]
  · rw [z]
    show (if isN q p u = true then [q, p] else [p, q]) = [p, q]
    rw [if_neg fun z => nrm_not ne hn (isN_iff.mp z)]
theorem far_none {u : Vd} {H : List Pt} (P : Plt H) (h : ∀ p q, (p, q) ∈ nx (H ++ H.take 1) → p ≠ q → hq u p = topq u H → hq u q = topq u H → nrmD p q ≠ vD u) : farL u H = maxL u H := by
  unfold farL
  split
  · rename_i x y e
    exfalso
    have mx := maxL_mem.mp (show x ∈ maxL u H by rw [e]; simp)
    have my := maxL_mem.mp (show y ∈ maxL u H by rw [e]; simp)
    have ne : x ≠ y := by
      have nd : (maxL u H).Nodup := P.st.nd.sublist List.filter_sublist
      rw [e] at nd; simpa using nd
    obtain ⟨t, t0, s1, s2⟩ := flat_way ne (mx.2.trans my.2.symm)
    rcases Int.lt_or_gt_of_ne t0 with c | c
    · obtain ⟨a1, a2⟩ := far_side (t := -t) P my.1 mx.1 my.2 mx.2 (by omega) (by rw [Pt.sx_neg, s1]; grind) (by rw [Pt.sy_neg, s2]; grind)
      exact h y x a1 (fun z => ne z.symm) my.2 mx.2 a2
    · obtain ⟨a1, a2⟩ := far_side P mx.1 my.1 mx.2 my.2 c s1 s2
      exact h x y a1 ne mx.2 my.2 a2
  · rfl
end PH

/-! What the defs of tops and farthest corners promise. -/
namespace PH
open PySem PySem.Spec L2
def negV (u : Vd) : Vd := ⟨-u.a, -u.b, by rw [Int.neg_gcd, Int.gcd_neg]; exact u.cop⟩
theorem VB.neg {k : Nat} {u : Vd} (h : VB k u) : VB k (negV u) := ⟨@bd_neg _ _ h.1, @bd_neg _ _ h.2⟩
theorem isdr_vd {k : Nat} {d : D} (h : IsDr k d) : ∃ u : Vd, d = vD u ∧ VB k u := let ⟨a, b, e, g, h1, h2⟩ := h; ⟨⟨a, b, g⟩, e, h1, h2⟩
theorem vd_isdr {k : Nat} {u : Vd} (h : VB k u) : IsDr k (vD u) := ⟨u.a, u.b, rfl, u.cop, h.1, h.2⟩
/-- a place led by whole steps -/
def shP (a b : Int) (p : Pt) : Pt := ⟨p.x + a * p.d, p.y + b * p.d, p.d, p.pos, by
  have h := p.cop
  generalize hn : g3 (p.x + a * p.d) (p.y + b * p.d) p.d = n
  have d1 : (n : Int) ∣ p.d := dvd_g (hn ▸ g3_d _ _ _)
  have d2 : (n : Int) ∣ p.x + a * p.d := dvd_g (hn ▸ g3_x _ _ _)
  have d3 : (n : Int) ∣ p.y + b * p.d := dvd_g (hn ▸ g3_y _ _ _)
  have e1 : (n : Int) ∣ p.x := (Int.dvd_add_left (Int.dvd_mul_of_dvd_right d1)).mp d2
  have e2 : (n : Int) ∣ p.y := (Int.dvd_add_left (Int.dvd_mul_of_dvd_right d1)).mp d3
  have : n ∣ g3 p.x p.y p.d := Nat.dvd_gcd (Nat.dvd_gcd (by simpa using Int.natAbs_dvd_natAbs.mpr e1) (by simpa using Int.natAbs_dvd_natAbs.mpr e2)) (by simpa using Int.natAbs_dvd_natAbs.mpr d1)
  rw [h] at this
  exact Nat.dvd_one.mp this⟩
theorem shP_o (a b : Int) (p q r : Pt) : Pt.o (shP a b p) (shP a b q) (shP a b r) = Pt.o p q r := by unfold Pt.o detP shP; grind
theorem shP_inj {a b : Int} {p q : Pt} (h : shP a b p = shP a b q) : p = q := by
  have e1 : p.d = q.d := show (shP a b p).d = (shP a b q).d by rw [h]
  have e2 : p.x + a * p.d = q.x + a * q.d := show (shP a b p).x = (shP a b q).x by rw [h]
  have e3 : p.y + b * p.d = q.y + b * q.d := show (shP a b p).y = (shP a b q).y by rw [h]
  rw [e1] at e2 e3
  exact Pt.ext' (by omega) (by omega) e1
theorem nx_map {α β : Type} (f : α → β) (xs : List α) : nx (xs.map f) = (nx xs).map fun e => (f e.1, f e.2) := by
  unfold nx
  rw [← List.map_drop, List.zip_map]; rfl
theorem plt_sh {H : List Pt} (P : Plt H) (a b : Int) : Plt (H.map (shP a b)) := by
  have em : ∀ u v, (u, v) ∈ nx (H.map (shP a b) ++ (H.map (shP a b)).take 1) → ∃ x y, (x, y) ∈ nx (H ++ H.take 1) ∧ u = shP a b x ∧ v = shP a b y := fun u v h => by
    rw [← List.map_take, ← List.map_append, nx_map] at h
    obtain ⟨⟨x, y⟩, h1, h2⟩ := List.mem_map.mp h
    simp only [Prod.mk.injEq] at h2
    exact ⟨x, y, h1, h2.1.symm, h2.2.symm⟩
  refine ⟨fun z => P.ne (List.map_eq_nil_iff.mp z), ⟨?_, fun u v h l => ?_, fun u v h l r hr z => ?_⟩, fun u v h l r hr => ?_⟩
  · exact List.Pairwise.map (shP a b) (fun x y n e => n (shP_inj e)) P.st.nd
  · obtain ⟨x, y, h1, rfl, rfl⟩ := em u v h
    rw [List.length_map] at l
    exact fun e => P.st.two x y h1 l (shP_inj e)
  · obtain ⟨x, y, h1, rfl, rfl⟩ := em u v h
    obtain ⟨q, hq, rfl⟩ := List.mem_map.mp hr
    rw [List.length_map] at l
    rw [shP_o] at z
    rcases P.st.st x y h1 l q hq z with e | e
    · exact .inl (by rw [e])
    · exact .inr (by rw [e])
  · obtain ⟨x, y, h1, rfl, rfl⟩ := em u v h
    obtain ⟨q, hq, rfl⟩ := List.mem_map.mp hr
    rw [List.length_map] at l
    rw [shP_o]
    exact P.left x y h1 l q hq
/-- a half plane at a place's height -/
abbrev hfD (u : Vd) (q : Pt) : D := halfv (u.a * q.d) (u.b * q.d) (u.a * q.x + u.b * q.y)
theorem hf_of {u : Vd} {q : Pt} {k : Nat} (hu : VB k u) (hq' : PB k q) : ∃ A B C : Int, hfD u q = pl A B C ∧ Bd (2 * k + 1) A ∧ Bd (2 * k + 1) B ∧ Bd (2 * k + 1) C ∧ ∀ p : Pt, decide (0 ≤ excess A B C p.x p.y p.d) = !Fq.lt (hq u p) (hq u q) := by
  have q0 := q.pos
  have ne : ¬ (u.a * q.d = 0 ∧ u.b * q.d = 0) := mul_ne2 u.ne (by omega)
  have b1 : Bd (2 * k + 1) (u.a * q.d) := (@bd_mul _ _ _ _ hu.1 hq'.2.2).mono (by omega)
  have b2 : Bd (2 * k + 1) (u.b * q.d) := (@bd_mul _ _ _ _ hu.2 hq'.2.2).mono (by omega)
  have b3 : Bd (2 * k + 1) (u.a * q.x + u.b * q.y) := (bd_add2 (@bd_mul _ _ _ _ hu.1 hq'.1) (@bd_mul _ _ _ _ hu.2 hq'.2.1)).mono (by omega)
  obtain ⟨A, B, C, G, e, g0, h1, h2, h3, _, _, c1, c2, c3⟩ := halfv_form ne b1 b2 b3
  refine ⟨A, B, C, e, c1, c2, c3, fun p => ?_⟩
  rw [hq_lt]
  refine dec_not ?_
  have id : G * excess A B C p.x p.y p.d = (u.a * p.x + u.b * p.y) * q.d - (u.a * q.x + u.b * q.y) * p.d := by
    unfold excess
    have : G * (A * p.x + B * p.y - C * p.d) = (G * A) * p.x + (G * B) * p.y - (G * C) * p.d := by grind
    rw [this, ← h1, ← h2, ← h3]; grind
  rw [← nonneg_iff g0, id]
  omega
theorem met_top {u : Vd} {q : Pt} {H : List Pt} (h : H ≠ []) : (H.any fun p => !Fq.lt (hq u p) (hq u q)) = !Fq.lt (topq u H) (hq u q) := by
  cases e : Fq.lt (topq u H) (hq u q) with
  | false =>
    obtain ⟨p, hp, ep⟩ := topq_mem u h
    rw [List.any_eq_true.mpr ⟨p, hp, by rw [← ep, e]; rfl⟩]; rfl
  | true =>
    have : (H.any fun p => !Fq.lt (hq u p) (hq u q)) = false := by
      rw [List.any_eq_false]
      intro p hp
      have := topq_le u hp
      have : Fq.lt (hq u p) (hq u q) = true := lt_of_le_lt (y := topq u H) (by unfold le; rw [this]; rfl) e
      rw [this]; simp
    rw [this]; rfl
theorem lf_mem : ∀ {xs : List Pt} , listFrees (xs.map pD) = true := lf_pts _
theorem ok_pt {k : Nat} (hk : k ≤ 900) (p : Pt) (h : PB k p) : tame (pD p) ∧ (pD p).bulk ≤ 100 ∧ (pD p).depth ≤ 5 ∧ (pD p).hasDict = false := by
  refine ⟨⟨(h.1.mono hk).h, (h.2.1.mono hk).h, (h.2.2.mono hk).h, trivial⟩, ?_, ?_, ?_⟩
  · simp [PyData.bulk, PyData.bulkAll]
  · simp [PyData.depth, PyData.depthAll]
  · simp [PyData.hasDict, PyData.hasDictAll]
theorem rOk_hD {x : Fq} {k : Nat} (h : Hb k x) (hk : k ≤ 900) : rOk (hD x) := rOk_ii (a := h.1.mono hk) (b := h.2.mono hk) (Nat.le_refl 900) (Nat.le_refl 900)
theorem farL_mem {u : Vd} {H : List Pt} {p : Pt} (h : p ∈ farL u H) : p ∈ H := by
  have m : ∀ x, x ∈ maxL u H → x ∈ H := fun x hx => (maxL_mem.mp hx).1
  unfold farL at h
  split at h
  · rename_i x y e
    have mx := m x (by rw [e]; simp)
    have my := m y (by rw [e]; simp)
    split at h <;> simp at h <;> rcases h with rfl | rfl <;> assumption
  · exact m p h
theorem farL_len (u : Vd) (H : List Pt) : (farL u H).length ≤ H.length := by
  have l : (maxL u H).length ≤ H.length := List.length_filter_le _ _
  unfold farL
  split
  · rename_i x y e
    rw [e] at l
    split <;> exact l
  · exact l
/-! promises -/
def spTopC (f : Vd → List Pt → D) : DSp := fun ds Q => ∃ (H : List Pt) (u : Vd) (k : Nat), ds = [.tuple (H.map pD), vD u] ∧ Plt H ∧ (∀ x ∈ H, PB k x) ∧ VB k u ∧ k ≤ 400 ∧ H.length ≤ 1000 ∧ Q (f u H)
def botD (u : Vd) (H : List Pt) : D := hD ⟨-(topq (negV u) H).p, (topq (negV u) H).q, (topq (negV u) H).pos, by rw [Int.neg_gcd]; exact (topq (negV u) H).cop⟩
def spMet : DSp := fun ds Q => ∃ (H : List Pt) (A B C : Int) (k : Nat), ds = [.tuple (H.map pD), pl A B C] ∧ (∀ x ∈ H, PB k x) ∧ Bd k A ∧ Bd k B ∧ Bd k C ∧ k ≤ 1000 ∧ H.length ≤ 1000 ∧ Q (.bool (H.any fun p => decide (0 ≤ excess A B C p.x p.y p.d)))
def spHfD : DSp := fun ds Q => ∃ (u : Vd) (q : Pt) (k : Nat), ds = [vD u, pD q] ∧ VB k u ∧ PB k q ∧ k ≤ 900 ∧ Q (hfD u q)
def spSampled : DSp := fun ds Q => ∃ (xs : List D) (k : Nat), ds = [.list xs] ∧ (∀ x ∈ xs, IsDr k x) ∧ xs.length ≤ 200 ∧ 1 ≤ k ∧ k ≤ 900 ∧ ∀ ys : List D, (∀ y ∈ ys, IsDr (k + 1) y) → ys.length ≤ 410 → Q (.list ys)
def spNormals : DSp := fun ds Q => ∃ (H : List Pt) (k : Nat), ds = [.tuple (H.map pD)] ∧ H ≠ [] ∧ (∀ x ∈ H, PB k x) ∧ k ≤ 400 ∧ H.length ≤ 200 ∧ ∀ ys : List D, (∀ y ∈ ys, IsDr (2 * k + 1) y) → ys.length ≤ 200 → Q (.list ys)
def spMetR : DSp := fun ds Q => ∃ (H : List Pt) (u : Vd), ds = [SRC, .tuple (H.map pD), vD u] ∧ Plt H ∧ (∀ x ∈ H, PB 7 x) ∧ VB 30 u ∧ H.length ≤ 200 ∧ Q (.bool true)
def spFarPl : DSp := fun ds Q => ∃ H : List Pt, ds = [SRC, .tuple (H.map pD)] ∧ Plt H ∧ (∀ x ∈ H, PBd 7 4 x) ∧ H.length ≤ 200 ∧ ∀ H' : List Pt, Plt H' → (∀ x ∈ H', PB 30 x) → H'.length ≤ 200 → Q (.tuple (H'.map pD))
def spTopsR : DSp := fun ds Q => ∃ (H : List Pt) (u : Vd), ds = [.tuple (H.map pD), vD u] ∧ Plt H ∧ (∀ x ∈ H, PB 30 x) ∧ VB 30 u ∧ H.length ≤ 200 ∧ Q (.bool true)
theorem dNe_nil {xs : List D} {Q : D → Prop} (hs : SeqAt.shaped (.list xs) = true) (h : Q (.bool (!xs.isEmpty))) : dNe (.list xs) (.list []) Q := by
  have e : PyData.eqv (.list xs) (.list []) = xs.isEmpty := by cases xs <;> simp [PyData.eqv, PyData.eqvAll]
  refine ⟨hs, by decide +kernel, ?_⟩
  rw [e]; exact h
/-- a loop over things that are told by a property -/
theorem dFor_x {α : Type} {mi : DA} {g : DG} {mb rest : DS} {Dd : DEnds} {σd : DSt} (P : List α → Prop) (enc : α → D) (W : List α → DSt → Prop) (hi : ∀ R : List D → Prop, (∀ xs, P xs → R (xs.map enc)) → mi σd R) (h0 : W [] σd)
    (ht : ∀ xs pre x post, P xs → xs = pre ++ x :: post → ∀ σ', W pre σ' → g (enc x) σ' fun σ2 => mb { Dd with nx := W (pre ++ [x]), ct := W (pre ++ [x]), bk := rest Dd } σ2) (hr : ∀ xs σ', W xs σ' → rest Dd σ') : dSeq (dFor mi g mb) rest Dd σd := by
  refine hi _ fun xs hx => ?_
  refine ⟨fun i => W (xs.take i), by simpa using h0, fun i y σ' hy w => ?_, fun σ' w => hr xs σ' ?_⟩
  · rw [List.getElem?_map] at hy
    obtain ⟨x, hxi, rfl⟩ := Option.map_eq_some_iff.mp hy
    have e : xs.take (i + 1) = xs.take i ++ [x] := by rw [List.take_add_one, hxi]; rfl
    have e2 : xs = xs.take i ++ x :: xs.drop (i + 1) := by
      have h0 : i < xs.length := (List.getElem?_eq_some_iff.mp hxi).1
      have h1 : xs[i] = x := (List.getElem?_eq_some_iff.mp hxi).2
      rw [← h1, ← List.drop_eq_getElem_cons h0, List.take_append_drop]
    have := ht xs (xs.take i) x _ hx e2 σ' w
    show g (enc x) σ' fun σ2 => mb { Dd with nx := W (xs.take (i + 1)), ct := W (xs.take (i + 1)), bk := rest Dd } σ2
    rw [e]; exact this
  · rw [List.length_map, List.take_length] at w; exact w
end PH

/-! Places in order by keys: the floors of multiples tell the order; doubles left out. -/
namespace PH
open PySem PySem.Spec L2

theorem fl_lt {a b c d g : Int} (hb : 0 < b) (hd : 0 < d) (gb : b ≤ g) (gd : d ≤ g) (h : a * d < c * b) : a * (g * g) / b < c * (g * g) / d := by
  have n1 : a * (g * g) / b * b ≤ a * (g * g) := Int.ediv_mul_le _ (by omega)
  have bd : b * d ≤ g * g := Int.mul_le_mul gb gd (by omega) (by omega)
  generalize hn : a * (g * g) / b = n at *
  have hg : 0 ≤ g * g := Int.mul_nonneg (by omega) (by omega)
  rw [Int.lt_iff_add_one_le, Int.le_ediv_iff_mul_le hd]
  refine Int.le_of_mul_le_mul_right (a := b) ?_ hb
  have e1 : (n + 1) * d * b = n * b * d + b * d := by grind
  have e2 : n * b * d ≤ a * (g * g) * d := Int.mul_le_mul_of_nonneg_right n1 (by omega)
  have e3 : a * (g * g) * d + g * g ≤ c * (g * g) * b := by
    have : (g * g) * (a * d + 1) ≤ (g * g) * (c * b) := Int.mul_le_mul_of_nonneg_left (by omega) hg
    have w1 : a * (g * g) * d = (g * g) * (a * d) := by grind
    have w2 : c * (g * g) * b = (g * g) * (c * b) := by grind
    rw [w1, w2]
    rw [Int.mul_add] at this
    omega
  omega
theorem fl_eq {a b c d g : Int} (hb : 0 < b) (hd : 0 < d) (h : a * d = c * b) : a * (g * g) / b = c * (g * g) / d := by
  have e1 : a * (g * g) / b = a * (g * g) * d / (b * d) := (Int.mul_ediv_mul_of_pos_left _ _ hd).symm
  have e2 : c * (g * g) / d = c * (g * g) * b / (d * b) := (Int.mul_ediv_mul_of_pos_left _ _ hb).symm
  rw [e1, e2, Int.mul_comm d b]
  congr 1
  grind
theorem fl_lt_iff {a b c d g : Int} (hb : 0 < b) (hd : 0 < d) (gb : b ≤ g) (gd : d ≤ g) : a * (g * g) / b < c * (g * g) / d ↔ a * d < c * b := by
  refine ⟨fun h => ?_, fl_lt hb hd gb gd⟩
  rcases Int.lt_trichotomy (a * d) (c * b) with z | z | z
  · exact z
  · rw [fl_eq hb hd z] at h; omega
  · have := fl_lt (g := g) hd hb gd gb z; omega

/-- the key of a place -/
def keyP (f : Int) : D → D
  | .tuple [.int x, .int y, .int d] => .tuple [.int (x * f / d), .int (y * f / d)]
  | _ => .none
def leP (p q : Pt) : Bool := !Pt.lt q p
theorem key_le {g : Int} {p q : Pt} (hp : p.d ≤ g) (hq : q.d ≤ g) : PySem.W.dataLe false (keyP (g * g)) (pD p) (pD q) = leP p q := by
  have e := congrFun (congrFun (PySem.W.dataLe_ii (fun p : Pt => p.x * (g * g) / p.d) (fun p : Pt => p.y * (g * g) / p.d)) p) q
  have e' : PySem.W.dataLe false (keyP (g * g)) (pD p) (pD q) = decide (p.x * (g * g) / p.d < q.x * (g * g) / q.d ∨ (p.x * (g * g) / p.d = q.x * (g * g) / q.d ∧ p.y * (g * g) / p.d ≤ q.y * (g * g) / q.d)) := e
  rw [e']
  have x1 := fl_lt_iff (a := p.x) (c := q.x) p.pos q.pos hp hq
  have x2 := fl_lt_iff (a := q.x) (c := p.x) q.pos p.pos hq hp
  have y2 := fl_lt_iff (a := q.y) (c := p.y) q.pos p.pos hq hp
  have hl := Pt.lt_iff q p
  unfold Pt.sx Pt.sy at hl
  unfold leP
  cases z : Pt.lt q p with
  | true =>
    have := hl.mp z
    rw [Bool.not_true, decide_eq_false_iff_not]
    omega
  | false =>
    have : ¬ (0 < p.x * q.d - q.x * p.d ∨ (p.x * q.d - q.x * p.d = 0 ∧ 0 < p.y * q.d - q.y * p.d)) := fun w => by rw [hl.mpr w] at z; cases z
    rw [Bool.not_false, decide_eq_true_iff]
    omega
theorem leP_tr (a b c : Pt) (h1 : leP a b = true) (h2 : leP b c = true) : leP a c = true := by
  unfold leP at *
  rw [Bool.not_eq_true'] at *
  cases z : Pt.lt c a with
  | false => rfl
  | true =>
    rcases Pt.ori.tot a b with w | w | w
    · rw [Pt.tr' z w] at h2; cases h2
    · subst w; rw [z] at h2; cases h2
    · rw [w] at h1; cases h1
theorem leP_tot (a b : Pt) : (leP a b || leP b a) = true := by
  unfold leP
  cases z : Pt.lt b a with
  | false => rfl
  | true =>
    cases w : Pt.lt a b with
    | false => rfl
    | true => exact absurd (Pt.tr' z w) (Pt.ori.ir b)
/-- places in order -/
def ascL (ps : List Pt) : List Pt := ps.mergeSort leP
theorem asc_data {g : Int} {ps : List Pt} (h : ∀ p ∈ ps, p.d ≤ g) : (ps.map pD).mergeSort (PySem.W.dataLe false (keyP (g * g))) = (ascL ps).map pD :=
  (List.map_mergeSort fun a ha b hb => (key_le (h a ha) (h b hb)).symm).symm
theorem asc_mem {ps : List Pt} {p : Pt} : p ∈ ascL ps ↔ p ∈ ps := (List.mergeSort_perm ps leP).mem_iff
theorem asc_len (ps : List Pt) : (ascL ps).length = ps.length := (List.mergeSort_perm ps leP).length_eq
theorem asc_srt (ps : List Pt) : (ascL ps).Pairwise fun a b => leP a b = true := List.pairwise_mergeSort leP_tr leP_tot ps
/-- the greatest denominator, as the program finds it -/
theorem maxI_ge {d : Int} : ∀ {ns : List Int} {n : Int}, n ∈ ns → n ≤ maxI d ns
  | x :: xs, n, h => by
    have key : ∀ (ys : List Int) (a : Int), a ≤ ys.foldl max a ∧ ∀ y ∈ ys, y ≤ ys.foldl max a := by
      intro ys
      induction ys with
      | nil => intro a; exact ⟨Int.le_refl _, fun _ h => by cases h⟩
      | cons y ys ih =>
        intro a
        obtain ⟨h1, h2⟩ := ih (max a y)
        refine ⟨by simp only [List.foldl_cons]; omega, fun z hz => ?_⟩
        simp only [List.foldl_cons]
        rcases List.mem_cons.mp hz with rfl | hz
        · omega
        · exact h2 z hz
    obtain ⟨h1, h2⟩ := key xs x
    rcases List.mem_cons.mp h with rfl | h
    · exact h1
    · exact h2 n h
theorem maxI_mem {d : Int} : ∀ {ns : List Int}, ns ≠ [] → maxI d ns ∈ ns
  | [], h => absurd rfl h
  | x :: xs, _ => by
    have key : ∀ (ys : List Int) (a : Int), ys.foldl max a = a ∨ ys.foldl max a ∈ ys := by
      intro ys
      induction ys with
      | nil => intro a; exact .inl rfl
      | cons y ys ih =>
        intro a
        simp only [List.foldl_cons, List.mem_cons]
        rcases ih (max a y) with h | h
        · rw [h]
          rcases Int.le_total a y with w | w
          · right; left; omega
          · left; omega
        · exact .inr (.inr h)
    show xs.foldl max x ∈ _
    rcases key xs x with h | h
    · rw [h]; simp
    · simp [h]
/-! ### doubles left out -/
def onceF : Option Pt → List Pt → List Pt
  | _, [] => []
  | l, p :: r => if l = some p then onceF (some p) r else p :: onceF (some p) r
def onceL (row : List Pt) : List Pt := onceF none row
theorem onceF_app (q p : Pt) : ∀ (l : Option Pt) (xs : List Pt), onceF l (xs ++ [q, p]) = onceF l (xs ++ [q]) ++ (if q = p then [] else [p])
  | l, [] => by
    simp only [List.nil_append, onceF]
    by_cases h : q = p
    · subst h; simp
    · have h' : ¬ some q = some p := fun z => h (Option.some.inj z)
      rw [if_neg h', if_neg h]
      by_cases hl : l = some q <;> simp [hl]
  | l, x :: xs => by
    simp only [List.cons_append, onceF]
    rw [onceF_app q p (some x) xs]
    split <;> simp
theorem once_mem : ∀ {row : List Pt} {l : Option Pt} {p : Pt}, p ∈ row → p ∈ onceF l row ∨ l = some p
  | x :: r, l, p, h => by
    simp only [onceF]
    rcases List.mem_cons.mp h with rfl | h
    · by_cases z : l = some p
      · exact .inr z
      · rw [if_neg z]; exact .inl (by simp)
    · have := once_mem (l := some x) h
      split
      · rename_i z
        rcases this with w | w
        · exact .inl w
        · exact .inr (by rw [z, w])
      · rcases this with w | w
        · exact .inl (by simp [w])
        · exact .inl (by rw [Option.some.inj w]; simp)
theorem once_sub : ∀ {row : List Pt} {l : Option Pt} {p : Pt}, p ∈ onceF l row → p ∈ row
  | x :: r, l, p, h => by
    simp only [onceF] at h
    split at h
    · exact List.mem_cons_of_mem _ (once_sub h)
    · rcases List.mem_cons.mp h with rfl | h
      · simp
      · exact List.mem_cons_of_mem _ (once_sub h)
theorem once_srt : ∀ {row : List Pt} {l : Option Pt}, row.Pairwise (fun a b => leP a b = true) → (∀ q, l = some q → ∀ p ∈ row, leP q p = true) → Srt Pt.lt (onceF l row) ∧ ∀ q, l = some q → ∀ p ∈ onceF l row, Pt.lt q p = true
  | [], l, _, _ => ⟨List.Pairwise.nil, fun _ _ p h => by cases h⟩
  | x :: r, l, hp, hl => by
    have hp' := List.pairwise_cons.mp hp
    obtain ⟨i1, i2⟩ := once_srt (row := r) (l := some x) hp'.2 (fun q e p h => by cases e; exact hp'.1 p h)
    simp only [onceF]
    have up : ∀ q, l = some q → q ≠ x → Pt.lt q x = true := fun q e ne => by
      have := hl q e x (by simp)
      unfold leP at this
      rw [Bool.not_eq_true'] at this
      rcases Pt.ori.tot q x with w | w | w
      · exact w
      · exact absurd w ne
      · rw [w] at this; cases this
    split
    · rename_i z
      refine ⟨i1, fun q e p h => ?_⟩
      obtain rfl : x = q := Option.some.inj (z.symm.trans e)
      exact i2 x rfl p h
    · rename_i z
      refine ⟨List.pairwise_cons.mpr ⟨fun p h => i2 x rfl p h, i1⟩, fun q e p h => ?_⟩
      have qx := up q e fun w => z (by rw [e, w])
      rcases List.mem_cons.mp h with rfl | h
      · exact qx
      · exact Pt.tr' qx (i2 x rfl p h)
theorem srt_uniq : ∀ {xs ys : List Pt}, Srt Pt.lt xs → Srt Pt.lt ys → (∀ p, p ∈ xs ↔ p ∈ ys) → xs = ys
  | [], [], _, _, _ => rfl
  | [], y :: ys, _, _, h => absurd ((h y).mpr (by simp)) (by simp)
  | x :: xs, [], _, _, h => absurd ((h x).mp (by simp)) (by simp)
  | x :: xs, y :: ys, h1, h2, h => by
    have p1 := List.pairwise_cons.mp h1
    have p2 := List.pairwise_cons.mp h2
    have e : x = y := by
      rcases List.mem_cons.mp ((h x).mp (by simp)) with w | w
      · exact w
      · rcases List.mem_cons.mp ((h y).mpr (by simp)) with w' | w'
        · exact w'.symm
        · exact absurd (Pt.tr' (p1.1 y w') (p2.1 x w)) (Pt.ori.ir x)
    subst e
    rw [srt_uniq p1.2 p2.2 fun p => ?_]
    have hp := h p
    simp only [List.mem_cons] at hp
    constructor
    · intro m
      rcases hp.mp (.inr m) with w | w
      · subst w; exact absurd (p1.1 _ m) (Pt.ori.ir _)
      · exact w
    · intro m
      rcases hp.mpr (.inr m) with w | w
      · subst w; exact absurd (p2.1 _ m) (Pt.ori.ir _)
      · exact w
theorem once_mem_iff {ps : List Pt} {p : Pt} : p ∈ onceL (ascL ps) ↔ p ∈ ps := by
  refine ⟨fun h => asc_mem.mp (once_sub h), fun h => ?_⟩
  rcases once_mem (l := none) (asc_mem.mpr h) with w | w
  · exact w
  · cases w
end PH

/-! What the defs that make hulls promise. -/
namespace PH
open PySem PySem.Spec L2

theorem once_eq (ps : List Pt) : onceL (ascL ps) = ordT Pt.lt ps :=
  srt_uniq (once_srt (asc_srt ps) fun q e => by cases e).1 (pord_srt ps) fun p => by rw [once_mem_iff, pord_mem]
/-- places in a list or a tuple -/
def PsS (b : Bool) (n : Nat) (ds : List D) (ps : List Pt) : Prop := ds = [seqD b (ps.map pD)] ∧ (∃ k, k ≤ 1000 ∧ ∀ p ∈ ps, PB k p) ∧ ps.length ≤ n
def fineP (ps : List Pt) : Int := maxI 1 (ps.map Pt.d) * maxI 1 (ps.map Pt.d)
def spFine : DSp := fun ds Q => ∃ (b : Bool) (ps : List Pt), PsS b 1000 ds ps ∧ Q (.int (fineP ps))
def spKey : DSp := fun ds Q => ∃ (p : Pt) (f : Int) (k : Nat), ds = [pD p, .int f] ∧ PB k p ∧ Bd (2 * k + 2) f ∧ k ≤ 1000 ∧ Q (keyP f (pD p))
def spAsc : DSp := fun ds Q => ∃ (b : Bool) (ps : List Pt), PsS b 1000 ds ps ∧ Q (.list ((ascL ps).map pD))
def spLeft : DSp := fun ds Q => ∃ ps : List Pt, PsOk 1000 ds ps ∧ Q (.list ((chainL Pt.o ps).map pD))
def spHullX : DSpX := fun ds Q Ed => (∃ (b : Bool) (ps : List Pt), PsS b 1000 ds ps ∧ ps ≠ [] ∧ Q (.tuple ((hullP ps).map pD))) ∨ ((∃ b, ds = [seqD b []]) ∧ Ed "NoPlaces")
theorem fine_bd {k : Nat} {ps : List Pt} (h : ∀ p ∈ ps, PB k p) : Bd (k + 1) (maxI 1 (ps.map Pt.d)) := by
  by_cases e : ps = []
  · subst e
    exact (show Bd 1 (maxI 1 []) from ⟨by decide⟩).mono (by omega)
  · have := maxI_mem (d := 1) (ns := ps.map Pt.d) (by simpa using e)
    obtain ⟨p, hp, e2⟩ := List.mem_map.mp this
    rw [← e2]
    exact (h p hp).2.2.mono (by omega)
theorem fine_ge {ps : List Pt} : ∀ p ∈ ps, p.d ≤ maxI 1 (ps.map Pt.d) := fun p hp => maxI_ge (List.mem_map_of_mem hp)
theorem asc_key {ps : List Pt} : (ps.map pD).mergeSort (PySem.W.dataLe false (keyP (fineP ps))) = (ascL ps).map pD := asc_data fine_ge
theorem dItS_m {b : Bool} {m : DE} {σd : DSt} {xs : List D} {R : List D → Prop} (hm : ∀ Q : D → Prop, Q (seqD b xs) → m σd Q) (h : R xs) : dItS m σd R := by
  cases b with
  | true => exact .inl (hm _ h)
  | false => exact .inr (hm _ h)
theorem keys_ok {f : Int} (ps : List Pt) : PySem.W.AllAlike ((ps.map pD).map (keyP f)) ∧ PySem.W.Sortable ((ps.map pD).map (keyP f)) ∧ ∀ x ∈ ps.map pD, noS (keyP f x) = true ∧ (keyP f x).depth ≤ 60 := by
  refine ⟨?_, .inl ?_, ?_⟩
  · rintro d hd d' hd'
    simp only [List.map_map, List.mem_map, Function.comp] at hd hd'
    obtain ⟨p, _, rfl⟩ := hd
    obtain ⟨q, _, rfl⟩ := hd'
    simp [keyP, PySem.W.alike, PySem.W.alikeAll]
  · rintro d hd
    simp only [List.map_map, List.mem_map, Function.comp] at hd
    obtain ⟨p, _, rfl⟩ := hd
    exact ⟨_, _, rfl⟩
  · rintro d hd
    obtain ⟨p, _, rfl⟩ := List.mem_map.mp hd
    simp [keyP, noS, noSs, PyData.depth, PyData.depthAll]
theorem dSort_seq {b : Bool} {m me : DE} {js : List Nat} {σd : DSt} {es : List D} {Q : List D → Prop} (hm : ∀ R : D → Prop, R (seqD b es) → m σd R) (h : sKey js me σd es Q) : dSortK m js me σd Q := hm _ (by cases b <;> exact h)
/-- what differs from the one ahead of it -/
def newAt (R : List Pt) (i : Nat) (x : Pt) : Prop := i = 0 ∨ R[i - 1]? ≠ some x
theorem once_step {R : List Pt} {i : Nat} {x : Pt} (h : R[i]? = some x) : (newAt R i x → onceL (R.take (i + 1)) = onceL (R.take i) ++ [x]) ∧ (¬ newAt R i x → onceL (R.take (i + 1)) = onceL (R.take i)) := by
  have hi : i < R.length := (List.getElem?_eq_some_iff.mp h).1
  have e1 : R.take (i + 1) = R.take i ++ [x] := by rw [List.take_add_one, h]; rfl
  cases i with
  | zero =>
    rw [e1]
    refine ⟨fun _ => by simp [onceL, onceF], fun n => absurd (.inl rfl) n⟩
  | succ j =>
    have hj : R[j]? = some R[j] := List.getElem?_eq_getElem (by omega)
    have e2 : R.take (j + 1) = R.take j ++ [R[j]] := by rw [List.take_add_one, hj]; rfl
    have e3 : R.take (j + 1 + 1) = R.take j ++ [R[j], x] := by rw [e1, e2, List.append_assoc]; rfl
    rw [e3, e2]
    have := onceF_app R[j] x none (R.take j)
    unfold onceL
    rw [this]
    unfold newAt
    rw [show j + 1 - 1 = j from rfl, hj]
    refine ⟨fun n => ?_, fun n => ?_⟩
    · rw [if_neg]
      rcases n with n | n
      · omega
      · exact fun z => n (by rw [z])
    · rw [if_pos, List.append_nil]
      by_cases z : R[j] = x
      · exact z
      · exact absurd (.inr fun w => z (Option.some.inj w)) n
theorem dLcc_once {mi : DA} {g : DG} {mt : DT} {me : DE} {vs : List Nat} {σd : DSt} {Q : List D → Prop} (R : List Pt) (hi : ∀ P : List D → Prop, P (enumD (R.map pD)) → mi σd P) (hl : R.length ≤ 1000000)
    (h : ∀ (i : Nat) (x : Pt), R[i]? = some x → ∀ (Q1 : D → Prop) (Q0 : Prop), (newAt R i x → Q1 (pD x)) → (¬ newAt R i x → Q0) → g (.tuple [.int (i : Int), pD x]) (dwipe (clean σd) vs) fun σ2 => mt σ2 fun b => if b = true then me σ2 Q1 else Q0)
    (hq : Q ((onceL R).map pD)) : dLcc mi g mt me vs σd Q := by
  refine hi _ ⟨by rw [enumD_len, List.length_map]; exact hl, fun i acc => acc = (onceL (R.take i)).map pD, by simp [onceL, onceF], fun i y acc hy _ w => ?_, fun acc w => ?_⟩
  · have hi : i < R.length := by
      have := (List.getElem?_eq_some_iff.mp hy).1
      rwa [enumD_len, List.length_map] at this
    have hx : R[i]? = some R[i] := List.getElem?_eq_getElem hi
    have hy' := enumD_get (xs := R.map pD) (i := i) (x := pD R[i]) (by rw [List.getElem?_map, hx]; rfl)
    rw [hy] at hy'
    cases hy'
    obtain ⟨s1, s2⟩ := once_step hx
    subst w
    refine h i R[i] hx _ _ (fun n => ?_) (fun n => ?_)
    · show (onceL (R.take i)).map pD ++ [pD R[i]] = (onceL (R.take (i + 1))).map pD
      rw [s1 n, List.map_append]; rfl
    · show (onceL (R.take i)).map pD = (onceL (R.take (i + 1))).map pD
      rw [s2 n]
  · rw [enumD_len, List.length_map, List.take_length] at w
    rw [w]; exact hq
/-- any order of things -/
def spAny : DSp := fun ds Q => ∃ (b : Bool) (xs : List D), ds = [SRC, seqD b xs] ∧ xs.length ≤ 1000 ∧ ∀ ys : List D, ys.Perm xs → Q (.list ys)
theorem erase_perm : ∀ {rest : List D} {n : Nat} {d : D}, rest[n]? = some d → (d :: rest.eraseIdx n).Perm rest
  | x :: r, 0, d, h => by
    simp at h; subst h
    exact List.Perm.refl _
  | x :: r, n + 1, d, h => by
    have := erase_perm (rest := r) (n := n) (by simpa using h)
    exact (List.Perm.swap x d (r.eraseIdx n)).trans (this.cons x)
theorem any_step {xs acc rest : List D} {n : Nat} {d : D} (h : (acc ++ rest).Perm xs) (hd : rest[n]? = some d) : ((acc ++ [d]) ++ rest.eraseIdx n).Perm xs := by
  have p := erase_perm hd
  rw [List.append_assoc]
  exact ((p.append_left acc)).trans h
def spRefused : DSp := fun ds Q => ds = [] ∧ Q (.bool true)
end PH

/-! A drawn list that a call hands out, kept to be changed; a list read in an assignment and changed behind. -/
namespace PH
open PySem PySem.Spec L2
open PyProof.Rows (envOfC AllBare IntsAre)

/-- no list in it, or the source -/
def argF (d : D) : Prop := listFree d = true ∨ d = SRC
theorem Dq.af {S : Sr} {M M' : Addr → Prop} {H : Hp} (hM : ∀ b, M' b → M b ∨ ∃ xs, H b = some (.lst xs)) {d : D} {v : V} (q : Dq S M H v d) (h : argF d) : Dq S M' H v d := by
  rcases h with h | h
  · exact q.lf hM h
  · subst h
    cases q with
    | src e => exact .src e
theorem Dqs.af {S : Sr} {M M' : Addr → Prop} {H : Hp} (hM : ∀ b, M' b → M b ∨ ∃ xs, H b = some (.lst xs)) : ∀ {ds : List D} {vs : List V}, Dqs S M H vs ds → (∀ d ∈ ds, argF d) → Dqs S M' H vs ds
  | _, _, .nil, _ => .nil
  | _, _, .cons a b, h => .cons (a.af hM (h _ (by simp))) (Dqs.af hM b fun d hd => h d (by simp [hd]))
/-- the call's list is new, whatever it holds -/
theorem lf_callQ {n : Nat} {spd : DSp} {tA : TA} {mA : DA} (hA : LA n tA mA) {S : Sr} {M : Addr → Prop} {H0 H : Hp} {σ : L2.St} {σd : DSt} {R : List D → Prop} {Q : VK} (E : Ev S M H0 H σ σd)
    (hm : mA σd fun ds => (∀ d ∈ ds, argF d) ∧ spd ds fun d => ∃ es, d = .list es ∧ listFrees es = true ∧ R es)
    (k : ∀ (es : List D) (a : Addr) (xs : List V) (H' : Hp), R es → H a = none → KeepS S H H' → Ev S M H0 H' σ σd → H' a = some (.lst xs) → Dqs S (fun b => MO M σd b ∨ b = a) H' xs es → Q (.ref a) H') : tCallG (SpD n spd) tA σ H Q := by
  refine hA S M H0 H σ σd _ _ E hm fun ds vs HA q EA kA rA hlen => ?_
  let M1 : Addr → Prop := fun b => MO M σd b ∨ ∃ xs, HA b = some (.lst xs)
  have so : SrcOk S M1 HA := EA.src.more fun _ z => .inl (.inl z)
  have mt1 : ∀ a, M1 a → HA a ≠ none := fun a h => by
    rcases h with h | ⟨xs, h⟩
    · exact EA.mtO a h
    · rw [h]; exact fun z => nomatch z
  refine ⟨S, M1, ds, _, mt1, so, rA.af (fun b z => z) q.1, hlen, q.2, fun d v H' qd k' s' r' => ?_⟩
  obtain ⟨es, rfl, hl, hR⟩ := qd
  cases r' with
  | @lst a xs _ na e r =>
    have hsrc : ∀ p c, S = some (p, c) → a ≠ p ∧ a ≠ c := fun p c e' => by
      obtain ⟨h1, h2, _⟩ := so.go p c e'
      exact ⟨fun z => na (z ▸ h1), fun z => na (z ▸ h2)⟩
    have an : HA a = none := by
      cases z : HA a with
      | none => rfl
      | some o =>
        rcases k' a o z hsrc with this | ⟨_, _, _, this⟩
        · rw [e] at this
          cases this
          exact absurd (.inr ⟨xs, z⟩) na
        · rw [e] at this
          cases this
    have E' := EA.ext k' (EA.src.at s')
    refine k es a xs H' hR (fresh_back E kA an EA.src) (kA.trans k') E' e (r.lf (fun b z => ?_) hl)
    rcases z with z | z
    · exact .inl (.inl z)
    · exact .inr ⟨xs, by rw [z]; exact e⟩
section
variable {X : Cx} {Wx : WX}
/-- x = g(..), drawn; x is changed behind -/
def dOwnQ (i : Nat) (spG : DSp) (mB : DA) : DS := fun Dd σd => mB σd fun ds => (∀ d ∈ ds, argF d) ∧ spG ds fun d => ∃ es, d = .list es ∧ listFrees es = true ∧ ∀ p, Dd.nx (σd.set i (Sl.own p es))
theorem ls_ownQ {i nG : Nat} {spG : DSp} {tB : TA} {mB : DA} (hB : LA nG tB mB) : LS Wx (tAsg (tCallG (SpD nG spG) tB) (gName i)) (dOwnQ i spG mB) := by
  intro S M H0 H σ σd Dd Dn E hm r
  unfold tAsg
  refine lf_callQ (R := fun es => ∀ p, Dd.nx (σd.set i (Sl.own p es))) hB E hm fun es a xs H2 hR f2 k2 E2 e2 r2 => ?_
  exact r.1 _ _ _ (hR a) (E2.own E k2 f2 e2 r2)
theorem psd_ownQ {i k jG : Nat} {x xG : Str} {psG : List Str} {spG : DSp} {eB : Expr} {esB : List Expr} {px pG posG pos : Pos} {mB : DA} (DG : DefOk X.prog X.w X.K X.mg X.base jG xG psG spG) (hr : Room k X.A) (hjG : jG ≤ k) (hgu : X.A.guards = some [])
    (hN : X.N.Nodup) (hi : X.N[i]? = some x) (hx : Loc X.env.scope x) (hB : PDA X (eB :: esB) psG.length mB)
    (gG : Gl X xG := by rfl) (dG : (xG == ("__debug__" : Str)) = false := by decide)
    (hsG : starEach (eB :: esB) X.env = (false, eval eB X.env) :: starEach esB X.env := by rfl) (hpG : (backTo posG (starEach esB X.env)).any (·.1) = false := by rfl)
    (hs : swapsWith (.Call (.Name xG pG) (eB :: esB) [] posG) (some (.Name x px)) pos.line X.env = pure false := by rfl)
    (hf : X.fn x = true ∨ X.env.scope.names.lookup x = some .local := by first | exact .inl rfl | exact .inr rfl) :
    PDS Wx X (.Assign [.Name x px] (.Call (.Name xG pG) (eB :: esB) [] posG) pos) (dOwnQ i spG mB) := by
  obtain ⟨fG, fdG, hmG, kpG, hbG, FG⟩ := DG
  obtain ⟨tB, hB, lB⟩ := hB
  exact ⟨_, ps_set hN hi hx (pe_callG FG (hr.mono hjG) hgu gG hmG kpG hbG hB dG hsG hpG) hs hf, ls_ownQ lB⟩
/-- targets = a new list, one's own list x read in it -/
def dAsgN (i : Nat) (m : DA) (g : DG) : DS := fun Dd σd => ∃ a ds, σd[i]? = some (Sl.own a ds) ∧ m (σd.set i (.val (.list ds))) fun es => listFrees es = true ∧ g (.list es) σd Dd.nx
theorem ls_asgN {i : Nat} {t : TE} {m : DA} {g : TG} {dg : DG} (h : LN t m) (hg : LG g dg) : LS Wx (tAsg t g) (dAsgN i m dg) := by
  intro S M H0 H σ σd Dd Dn E hm r
  obtain ⟨a, ds, hs, hm⟩ := hm
  unfold tAsg
  refine h S M H0 H σ _ _ _ (E.frz hs) hm fun es p xs H1 q Ef k1 hp ep rs => ?_
  have E1 : Ev S M H0 H1 σ σd := E.ext k1 Ef.src
  obtain ⟨o, _, eo, ys, hy, _⟩ := E.slot hs
  have ha1 : ∃ ys, H1 a = some (.lst ys) := ⟨ys, k1.k a _ hy (E.ownNe (List.mem_of_getElem? hs))⟩
  have np : ¬ MO M σd p := fun z => E.mtO p z hp
  have sub : ∀ b, MO M σd b → (MO M (σd.set i (.val (.list ds))) b ∨ b = p) ∨ ∃ xs, H1 b = some (.lst xs) := fun b hb => by
    rcases hb with hb | ⟨es', hb⟩
    · exact .inl (.inl (.inl hb))
    · obtain ⟨j, hj⟩ := List.getElem?_of_mem hb
      obtain ⟨o', _, eo', ys', hy', _⟩ := E1.slot hj
      exact .inr ⟨ys', hy'⟩
  exact hg S M H0 H1 σ σd (.ref p) (.list es) _ _ E1 (.lst np ep (rs.lf sub q.1)) q.2 fun σd' σ' q' E2 => r.1 σd' σ' H1 q' E2
theorem psd_asgN {tg e : Expr} {dg : DG} {m : DA} {pos : Pos} (i : Nat) (he : PDN X e m) (hg : PDG X tg dg) (hs : swapsWithSole [tg] e pos.line X.env = pure false := by rfl) (hw : swappedStores [tg] e X.env = pure none := by rfl)
    (h1 : (assignEach [tg] X.env).map (·.2) = [assign tg X.env] := by rfl) : PDS Wx X (.Assign [tg] e pos) (dAsgN i m dg) := let ⟨_, h2, l2⟩ := he; let ⟨_, h3, l3⟩ := hg; ⟨_, ps_asg h2 h3 hs hw h1, ls_asgN l2 l3⟩
end
end PH

/-! A chain is the only one: what is told by its sides and turns. -/
namespace PH
section
variable {α : Type}
/-- a chain of S in order, its first one first -/
structure Up (R : α → α → Prop) (o : α → α → α → Int) (S : α → Prop) (c : List α) : Prop where
  sub : ∀ x ∈ c, S x
  asc : c.Pairwise R
  left : ∀ u v, (u, v) ∈ nx c → ∀ q, S q → 0 ≤ o u v q
  conv : ∀ a b d, [a, b, d] <:+: c → 0 < o a b d
  top : ∀ q, S q → ∃ m, c.getLast? = some m ∧ (q = m ∨ R q m)
variable {R : α → α → Prop} {o : α → α → α → Int} {S : α → Prop}
theorem Up.tail {a b : α} {r : List α} (U : Up R o S (a :: b :: r)) : Up R o S (b :: r) :=
  ⟨fun x hx => U.sub x (List.mem_cons_of_mem _ hx), (List.pairwise_cons.mp U.asc).2, fun u v h => U.left u v (by rw [nx_cons]; exact List.mem_cons_of_mem _ h), fun x y d h => U.conv x y d (h.trans (List.infix_cons (List.infix_refl _))), fun q hq => by
    obtain ⟨m, h1, h2⟩ := U.top q hq
    rw [List.getLast?_cons_cons] at h1
    exact ⟨m, h1, h2⟩⟩
/-- beyond b on the ray from a through b nothing is left of the next side -/
theorem ray_no (O : Ori R o) {a b p n : α} (ab : R a b) (bp : R b p) (bn : R b n) (h0 : o a b p = 0) (hn : 0 < o a b n) (hl : 0 ≤ o b n p) : False := by
  rcases O.tot n p with np | rfl | pn
  · obtain ⟨s1, s2, s3, s4, s5, s6, p1, p2, p3, p4, p5, p6, i1, i2, i3, i4⟩ := O.four ab bn np
    -- a < b < n < p
    have w1 := Int.mul_pos hn p5
    have w2 := Int.mul_nonneg hl (show (0 : Int) ≤ s1 by omega)
    rw [h0, Int.zero_mul] at i3
    omega
  · omega
  · obtain ⟨s1, s2, s3, s4, s5, s6, p1, p2, p3, p4, p5, p6, i1, i2, i3, i4⟩ := O.four ab bp pn
    -- a < b < p < n
    have hs : o b n p = -o b p n := O.sw b p n
    have w1 := Int.mul_pos hn p4
    have w2 := Int.mul_nonneg (show 0 ≤ -o b p n by omega) (show (0 : Int) ≤ s1 by omega)
    rw [h0, Int.zero_mul, Int.add_zero] at i3
    rw [Int.neg_mul] at w2
    omega
theorem up_uniq (O : Ori R o) : ∀ (a : α) (r1 r2 : List α), Up R o S (a :: r1) → Up R o S (a :: r2) → r1 = r2
  | a, [], [], _, _ => rfl
  | a, [], b :: r, U1, U2 => by
    exfalso
    have ab := (List.pairwise_cons.mp U2.asc).1 b (by simp)
    obtain ⟨m, h1, h2⟩ := U1.top b (U2.sub b (by simp))
    simp at h1; subst h1
    rcases h2 with rfl | h2
    · exact O.ir _ ab
    · exact O.ir _ (O.tr ab h2)
  | a, b :: r, [], U1, U2 => by
    exfalso
    have ab := (List.pairwise_cons.mp U1.asc).1 b (by simp)
    obtain ⟨m, h1, h2⟩ := U2.top b (U1.sub b (by simp))
    simp at h1; subst h1
    rcases h2 with rfl | h2
    · exact O.ir _ ab
    · exact O.ir _ (O.tr ab h2)
  | a, b1 :: r1, b2 :: r2, U1, U2 => by
    have key : ∀ {b1 b2 : α} {r1 r2 : List α}, Up R o S (a :: b1 :: r1) → Up R o S (a :: b2 :: r2) → ¬ R b1 b2 := by
      intro b1 b2 r1 r2 U1 U2 h
      have ab := (List.pairwise_cons.mp U1.asc).1 b1 (by simp)
      have l1 := U1.left a b1 (by rw [nx_cons]; simp) b2 (U2.sub b2 (by simp))
      have l2 := U2.left a b2 (by rw [nx_cons]; simp) b1 (U1.sub b1 (by simp))
      rw [O.sw] at l2
      have h0 : o a b1 b2 = 0 := by omega
      cases r1 with
      | nil =>
        obtain ⟨m, h1, h2⟩ := U1.top b2 (U2.sub b2 (by simp))
        simp at h1; subst h1
        rcases h2 with rfl | h2
        · exact O.ir _ h
        · exact O.ir _ (O.tr h h2)
      | cons n r1 =>
        have bn := (List.pairwise_cons.mp (List.pairwise_cons.mp U1.asc).2).1 n (by simp)
        have hn := U1.conv a b1 n ⟨[], r1, by simp⟩
        have hl := U1.left b1 n (by rw [nx_cons, nx_cons]; simp) b2 (U2.sub b2 (by simp))
        exact ray_no O ab h bn h0 hn hl
    have e : b1 = b2 := by
      rcases O.tot b1 b2 with h | h | h
      · exact absurd h (key U1 U2)
      · exact h
      · exact absurd h (key U2 U1)
    subst e
    rw [up_uniq O b1 r1 r2 U1.tail U2.tail]
theorem up_of (O : Ori R o) {ps : List α} (h : ps ≠ []) (hp : ps.Pairwise R) : Up R o (· ∈ ps) (chainL o ps) := by
  obtain ⟨C, h1, h2⟩ := chain_ok O ps h hp
  unfold chainL
  refine ⟨fun x hx => C.mem x (List.mem_reverse.mp hx), List.pairwise_reverse.mpr C.des, fun u v hu q hq => C.left u v ((nx_rev (o := o) _ u v).mp hu) q hq, fun a b d hi => C.conv d b a ?_, fun q hq => ?_⟩
  · have := List.reverse_infix.mpr hi
    simpa using this
  · rw [List.getLast?_reverse, h1]
    obtain ⟨ys, m, rfl⟩ : ∃ ys m, ps = ys ++ [m] := ⟨ps.dropLast, ps.getLast h, (List.dropLast_concat_getLast h).symm⟩
    refine ⟨m, by simp, ?_⟩
    rcases List.mem_append.mp hq with y | y
    · exact .inr ((List.pairwise_append.mp hp).2.2 q y m (by simp))
    · exact .inl (by simpa using y)
/-- whoever is a chain of the places is their chain -/
theorem chain_uniq (O : Ori R o) {ps c : List α} (hp : ps.Pairwise R) (U : Up R o (· ∈ ps) c) (hh : c.head? = ps.head?) : chainL o ps = c := by
  cases c with
  | nil =>
    cases ps with
    | nil => rfl
    | cons p r => simp at hh
  | cons a r =>
    have hne : ps ≠ [] := fun z => by rw [z] at hh; simp at hh
    have V := up_of O hne hp
    obtain ⟨C, h1, h2⟩ := chain_ok O ps hne hp
    have h3 : (chainL o ps).head? = some a := by
      unfold chainL
      rw [List.head?_reverse, h2, ← hh]; rfl
    cases e : chainL o ps with
    | nil => rw [e] at h3; simp at h3
    | cons b s =>
      rw [e] at h3 V
      simp at h3
      subst h3
      rw [up_uniq O b s r V U]
end
end PH

/-! Hulls of hulls: the same corners; no corner can be left out. -/
namespace PH
section
variable {α : Type} {R : α → α → Prop} {o : α → α → α → Int}
theorem head_low (O : Ori R o) {qs : List α} (hq : qs.Pairwise R) {m : α} (hm : m ∈ qs) (low : ∀ q ∈ qs, q = m ∨ R m q) : qs.head? = some m := by
  cases qs with
  | nil => cases hm
  | cons a r =>
    rcases List.mem_cons.mp hm with rfl | h
    · rfl
    · have h1 := (List.pairwise_cons.mp hq).1 m h
      rcases low a (by simp) with rfl | h2
      · rfl
      · exact absurd (O.tr h1 h2) (O.ir a)
theorem chain_ends (O : Ori R o) {ps : List α} (h : ps ≠ []) (hp : ps.Pairwise R) : (chainL o ps).head? = ps.head? ∧ (chainL o ps).getLast? = ps.getLast? := by
  obtain ⟨C, h1, h2⟩ := chain_ok O ps h hp
  unfold chainL
  exact ⟨by rw [List.head?_reverse, h2], by rw [List.getLast?_reverse, h1]⟩
theorem chain_same (O : Ori R o) {ps qs : List α} (h : ps ≠ []) (hp : ps.Pairwise R) (hq : qs.Pairwise R) (sub : ∀ x ∈ chainL o ps, x ∈ qs) (left : ∀ u v, (u, v) ∈ nx (chainL o ps) → ∀ q ∈ qs, 0 ≤ o u v q)
    (low : ∀ m, ps.head? = some m → ∀ q ∈ qs, q = m ∨ R m q) (top : ∀ m, ps.getLast? = some m → ∀ q ∈ qs, q = m ∨ R q m) : chainL o qs = chainL o ps := by
  have U := up_of O h hp
  obtain ⟨e1, e2⟩ := chain_ends O h hp
  obtain ⟨m, hm⟩ : ∃ m, ps.head? = some m := by cases ps with | nil => exact absurd rfl h | cons a b => exact ⟨a, rfl⟩
  obtain ⟨M, hM⟩ : ∃ m, ps.getLast? = some m := ⟨_, List.getLast?_eq_getLast h⟩
  refine chain_uniq O hq ⟨sub, U.asc, left, U.conv, fun q hq' => ⟨M, by rw [e2, hM], top M hM q hq'⟩⟩ ?_
  rw [e1, hm]
  exact (head_low O hq (sub m (List.mem_of_head? (by rw [e1, hm]))) (low m hm)).symm
/-- what is said of both chains -/
structure Both (R : α → α → Prop) (o : α → α → α → Int) (ps qs : List α) : Prop where
  sub : ∀ x, (x ∈ chainL o ps ∨ x ∈ chainL o ps.reverse) → x ∈ qs
  left : ∀ u v, ((u, v) ∈ nx (chainL o ps) ∨ (u, v) ∈ nx (chainL o ps.reverse)) → ∀ q ∈ qs, 0 ≤ o u v q
  low : ∀ m, ps.head? = some m → ∀ q ∈ qs, q = m ∨ R m q
  top : ∀ m, ps.getLast? = some m → ∀ q ∈ qs, q = m ∨ R q m
theorem hull_same (O : Ori R o) {ps qs : List α} (h : ps ≠ []) (hp : ps.Pairwise R) (hq : qs.Pairwise R) (B : Both R o ps qs) : hullL o qs = hullL o ps := by
  have e1 := chain_same O h hp hq (fun x hx => B.sub x (.inl hx)) (fun u v hu => B.left u v (.inl hu)) B.low B.top
  have e2 := chain_same (R := fun a b => R b a) (ps := ps.reverse) (qs := qs.reverse) O.flip (fun z => h (List.reverse_eq_nil_iff.mp z)) (List.pairwise_reverse.mpr hp) (List.pairwise_reverse.mpr hq)
    (fun x hx => List.mem_reverse.mpr (B.sub x (.inr hx))) (fun u v hu q hq' => B.left u v (.inr hu) q (List.mem_reverse.mp hq'))
    (fun m hm q hq' => B.top m (by rwa [List.head?_reverse] at hm) q (List.mem_reverse.mp hq')) (fun m hm q hq' => B.low m (by rwa [List.getLast?_reverse] at hm) q (List.mem_reverse.mp hq'))
  unfold hullL
  rw [e1, e2]
/-- all of both chains are corners -/
theorem chain_in_hull (O : Ori R o) {ps : List α} (hl : 2 ≤ ps.length) (hp : ps.Pairwise R) {x : α} (hx : x ∈ chainL o ps ∨ x ∈ chainL o ps.reverse) : x ∈ hullL o ps := by
  have ne : ps ≠ [] := fun z => by rw [z] at hl; simp at hl
  have ne' : ps.reverse ≠ [] := fun z => ne (List.reverse_eq_nil_iff.mp z)
  obtain ⟨a1, a2⟩ := chain_ends O ne hp
  obtain ⟨b1, b2⟩ := chain_ends O.flip ne' (List.pairwise_reverse.mpr hp)
  rw [List.head?_reverse] at b1
  rw [List.getLast?_reverse] at b2
  -- first and last one differ, so that both chains have two at least
  have hne : ps.head? ≠ ps.getLast? := by
    match ps, hl, hp with
    | p :: q :: r, _, hp =>
      intro z
      rw [List.getLast?_cons_cons] at z
      simp only [List.head?_cons] at z
      have := (List.pairwise_cons.mp hp).1 p (List.mem_of_getLast? z.symm)
      exact O.ir _ this
  have two : ∀ c : List α, c.head? ≠ c.getLast? → ∀ x ∈ c, x ∈ c.dropLast ∨ c.getLast? = some x := fun c _ x hx => by
    by_cases z : c = []
    · rw [z] at hx; cases hx
    · have e := List.dropLast_concat_getLast z
      rw [← e] at hx
      rcases List.mem_append.mp hx with y | y
      · exact .inl y
      · right
        rw [List.getLast?_eq_getLast z]
        simp at y
        rw [y]
  have hd : ∀ c : List α, c.head? ≠ c.getLast? → ∀ x, c.head? = some x → x ∈ c.dropLast := fun c hc x hx => by
    match c, hc, hx with
    | [a], hc, _ => exact absurd rfl hc
    | a :: b :: r, _, hx =>
      simp at hx; subst hx
      simp [List.dropLast]
  have n1 : (chainL o ps).head? ≠ (chainL o ps).getLast? := by rw [a1, a2]; exact hne
  have n2 : (chainL o ps.reverse).head? ≠ (chainL o ps.reverse).getLast? := by rw [b1, b2]; exact fun z => hne z.symm
  unfold hullL
  rw [List.mem_append]
  rcases hx with hx | hx
  · rcases two _ n1 x hx with y | y
    · exact .inl y
    · exact .inr (hd _ n2 x (by rw [b1, ← a2]; exact y))
  · rcases two _ n2 x hx with y | y
    · exact .inr y
    · exact .inl (hd _ n1 x (by rw [a1, ← b2]; exact y))
theorem hull_sub (O : Ori R o) {ps : List α} (hl : 2 ≤ ps.length) (hp : ps.Pairwise R) : ∀ x ∈ hullL o ps, x ∈ ps := (hull_ok O hl hp).mem
/-- the sides of both chains are those of the hull -/
theorem nx_dropLast {c : List α} {M : α} (h : c.getLast? = some M) : c = c.dropLast ++ [M] := by
  have z : c ≠ [] := fun w => by rw [w] at h; simp at h
  rw [List.getLast?_eq_getLast z] at h
  rw [← Option.some.inj h]
  exact (List.dropLast_concat_getLast z).symm
theorem sides_hull (O : Ori R o) {ps : List α} (hl : 2 ≤ ps.length) (hp : ps.Pairwise R) {u v : α} (h : (u, v) ∈ nx (chainL o ps) ∨ (u, v) ∈ nx (chainL o ps.reverse)) : (u, v) ∈ nx (hullL o ps ++ (hullL o ps).take 1) := by
  have ne : ps ≠ [] := fun z => by rw [z] at hl; simp at hl
  have ne' : ps.reverse ≠ [] := fun z => ne (List.reverse_eq_nil_iff.mp z)
  obtain ⟨a1, a2⟩ := chain_ends O ne hp
  obtain ⟨b1, b2⟩ := chain_ends O.flip ne' (List.pairwise_reverse.mpr hp)
  rw [List.head?_reverse] at b1
  rw [List.getLast?_reverse] at b2
  obtain ⟨m, hm⟩ : ∃ m, ps.head? = some m := by cases ps with | nil => exact absurd rfl ne | cons a b => exact ⟨a, rfl⟩
  obtain ⟨M, hM⟩ : ∃ m, ps.getLast? = some m := ⟨_, List.getLast?_eq_getLast ne⟩
  rw [hm] at a1 b2; rw [hM] at a2 b1
  have e1 := nx_dropLast a2
  have e2 := nx_dropLast b2
  have mi : ∀ x, (x ∈ chainL o ps ∨ x ∈ chainL o ps.reverse) → x ∈ hullL o ps := fun x hx => chain_in_hull O hl hp hx
  have hne : m ≠ M := fun z => by
    match ps, hl, hp, hm, hM with
    | p :: q :: r, _, hp, hm, hM =>
      rw [List.getLast?_cons_cons] at hM
      simp at hm
      have := (List.pairwise_cons.mp hp).1 M (List.mem_of_getLast? hM)
      rw [hm, z] at this
      exact O.ir _ this
  unfold hullL
  generalize hL : (chainL o ps).dropLast = L at e1
  generalize hU : (chainL o ps.reverse).dropLast = U at e2
  rw [e1] at a1; rw [e2] at b1
  obtain ⟨L', rfl⟩ : ∃ L', L = m :: L' := by
    cases L with
    | nil => simp at a1; exact absurd a1.symm hne
    | cons a L' => simp at a1; exact ⟨L', by rw [a1]⟩
  obtain ⟨U', rfl⟩ : ∃ U', U = M :: U' := by
    cases U with
    | nil => simp at b1; exact absurd b1 hne
    | cons a U' => simp at b1; exact ⟨U', by rw [b1]⟩
  have et : ((m :: L') ++ (M :: U')).take 1 = [m] := by simp
  rw [et, List.append_assoc]
  have ex : nx ((m :: L') ++ ((M :: U') ++ [m])) = nx ((m :: L') ++ [M]) ++ nx ((M :: U') ++ [m]) := by
    have := nx_app (m :: L') M (U' ++ [m])
    simpa using this
  rw [ex, List.mem_append, ← e1, ← e2]
  exact h
end
end PH

/-! The hull of places: of any order, of its corners; each corner is needed. -/
namespace PH
theorem head_ne_last {α : Type} {xs : List α} (nd : xs.Nodup) (hl : 2 ≤ xs.length) {a z : α} (ha : xs.head? = some a) (hz : xs.getLast? = some z) : a ≠ z := by
  match xs, nd, hl, ha, hz with
  | x :: y :: r, nd, _, ha, hz =>
    rw [List.getLast?_cons_cons] at hz
    simp only [List.head?_cons, Option.some.injEq] at ha
    subst ha
    intro e
    subst e
    exact (List.nodup_cons.mp nd).1 (List.mem_of_getLast? hz)
/-- a corner's neighbours -/
theorem nbrs {α : Type} {G : List α} (nd : G.Nodup) (hl : 3 ≤ G.length) {x : α} (hx : x ∈ G) : ∃ y z, (x, y) ∈ nx (G ++ G.take 1) ∧ (z, x) ∈ nx (G ++ G.take 1) ∧ y ≠ z := by
  obtain ⟨A, B, rfl⟩ := List.append_of_mem hx
  have nA := (List.nodup_append.mp nd).1
  have nB := (List.nodup_cons.mp (List.nodup_append.mp nd).2.1).2
  have nAB := (List.nodup_append.mp nd).2.2
  have two : ∀ (w : α) (C : List α), (w, x) ∈ nx (C ++ w :: [x]) := fun w C => by rw [nx_app]; simp [nx]
  cases A with
  | nil =>
    simp only [List.nil_append, List.length_cons] at hl ⊢
    have et : (x :: B).take 1 = [x] := by simp
    rw [et]
    match B, hl, nB with
    | b :: c :: r, _, nB =>
      obtain ⟨Bi, z, hB⟩ : ∃ Bi z, b :: c :: r = Bi ++ [z] := ⟨_, _, (List.dropLast_concat_getLast (by simp)).symm⟩
      refine ⟨b, z, by simp [nx_cons], ?_, ?_⟩
      · have := two z (x :: Bi)
        have e : (x :: b :: c :: r) ++ [x] = (x :: Bi) ++ z :: [x] := by rw [hB]; simp
        rw [e]; exact this
      · exact head_ne_last nB (by simp) rfl (by rw [hB]; simp)
  | cons g A' =>
    have et : (g :: A' ++ x :: B).take 1 = [g] := by simp
    rw [et]
    obtain ⟨Ai, z, hA⟩ : ∃ Ai z, g :: A' = Ai ++ [z] := ⟨_, _, (List.dropLast_concat_getLast (by simp)).symm⟩
    have e : (g :: A' ++ x :: B) ++ [g] = (g :: A') ++ x :: (B ++ [g]) := by simp
    have zl : (z, x) ∈ nx ((g :: A') ++ x :: (B ++ [g])) := by
      rw [nx_app, List.mem_append]
      left
      have := two z Ai
      rw [hA]
      simpa using this
    rw [e]
    cases B with
    | nil =>
      refine ⟨g, z, ?_, zl, ?_⟩
      · rw [nx_app, List.mem_append]
        right
        simp [nx]
      · have : 2 ≤ (g :: A').length := by simp at hl ⊢; omega
        exact head_ne_last nA this rfl (by rw [hA]; simp)
    | cons b B' =>
      refine ⟨b, z, ?_, zl, ?_⟩
      · rw [nx_app, List.mem_append]
        right
        simp [nx_cons]
      · intro h
        exact nAB z (by rw [hA]; simp) b (by simp) h.symm
section
variable {α : Type} {R : α → α → Prop} {o : α → α → α → Int}
/-- a place ahead of the least one is not within the angle there -/
theorem cone_no (O : Ori R o) {m y z c : α} (hy : R m y) (hz : R m z) (hc : R c m) (h1 : 0 ≤ o m y c) (h2 : 0 ≤ o z m c) (h3 : 0 < o m y z) : False := by
  have e1 : o c m y = o m y c := by rw [← O.cyc]
  have e2 : o c z m = o z m c := by rw [← O.cyc]
  have e3 : o c m z = -o c z m := O.sw c z m
  rcases O.tot y z with yz | rfl | zy
  · obtain ⟨s1, s2, s3, s4, s5, s6, p1, p2, p3, p4, p5, p6, i1, i2, i3, i4⟩ := O.four hc hy yz
    have w1 := Int.mul_pos h3 p1
    have w2 := Int.mul_nonneg (show 0 ≤ o c m y by omega) (show (0 : Int) ≤ s5 by omega)
    have w3 := Int.mul_nonneg (show 0 ≤ o c z m by omega) (show (0 : Int) ≤ s4 by omega)
    rw [e3, Int.neg_mul] at i3
    omega
  · rw [O.z2] at h3; omega
  · obtain ⟨s1, s2, s3, s4, s5, s6, p1, p2, p3, p4, p5, p6, i1, i2, i3, i4⟩ := O.four hc hz zy
    have h3' : o m z y = -o m y z := O.sw m y z
    have w1 := Int.mul_pos h3 p1
    have w2 := Int.mul_nonneg (show 0 ≤ o c m y by omega) (show (0 : Int) ≤ s4 by omega)
    have w3 := Int.mul_nonneg (show 0 ≤ o c z m by omega) (show (0 : Int) ≤ s5 by omega)
    rw [e3, h3', Int.neg_mul, Int.neg_mul] at i3
    omega
end
/-! ### places -/
theorem ordT_same {ps qs : List Pt} (h : ∀ p, p ∈ ps ↔ p ∈ qs) : ordT Pt.lt ps = ordT Pt.lt qs :=
  srt_uniq (pord_srt ps) (pord_srt qs) fun p => by rw [pord_mem, pord_mem, h]
theorem hullP_same {ps qs : List Pt} (h : ∀ p, p ∈ ps ↔ p ∈ qs) : hullP ps = hullP qs := by unfold hullP; rw [ordT_same h]
theorem ne_two {xs : List Pt} {a b : Pt} (ha : a ∈ xs) (hb : b ∈ xs) (h : a ≠ b) : 2 ≤ xs.length := by
  match xs, ha, hb with
  | [x], ha, hb => simp at ha hb; exact absurd (ha.trans hb.symm) h
  | x :: y :: r, _, _ => simp
theorem low_of {E : List Pt} (hp : E.Pairwise fun p q => Pt.lt p q = true) {m q : Pt} (hm : E.head? = some m) (hq : q ∈ E) : q = m ∨ Pt.lt m q = true := by
  cases E with
  | nil => cases hq
  | cons a r =>
    simp at hm; subst hm
    rcases List.mem_cons.mp hq with h | h
    · exact .inl h
    · exact .inr ((List.pairwise_cons.mp hp).1 q h)
theorem top_of {E : List Pt} (hp : E.Pairwise fun p q => Pt.lt p q = true) {m q : Pt} (hm : E.getLast? = some m) (hq : q ∈ E) : q = m ∨ Pt.lt q m = true := by
  have z : E ≠ [] := fun w => by rw [w] at hm; simp at hm
  have e := List.dropLast_concat_getLast z
  rw [List.getLast?_eq_getLast z] at hm
  have e' := Option.some.inj hm
  rw [e'] at e
  rw [← e] at hp hq
  rcases List.mem_append.mp hq with y | y
  · exact .inr ((List.pairwise_append.mp hp).2.2 q y m (by simp))
  · exact .inl (by simpa using y)
/-- the hull of the corners, and of the corners with places within -/
theorem hull_more {ps qs : List Pt} (hl : 2 ≤ (ordT Pt.lt ps).length) (sub : ∀ x ∈ hullP ps, x ∈ qs) (left : ∀ u v, (u, v) ∈ nx (hullP ps ++ (hullP ps).take 1) → ∀ q ∈ qs, 0 ≤ Pt.o u v q)
    (low : ∀ m, (ordT Pt.lt ps).head? = some m → ∀ q ∈ qs, q = m ∨ Pt.lt m q = true) (top : ∀ m, (ordT Pt.lt ps).getLast? = some m → ∀ q ∈ qs, q = m ∨ Pt.lt q m = true) : hullP qs = hullP ps := by
  have hp := pord_srt ps
  have ne : ordT Pt.lt ps ≠ [] := fun z => by rw [z] at hl; simp at hl
  have eP : hullP ps = hullL Pt.o (ordT Pt.lt ps) := by unfold hullP; rw [if_neg (by omega)]
  rw [eP] at sub left
  have S := hull_same Pt.ori ne hp (pord_srt qs) ⟨fun x hx => (pord_mem qs x).mpr (sub x (chain_in_hull Pt.ori hl hp hx)), fun u v h q hq => left u v (sides_hull Pt.ori hl hp h) q ((pord_mem qs q).mp hq),
    fun m hm q hq => low m hm q ((pord_mem qs q).mp hq), fun m hm q hq => top m hm q ((pord_mem qs q).mp hq)⟩
  have hH := hull_ok Pt.ori hl hp
  have st := hull_strict Pt.ori hl hp
  have two : 2 ≤ (ordT Pt.lt qs).length := by
    match e : hullL Pt.o (ordT Pt.lt ps), hH.len, st.nd with
    | a :: b :: r, _, nd =>
      rw [e] at sub
      refine ne_two ((pord_mem qs a).mpr (sub a (by simp))) ((pord_mem qs b).mpr (sub b (by simp))) fun z => ?_
      rw [z] at nd; simp at nd
  rw [eP]
  unfold hullP
  rw [if_neg (by omega)]
  exact S
theorem hull_left {ps : List Pt} (hl : 2 ≤ (ordT Pt.lt ps).length) : ∀ u v, (u, v) ∈ nx (hullP ps ++ (hullP ps).take 1) → ∀ q ∈ ps, 0 ≤ Pt.o u v q := by
  intro u v h q hq
  have eP : hullP ps = hullL Pt.o (ordT Pt.lt ps) := by unfold hullP; rw [if_neg (by omega)]
  have hH := hull_ok Pt.ori hl (pord_srt ps)
  rw [eP] at h
  cases e : hullL Pt.o (ordT Pt.lt ps) with
  | nil => have := hH.len; rw [e] at this; simp at this
  | cons m r =>
    refine hH.left m (by rw [e]; rfl) u v ?_ q ((pord_mem ps q).mpr hq)
    rw [e] at h ⊢
    simpa using h
theorem ord_one {ps : List Pt} (h : ps ≠ []) (hl : ¬ 2 ≤ (ordT Pt.lt ps).length) : ∃ a, hullP ps = [a] ∧ ∀ p, p ∈ ps ↔ p = a := by
  have m := pord_mem ps
  match e : ordT Pt.lt ps, hl with
  | [], _ =>
    exfalso
    obtain ⟨x, hx⟩ := List.exists_mem_of_ne_nil _ h
    have := (m x).mpr hx
    rw [e] at this; cases this
  | [a], _ =>
    refine ⟨a, by unfold hullP; rw [e]; rfl, fun p => ?_⟩
    rw [← m, e]; simp
  | a :: b :: r, hl => exact absurd (by simp) hl
/-- a hull of its corners it stays -/
theorem hull_hull {ps : List Pt} (h : ps ≠ []) : hullP (hullP ps) = hullP ps := by
  by_cases hl : 2 ≤ (ordT Pt.lt ps).length
  · have sub := (plate_ok h).2.1
    have hp := pord_srt ps
    exact hull_more hl (fun x hx => hx) (fun u v hu q hq => hull_left hl u v hu q (sub q hq)) (fun m hm q hq => low_of hp hm ((pord_mem ps q).mpr (sub q hq))) fun m hm q hq => top_of hp hm ((pord_mem ps q).mpr (sub q hq))
  · obtain ⟨a, e, _⟩ := ord_one h hl
    rw [e]; rfl
theorem lt_no {a p : Pt} (h : p = a ∨ Pt.lt a p = true) : Pt.lt p a = false := by
  cases z : Pt.lt p a with
  | false => rfl
  | true =>
    rcases h with rfl | h
    · exact absurd z (Pt.ori.ir _)
    · exact absurd (Pt.tr' h z) (Pt.ori.ir _)
/-- the hull has all places -/
theorem hull_has {ps : List Pt} {p : Pt} (hp : p ∈ ps) : hasB (hullP ps) p = true := by
  have h : ps ≠ [] := fun z => by rw [z] at hp; cases hp
  by_cases hl : 2 ≤ (ordT Pt.lt ps).length
  · have hH := hull_ok Pt.ori hl (pord_srt ps)
    have left := hull_left hl
    have eP : hullP ps = hullL Pt.o (ordT Pt.lt ps) := by unfold hullP; rw [if_neg (by omega)]
    rw [← eP] at hH
    match e : hullP ps, hH.len with
    | [a, b], _ =>
      obtain ⟨_, t⟩ := hH.two a b e
      obtain ⟨t1, t2⟩ := t p ((pord_mem ps p).mpr hp)
      rw [hasB_fin2 a b p fun ee he => left ee.1 ee.2 (by rw [e]; exact he) p hp, lt_no t1]
      cases z : Pt.lt b p with
      | false => rfl
      | true =>
        rcases t2 with rfl | t2
        · exact absurd z (Pt.ori.ir _)
        · exact absurd (Pt.tr' t2 z) (Pt.ori.ir _)
    | a :: b :: c :: r, _ => exact hasB_fin3 a b c r p fun ee he => left ee.1 ee.2 (by rw [e]; exact he) p hp
  · obtain ⟨a, e, ha⟩ := ord_one h hl
    rw [e, (ha p).mp hp]
    show decide (a = a) = true
    simp
/-- what has no place outside of its sides: c stands between the ends -/
theorem hasB_in {ps : List Pt} (h : ps ≠ []) (hl : 2 ≤ (ordT Pt.lt ps).length) {c : Pt} (hc : hasB (hullP ps) c = true) : (∀ u v, (u, v) ∈ nx (hullP ps ++ (hullP ps).take 1) → 0 ≤ Pt.o u v c) ∧
    (∀ m, (ordT Pt.lt ps).head? = some m → c = m ∨ Pt.lt m c = true) ∧ ∀ m, (ordT Pt.lt ps).getLast? = some m → c = m ∨ Pt.lt c m = true := by
  have hp := pord_srt ps
  have hH := hull_ok Pt.ori hl hp
  have st := hull_strict Pt.ori hl hp
  have eP : hullP ps = hullL Pt.o (ordT Pt.lt ps) := by unfold hullP; rw [if_neg (by omega)]
  have left := hull_left hl
  have sub := (plate_ok h).2.1
  rw [← eP] at hH st
  -- the ends are corners
  have mi : ∀ x, (x ∈ chainL Pt.o (ordT Pt.lt ps) ∨ x ∈ chainL Pt.o (ordT Pt.lt ps).reverse) → x ∈ hullP ps := fun x hx => by rw [eP]; exact chain_in_hull Pt.ori hl hp hx
  have ne : ordT Pt.lt ps ≠ [] := fun z => by rw [z] at hl; simp at hl
  obtain ⟨c1, c2⟩ := chain_ends Pt.ori ne hp
  match e : hullP ps, hH.len with
  | [a, b], _ =>
    rw [e] at hc
    rw [hasB_2] at hc
    simp only [Bool.and_eq_true, decide_eq_true_eq, Bool.not_eq_true'] at hc
    obtain ⟨h0, ha, hb⟩ := hc
    obtain ⟨_, t⟩ := hH.two a b e
    have ba : Pt.o b a c = 0 := by rw [Pt.ori.anti, h0]; rfl
    refine ⟨fun u v hu => ?_, fun m hm => ?_, fun m hm => ?_⟩
    · simp [nx] at hu
      rcases hu with ⟨rfl, rfl⟩ | ⟨rfl, rfl⟩ <;> omega
    · have hm' : m ∈ hullP ps := mi m (.inl (List.mem_of_head? (by rw [c1, hm])))
      have am : a ∈ ordT Pt.lt ps := (pord_mem ps a).mpr (sub a (by rw [e]; simp))
      obtain ⟨t1, _⟩ := t m (List.mem_of_head? hm)
      have ea : m = a := by
        rcases t1 with z | z
        · exact z
        · rcases low_of hp hm am with w | w
          · exact w.symm
          · exact absurd (Pt.tr' z w) (Pt.ori.ir _)
      subst ea
      rcases Pt.ori.tot c m with z | z | z
      · rw [ha] at z; cases z
      · exact .inl z
      · exact .inr z
    · have bm : b ∈ ordT Pt.lt ps := (pord_mem ps b).mpr (sub b (by rw [e]; simp))
      obtain ⟨_, t2⟩ := t m (List.mem_of_getLast? hm)
      have eb : m = b := by
        rcases t2 with z | z
        · exact z
        · rcases top_of hp hm bm with w | w
          · exact w.symm
          · exact absurd (Pt.tr' z w) (Pt.ori.ir _)
      subst eb
      rcases Pt.ori.tot m c with z | z | z
      · rw [hb] at z; cases z
      · exact .inl z.symm
      · exact .inr z
  | a :: b :: d :: r, _ =>
    have hl3 : 3 ≤ (hullP ps).length := by rw [e]; simp
    have lc : ∀ u v, (u, v) ∈ nx (hullP ps ++ (hullP ps).take 1) → 0 ≤ Pt.o u v c := by
      intro u v hu
      rw [e] at hc hu
      rw [hasB_3, List.all_eq_true] at hc
      exact of_decide_eq_true (hc (u, v) hu)
    rw [← e]
    have turn : ∀ {x y z : Pt}, (x, y) ∈ nx (hullP ps ++ (hullP ps).take 1) → (z, x) ∈ nx (hullP ps ++ (hullP ps).take 1) → y ≠ z → 0 < Pt.o x y z := fun {x y z} h1 h2 hne => by
      have hz := (nx_mem h2).1
      have hx := (nx_mem h2).2
      have n2 := st.two z x h2 hH.len
      have l := left x y h1 z (sub z hz)
      rcases Int.lt_or_eq_of_le l with w | w
      · exact w
      · rcases st.st x y h1 hH.len z hz w.symm with q | q
        · exact absurd q n2
        · exact absurd q.symm hne
    refine ⟨lc, fun m hm => ?_, fun m hm => ?_⟩
    · have hm' : m ∈ hullP ps := mi m (.inl (List.mem_of_head? (by rw [c1, hm])))
      obtain ⟨y, z, h1, h2, hne⟩ := nbrs st.nd hl3 hm'
      rcases Pt.ori.tot c m with w | w | w
      · exfalso
        have up : ∀ q ∈ hullP ps, q ≠ m → Pt.lt m q = true := fun q hq hn => (low_of hp hm ((pord_mem ps q).mpr (sub q hq))).resolve_left hn
        exact cone_no Pt.ori (up y (nx_mem h1).2 fun z => st.two m y h1 hH.len z.symm) (up z (nx_mem h2).1 (st.two z m h2 hH.len)) w (lc m y h1) (lc z m h2) (turn h1 h2 hne)
      · exact .inl w
      · exact .inr w
    · have hm' : m ∈ hullP ps := mi m (.inl (List.mem_of_getLast? (by rw [c2, hm])))
      obtain ⟨y, z, h1, h2, hne⟩ := nbrs st.nd hl3 hm'
      rcases Pt.ori.tot m c with w | w | w
      · exfalso
        have up : ∀ q ∈ hullP ps, q ≠ m → Pt.lt q m = true := fun q hq hn => (top_of hp hm ((pord_mem ps q).mpr (sub q hq))).resolve_left hn
        exact cone_no Pt.ori.flip (up y (nx_mem h1).2 fun z => st.two m y h1 hH.len z.symm) (up z (nx_mem h2).1 (st.two z m h2 hH.len)) w (lc m y h1) (lc z m h2) (turn h1 h2 hne)
      · exact .inl w.symm
      · exact .inr w
/-- a corner left out is not in the hull of the others -/
theorem corner_out {ps : List Pt} {c : Pt} (hc : c ∈ hullP ps) (hr : ((hullP ps).filter fun p => decide (p ≠ c)) ≠ []) : hasB (hullP ((hullP ps).filter fun p => decide (p ≠ c))) c = false := by
  have h : ps ≠ [] := fun z => by rw [z] at hc; cases hc
  generalize hrest : ((hullP ps).filter fun p => decide (p ≠ c)) = rest at hr
  have mr : ∀ p, p ∈ rest ↔ p ∈ hullP ps ∧ p ≠ c := fun p => by rw [← hrest]; simp
  cases z : hasB (hullP rest) c with
  | false => rfl
  | true =>
    exfalso
    have sub := (plate_ok hr).2.1
    by_cases hl : 2 ≤ (ordT Pt.lt rest).length
    · obtain ⟨i1, i2, i3⟩ := hasB_in hr hl z
      have hp := pord_srt rest
      have cases_ : ∀ q ∈ hullP ps, q = c ∨ q ∈ rest := fun q hq => by
        by_cases w : q = c
        · exact .inl w
        · exact .inr ((mr q).mpr ⟨hq, w⟩)
      have key := hull_more (qs := hullP ps) hl (fun x hx => ((mr x).mp (sub x hx)).1) (fun u v hu q hq => by
          rcases cases_ q hq with rfl | w
          · exact i1 u v hu
          · exact hull_left hl u v hu q w) (fun m hm q hq => by
          rcases cases_ q hq with rfl | w
          · exact i2 m hm
          · exact low_of hp hm ((pord_mem rest q).mpr w)) (fun m hm q hq => by
          rcases cases_ q hq with rfl | w
          · exact i3 m hm
          · exact top_of hp hm ((pord_mem rest q).mpr w))
      rw [hull_hull h] at key
      rw [key] at hc
      exact ((mr c).mp (sub c hc)).2 rfl
    · obtain ⟨a, e, ha⟩ := ord_one hr hl
      rw [e] at z
      have z' : decide (a = c) = true := z
      have ea := of_decide_eq_true z'
      exact ((mr a).mp ((ha a).mpr rfl)).2 ea
end PH

/-! Tuples of places: reprs, likeness; orders of places. -/
namespace PH
open PySem PySem.Spec L2
theorem rOk_mapT {α : Type} (f : α → D) {P : α → Prop} (h : ∀ x, P x → tame (f x) ∧ (f x).bulk ≤ 100 ∧ (f x).depth ≤ 5 ∧ (f x).hasDict = false) {xs : List α} (hx : ∀ x ∈ xs, P x) (hl : xs.length ≤ 300) : rOk (.tuple (xs.map f)) := by
  obtain ⟨a, b, c, d⟩ := ok_map f h xs hx
  refine rOk_of (by simpa [tame] using a) ?_ ?_ ?_
  · simp only [PyData.bulk]; omega
  · simp only [PyData.depth]; omega
  · intro z
    simp only [PyData.hasDict, d] at z
    cases z
theorem sh_ptsT (xs : List Pt) : SeqAt.shaped (.tuple (xs.map pD)) = true := by
  obtain ⟨h1, h2⟩ := lay_map pD lay_pt xs
  have e1 : (PyData.tuple (xs.map pD)).canLay0 = true := by simpa [PyData.canLay0] using h1
  have e2 : (PyData.tuple (xs.map pD)).depth ≤ 64 := by simp only [PyData.depth]; omega
  unfold SeqAt.shaped
  rw [e1, decide_eq_true e2]; rfl
theorem perm_pts {ys : List D} {ps : List Pt} (h : ys.Perm (ps.map pD)) : ∃ qs : List Pt, ys = qs.map pD ∧ (∀ p, p ∈ qs ↔ p ∈ ps) ∧ qs.length = ps.length := by
  have all : ∀ (zs : List D), (∀ z ∈ zs, ∃ p, z = pD p) → ∃ qs : List Pt, zs = qs.map pD := by
    intro zs
    induction zs with
    | nil => intro _; exact ⟨[], rfl⟩
    | cons z zs ih =>
      intro h
      obtain ⟨p, rfl⟩ := h z (by simp)
      obtain ⟨qs, rfl⟩ := ih fun w hw => h w (by simp [hw])
      exact ⟨p :: qs, rfl⟩
  obtain ⟨qs, rfl⟩ := all ys fun z hz => by
    obtain ⟨p, _, e⟩ := List.mem_map.mp (h.mem_iff.mp hz)
    exact ⟨p, e.symm⟩
  refine ⟨qs, rfl, fun p => ?_, by have := h.length_eq; simpa using this⟩
  rw [← pD_mem (ps := qs), ← pD_mem (ps := ps), h.mem_iff]
theorem dNe_nl {xs : List Pt} {Q : D → Prop} (h1 : xs ≠ [] → Q (.bool true)) (h0 : xs = [] → Q (.bool false)) : dNe (.list (xs.map pD)) (.list []) Q := by
  by_cases z : xs = []
  · subst z
    exact dNe_eqs rfl (by decide +kernel) (h0 rfl)
  · refine ⟨sh_pts xs, by decide +kernel, ?_⟩
    have e : PyData.eqv (.list (xs.map pD)) (.list []) = false := by
      cases xs with
      | nil => exact absurd rfl z
      | cons a r => simp [PyData.eqv, PyData.eqvAll]
    rw [e]
    exact h1 z
def bn9 : Nat → Nat
  | 0 => 4
  | n + 1 => 2 * bn9 n + 2
theorem bn9_le : ∀ i, i ≤ 3 → bn9 i ≤ 46
  | 0, _ => by decide
  | 1, _ => by decide
  | 2, _ => by decide
  | 3, _ => by decide
  | n + 4, h => by omega
theorem all_k {ps : List Pt} {b : Pt → Bool} (h : ∀ p ∈ ps, b p = true) {Q : D → Prop} (hQ : Q (.bool true)) : dAll [.list (ps.map fun p => .bool (b p))] Q := by
  unfold dAll
  dsimp only
  rw [bools_map]
  have e : (ps.map b).all id = true := by
    rw [List.all_map, List.all_eq_true]
    exact h
  show Q (.bool _)
  rw [e]; exact hQ
theorem cut_2 (ps : List Pt) : cutD (ps.map pD) none (some 2) = (ps.take 2).map pD := by
  unfold cutD
  rw [HT.sIx_none, show ((2 : Int)) = ((2 : Nat) : Int) from rfl, HT.sIx_nat]
  rw [List.drop_zero, Nat.sub_zero, List.map_take]
  by_cases h : 2 ≤ (ps.map pD).length
  · rw [Nat.min_eq_left h]
  · rw [Nat.min_eq_right (by omega), List.take_of_length_le (Nat.le_refl _), List.take_of_length_le (by omega)]
theorem dFor_last {mi : DA} {g : DG} {mb : DS} {Dd : DEnds} {σd : DSt} (h : dSeq (dFor mi g mb) dNext Dd σd) : dFor mi g mb Dd σd := h
end PH

/-! Places on a side: what is linear there. -/
namespace PH
/-- linear in a place -/
def lin (A B C : Int) (p : Pt) : Int := A * p.x + B * p.y + C * p.d
theorem o_asL (a b p : Pt) : Pt.o a b p = lin (a.y * b.d - b.y * a.d) (b.x * a.d - a.x * b.d) (a.x * b.y - b.x * a.y) p := by
  unfold Pt.o detP lin; grind
theorem lin_x {u v x : Pt} (h : Pt.o u v x = 0) (A B C : Int) : lin A B C x * Pt.sx u v = lin A B C u * Pt.sx x v + lin A B C v * Pt.sx u x := by
  unfold Pt.o detP at h
  unfold lin Pt.sx
  have e : x.y * (v.x * u.d - u.x * v.d) = u.y * (v.x * x.d - x.x * v.d) + v.y * (x.x * u.d - u.x * x.d) := by grind
  have e2 : B * (x.y * (v.x * u.d - u.x * v.d)) = B * (u.y * (v.x * x.d - x.x * v.d) + v.y * (x.x * u.d - u.x * x.d)) := by rw [e]
  grind
theorem lin_y {u v x : Pt} (h : Pt.o u v x = 0) (A B C : Int) : lin A B C x * Pt.sy u v = lin A B C u * Pt.sy x v + lin A B C v * Pt.sy u x := by
  unfold Pt.o detP at h
  unfold lin Pt.sy
  have e : x.x * (v.y * u.d - u.y * v.d) = u.x * (v.y * x.d - x.y * v.d) + v.x * (x.y * u.d - u.y * x.d) := by grind
  have e2 : A * (x.x * (v.y * u.d - u.y * v.d)) = A * (u.x * (v.y * x.d - x.y * v.d) + v.x * (x.y * u.d - u.y * x.d)) := by rw [e]
  grind
theorem sx_ge {p q : Pt} (h : Pt.lt p q = true) : 0 ≤ Pt.sx p q ∧ (Pt.sx p q = 0 → 0 < Pt.sy p q) := by
  rcases (Pt.lt_iff p q).mp h with z | ⟨z, y⟩
  · exact ⟨by omega, fun w => by omega⟩
  · exact ⟨by omega, fun _ => y⟩
/-- a place between two on their line: what is linear there is mixed of what it is at both -/
theorem seg_lin {u x v : Pt} (h1 : Pt.lt u x = true) (h2 : Pt.lt x v = true) (h0 : Pt.o u v x = 0) : ∃ k α β : Int, 0 < k ∧ 0 < α ∧ 0 < β ∧ ∀ A B C, lin A B C x * k = lin A B C u * α + lin A B C v * β := by
  obtain ⟨a1, a2⟩ := sx_ge h1
  obtain ⟨b1, b2⟩ := sx_ge h2
  obtain ⟨c1, c2⟩ := sx_ge (Pt.tr' h1 h2)
  -- the lengths add up
  have ex := lin_x h0 0 0 1
  have ey := lin_y h0 0 0 1
  have e1 : ∀ p : Pt, lin 0 0 1 p = p.d := fun p => by unfold lin; omega
  rw [e1, e1, e1] at ex ey
  have pu := u.pos; have pv := v.pos; have px := x.pos
  by_cases z : Pt.sx u v = 0
  · -- one above another
    rw [z, Int.mul_zero] at ex
    have w1 := Int.mul_nonneg (show 0 ≤ u.d by omega) b1
    have w2 := Int.mul_nonneg (show 0 ≤ v.d by omega) a1
    have y1 : Pt.sx x v = 0 := by
      rcases Int.mul_eq_zero.mp (show u.d * Pt.sx x v = 0 by omega) with q | q
      · omega
      · exact q
    have y2 : Pt.sx u x = 0 := by
      rcases Int.mul_eq_zero.mp (show v.d * Pt.sx u x = 0 by omega) with q | q
      · omega
      · exact q
    exact ⟨Pt.sy u v, Pt.sy x v, Pt.sy u x, c2 z, b2 y1, a2 y2, lin_y h0⟩
  · have kp : 0 < Pt.sx u v := by omega
    refine ⟨Pt.sx u v, Pt.sx x v, Pt.sx u x, kp, ?_, ?_, lin_x h0⟩
    · rcases Int.lt_or_eq_of_le b1 with q | q
      · exact q
      · exfalso
        -- x and v above one another: then u too
        have hb := b2 q.symm
        have l2 := lin_x h0 0 1 0
        have e2 : ∀ p : Pt, lin 0 1 0 p = p.y := fun p => by unfold lin; omega
        rw [e2, e2, e2, ← q, Int.mul_zero, Int.zero_add] at l2
        rw [← q, Int.mul_zero, Int.zero_add] at ex
        -- x.d k = v.d s, x.y k = v.y s
        have : Pt.sy x v * Pt.sx u v = 0 := by
          unfold Pt.sy
          have g1 : (v.y * x.d - x.y * v.d) * Pt.sx u v = v.y * (x.d * Pt.sx u v) - v.d * (x.y * Pt.sx u v) := by grind
          rw [g1, ex, l2]
          grind
        rcases Int.mul_eq_zero.mp this with w | w <;> omega
    · rcases Int.lt_or_eq_of_le a1 with q | q
      · exact q
      · exfalso
        have ha := a2 q.symm
        have l2 := lin_x h0 0 1 0
        have e2 : ∀ p : Pt, lin 0 1 0 p = p.y := fun p => by unfold lin; omega
        rw [e2, e2, e2, ← q, Int.mul_zero, Int.add_zero] at l2
        rw [← q, Int.mul_zero, Int.add_zero] at ex
        have : Pt.sy u x * Pt.sx u v = 0 := by
          unfold Pt.sy
          have g1 : (x.y * u.d - u.y * x.d) * Pt.sx u v = u.d * (x.y * Pt.sx u v) - u.y * (x.d * Pt.sx u v) := by grind
          rw [g1, ex, l2]
          grind
        rcases Int.mul_eq_zero.mp this with w | w <;> omega
theorem seg_o {u x v : Pt} (h1 : Pt.lt u x = true) (h2 : Pt.lt x v = true) (h0 : Pt.o u v x = 0) : ∃ k α β : Int, 0 < k ∧ 0 < α ∧ 0 < β ∧ ∀ a b, Pt.o a b x * k = Pt.o a b u * α + Pt.o a b v * β := by
  obtain ⟨k, α, β, p1, p2, p3, h⟩ := seg_lin h1 h2 h0
  exact ⟨k, α, β, p1, p2, p3, fun a b => by rw [o_asL, o_asL, o_asL]; exact h _ _ _⟩
/-! ### sides, each with its own ends -/
theorem pair_uniq {α β : Type} : ∀ {L : List (α × β)}, (L.map Prod.snd).Nodup → ∀ {u z : α} {v : β}, (u, v) ∈ L → (z, v) ∈ L → u = z
  | [], _, _, _, _, h, _ => by cases h
  | (a, b) :: L, nd, u, z, v, h1, h2 => by
    rw [List.map_cons, List.nodup_cons] at nd
    rcases List.mem_cons.mp h1 with e1 | e1 <;> rcases List.mem_cons.mp h2 with e2 | e2
    · cases e1; cases e2; rfl
    · cases e1
      exact absurd (List.mem_map.mpr ⟨_, e2, rfl⟩) nd.1
    · cases e2
      exact absurd (List.mem_map.mpr ⟨_, e1, rfl⟩) nd.1
    · exact pair_uniq nd.2 e1 e2
theorem snd_nx {α : Type} (G : List α) (h : G ≠ []) : (nx (G ++ G.take 1)).map Prod.snd = G.drop 1 ++ G.take 1 := by
  cases G with
  | nil => exact absurd rfl h
  | cons a r =>
    unfold nx
    have e : ((a :: r) ++ (a :: r).take 1).drop 1 = r ++ [a] := by simp
    rw [e]
    have l : (r ++ [a]).length ≤ ((a :: r) ++ (a :: r).take 1).length := by simp
    rw [List.map_snd_zip l]
    simp
theorem prev_uniq {α : Type} {G : List α} (nd : G.Nodup) {u z v : α} (h1 : (u, v) ∈ nx (G ++ G.take 1)) (h2 : (z, v) ∈ nx (G ++ G.take 1)) : u = z := by
  have h : G ≠ [] := fun e => by rw [e] at h1; simp [nx] at h1
  refine pair_uniq ?_ h1 h2
  rw [snd_nx G h]
  have p : (G.drop 1 ++ G.take 1).Perm G := by
    have := List.perm_append_comm (l₁ := G.drop 1) (l₂ := G.take 1)
    rwa [List.take_append_drop] at this
  exact p.nodup_iff.mpr nd
theorem fst_nx {α : Type} (G : List α) (h : G ≠ []) : (nx (G ++ G.take 1)).map Prod.fst = G := by
  cases G with
  | nil => exact absurd rfl h
  | cons a r =>
    unfold nx
    have e : ((a :: r) ++ (a :: r).take 1).drop 1 = r ++ [a] := by simp
    rw [e]
    have e2 : ((a :: r) ++ (a :: r).take 1) = (a :: r) ++ [a] := by simp
    rw [e2]
    have z : List.zip ((a :: r) ++ [a]) (r ++ [a]) = List.zip (a :: r) (r ++ [a]) := by
      have := List.zip_append (l₁ := a :: r) (r₁ := [a]) (l₂ := r ++ [a]) (r₂ := []) (by simp)
      simpa using this
    rw [z, List.map_fst_zip (by simp)]
theorem pair_uniq1 {α β : Type} : ∀ {L : List (α × β)}, (L.map Prod.fst).Nodup → ∀ {u : α} {v z : β}, (u, v) ∈ L → (u, z) ∈ L → v = z
  | [], _, _, _, _, h, _ => by cases h
  | (a, b) :: L, nd, u, v, z, h1, h2 => by
    rw [List.map_cons, List.nodup_cons] at nd
    rcases List.mem_cons.mp h1 with e1 | e1 <;> rcases List.mem_cons.mp h2 with e2 | e2
    · cases e1; cases e2; rfl
    · cases e1
      exact absurd (List.mem_map.mpr ⟨_, e2, rfl⟩) nd.1
    · cases e2
      exact absurd (List.mem_map.mpr ⟨_, e1, rfl⟩) nd.1
    · exact pair_uniq1 nd.2 e1 e2
theorem next_uniq {α : Type} {G : List α} (nd : G.Nodup) {u v z : α} (h1 : (u, v) ∈ nx (G ++ G.take 1)) (h2 : (u, z) ∈ nx (G ++ G.take 1)) : v = z := by
  have h : G ≠ [] := fun e => by rw [e] at h1; simp [nx] at h1
  refine pair_uniq1 ?_ h1 h2
  rw [fst_nx G h]
  exact nd
/-- corners, strictly turning -/
structure Poly (H : List Pt) : Prop where
  nd : H.Nodup
  len : 3 ≤ H.length
  pos : ∀ u v, (u, v) ∈ nx (H ++ H.take 1) → u ≠ v ∧ ∀ r ∈ H, r ≠ u → r ≠ v → 0 < Pt.o u v r
theorem hull_poly {ps : List Pt} (hl : 2 ≤ (ordT Pt.lt ps).length) (h3 : 3 ≤ (hullP ps).length) : Poly (hullP ps) := by
  have st := hull_strict Pt.ori hl (pord_srt ps)
  have eP : hullP ps = hullL Pt.o (ordT Pt.lt ps) := by unfold hullP; rw [if_neg (by omega)]
  rw [← eP] at st
  have ne : ps ≠ [] := fun z => by subst z; simp [ordT] at hl
  have sub := (plate_ok ne).2.1
  refine ⟨st.nd, h3, fun u v h => ⟨st.two u v h (by omega), fun r hr h1 h2 => ?_⟩⟩
  rcases Int.lt_or_eq_of_le (hull_left hl u v h r (sub r hr)) with w | w
  · exact w
  · exact ((st.st u v h (by omega) r hr w.symm).elim h1 h2).elim
/-- what is on a side's line and not outside stands on the side -/
theorem side_btw {H : List Pt} (P : Poly H) {x u v : Pt} (hx : ∀ a b, (a, b) ∈ nx (H ++ H.take 1) → 0 ≤ Pt.o a b x) (huv : (u, v) ∈ nx (H ++ H.take 1)) (h0 : Pt.o u v x = 0) (nu : x ≠ u) (nv : x ≠ v) :
    (Pt.lt u x = true ∧ Pt.lt x v = true) ∨ (Pt.lt v x = true ∧ Pt.lt x u = true) := by
  have uv := (P.pos u v huv).1
  obtain ⟨mu, mv⟩ := nx_mem huv
  -- the side behind, the side ahead
  obtain ⟨w, z, s1, s2, hne⟩ := nbrs P.nd P.len mv
  have ez := prev_uniq P.nd huv s2
  subst ez
  have kw : 0 < Pt.o v w u := (P.pos v w s1).2 u mu uv (fun e => hne e.symm)
  have xw := hx v w s1
  obtain ⟨y, t, s3, s4, hne2⟩ := nbrs P.nd P.len mu
  have ey := next_uniq P.nd huv s3
  subst ey
  have kt : 0 < Pt.o t u v := (P.pos t u s4).2 v mv hne2 (fun e => uv e.symm)
  have xt := hx t u s4
  have rot : Pt.o u x v = 0 ∧ Pt.o x v u = 0 ∧ Pt.o v x u = 0 ∧ Pt.o x u v = 0 ∧ Pt.o v u x = 0 := by
    have c1 := Pt.ori.sw u v x
    have c2 := Pt.ori.cyc u v x
    have c3 := Pt.ori.anti u v x
    have c4 := Pt.ori.cyc v u x
    have c5 := Pt.ori.cyc x u v
    have c6 := Pt.ori.cyc u x v
    refine ⟨by omega, ?_, ?_, ?_, by omega⟩ <;> first | omega | (have := Pt.ori.cyc x v u; have := Pt.ori.cyc v x u; omega)
  -- v is not between u and x, u not between x and v
  have noV : ¬ ((Pt.lt u v = true ∧ Pt.lt v x = true) ∨ (Pt.lt x v = true ∧ Pt.lt v u = true)) := by
    rintro (⟨h1, h2⟩ | ⟨h1, h2⟩)
    · obtain ⟨k, α, β, p1, p2, p3, h⟩ := seg_o h1 h2 rot.1
      have := h v w
      rw [Pt.ori.z3, Int.zero_mul] at this
      have w1 := Int.mul_pos kw p2
      have w2 := Int.mul_nonneg xw (show 0 ≤ β by omega)
      omega
    · obtain ⟨k, α, β, p1, p2, p3, h⟩ := seg_o h1 h2 rot.2.2.2.1
      have := h v w
      rw [Pt.ori.z3, Int.zero_mul] at this
      have w1 := Int.mul_pos kw p3
      have w2 := Int.mul_nonneg xw (show 0 ≤ α by omega)
      omega
  have noU : ¬ ((Pt.lt v u = true ∧ Pt.lt u x = true) ∨ (Pt.lt x u = true ∧ Pt.lt u v = true)) := by
    rintro (⟨h1, h2⟩ | ⟨h1, h2⟩)
    · obtain ⟨k, α, β, p1, p2, p3, h⟩ := seg_o h1 h2 rot.2.2.1
      have := h t u
      rw [Pt.ori.z2, Int.zero_mul] at this
      have w1 := Int.mul_pos kt p2
      have w2 := Int.mul_nonneg xt (show 0 ≤ β by omega)
      omega
    · obtain ⟨k, α, β, p1, p2, p3, h⟩ := seg_o h1 h2 rot.2.1
      have := h t u
      rw [Pt.ori.z2, Int.zero_mul] at this
      have w1 := Int.mul_pos kt p3
      have w2 := Int.mul_nonneg xt (show 0 ≤ α by omega)
      omega
  rcases Pt.ori.tot u v with a | a | a
  · rcases Pt.ori.tot x u with b | b | b
    · exact absurd (.inr ⟨b, a⟩) noU
    · exact absurd b nu
    · rcases Pt.ori.tot x v with c | c | c
      · exact .inl ⟨b, c⟩
      · exact absurd c nv
      · exact absurd (.inl ⟨a, c⟩) noV
  · exact absurd a uv
  · rcases Pt.ori.tot x v with b | b | b
    · exact absurd (.inr ⟨b, a⟩) noV
    · exact absurd b nv
    · rcases Pt.ori.tot x u with c | c | c
      · exact .inr ⟨b, c⟩
      · exact absurd c nu
      · exact absurd (.inl ⟨a, c⟩) noU
end PH

/-! The plate less its sides, its corners once more: 1 just inside. -/
namespace PH
/-- the side has x -/
def onS (x : Pt) (e : Pt × Pt) : Bool := hasB (hullP [e.1, e.2]) x
theorem hull_two {u v : Pt} (h : u ≠ v) : hullP [u, v] = if Pt.lt u v = true then [u, v] else [v, u] := by
  have key : ∀ {a b : Pt}, Pt.lt a b = true → hullP [a, b] = [a, b] := fun {a b} h => by
    have nb : Pt.lt b a = false := lt_no (.inr h)
    have ne : b ≠ a := fun e => by subst e; exact Pt.ori.ir _ h
    have eo : ordT Pt.lt [a, b] = [a, b] := srt_uniq (pord_srt _) (List.pairwise_cons.mpr ⟨fun p hp => by simp at hp; subst hp; exact h, by simp⟩) fun p => by rw [pord_mem]
    unfold hullP
    rw [eo, if_neg (by simp)]
    rfl
  rcases Pt.ori.tot u v with w | w | w
  · rw [if_pos w]; exact key w
  · exact absurd w h
  · rw [if_neg (by rw [lt_no (.inr w)]; decide)]
    rw [← key w]
    exact hullP_same fun p => by simp [or_comm]
theorem on_iff {x u v : Pt} (h : u ≠ v) : onS x (u, v) = true ↔ Pt.o u v x = 0 ∧ (x = u ∨ x = v ∨ (Pt.lt u x = true ∧ Pt.lt x v = true) ∨ (Pt.lt v x = true ∧ Pt.lt x u = true)) := by
  unfold onS
  rw [hull_two h]
  have key : ∀ {a b : Pt}, Pt.lt a b = true → (hasB [a, b] x = true ↔ Pt.o a b x = 0 ∧ (x = a ∨ x = b ∨ (Pt.lt a x = true ∧ Pt.lt x b = true))) := fun {a b} ab => by
    rw [hasB_2]
    simp only [Bool.and_eq_true, decide_eq_true_eq, Bool.not_eq_true']
    constructor
    · rintro ⟨h0, h1, h2⟩
      refine ⟨h0, ?_⟩
      rcases Pt.ori.tot x a with w | w | w
      · rw [h1] at w; cases w
      · exact .inl w
      · rcases Pt.ori.tot x b with y | y | y
        · exact .inr (.inr ⟨w, y⟩)
        · exact .inr (.inl y)
        · rw [h2] at y; cases y
    · rintro ⟨h0, w | w | ⟨w1, w2⟩⟩
      · subst w; exact ⟨h0, lt_no (.inl rfl), lt_no (.inr ab)⟩
      · subst w; exact ⟨h0, lt_no (.inr ab), lt_no (.inl rfl)⟩
      · exact ⟨h0, lt_no (.inr w1), lt_no (.inr w2)⟩
  have an : Pt.o v u x = -Pt.o u v x := Pt.ori.anti u v x
  rcases Pt.ori.tot u v with w | w | w
  · rw [if_pos w, key w]
    constructor
    · rintro ⟨h0, y | y | y⟩
      · exact ⟨h0, .inl y⟩
      · exact ⟨h0, .inr (.inl y)⟩
      · exact ⟨h0, .inr (.inr (.inl y))⟩
    · rintro ⟨h0, y | y | y | ⟨y1, y2⟩⟩
      · exact ⟨h0, .inl y⟩
      · exact ⟨h0, .inr (.inl y)⟩
      · exact ⟨h0, .inr (.inr y)⟩
      · exact absurd (Pt.tr' (Pt.tr' y1 y2) w) (Pt.ori.ir _)
  · exact absurd w h
  · rw [if_neg (by rw [lt_no (.inr w)]; decide), key w]
    constructor
    · rintro ⟨h0, y | y | y⟩
      · exact ⟨by omega, .inr (.inl y)⟩
      · exact ⟨by omega, .inl y⟩
      · exact ⟨by omega, .inr (.inr (.inr y))⟩
    · rintro ⟨h0, y | y | ⟨y1, y2⟩ | y⟩
      · exact ⟨by omega, .inr (.inl y)⟩
      · exact ⟨by omega, .inl y⟩
      · exact absurd (Pt.tr' (Pt.tr' y1 y2) w) (Pt.ori.ir _)
      · exact ⟨by omega, .inr (.inr y)⟩
section
variable {α : Type}
theorem filter_none {t : α → Bool} {L : List α} (h : ∀ e ∈ L, t e = false) : (L.filter t).length = 0 := by
  rw [List.filter_eq_nil_iff.mpr fun e he => by rw [h e he]; decide]; rfl
theorem filter_one {t : α → Bool} : ∀ {L : List α}, L.Nodup → ∀ {e : α}, e ∈ L → t e = true → (∀ d ∈ L, t d = true → d = e) → (L.filter t).length = 1
  | a :: L, nd, e, he, ht, hu => by
    rw [List.nodup_cons] at nd
    by_cases z : t a = true
    · have ea := hu a (by simp) z
      subst ea
      rw [List.filter_cons_of_pos z, List.length_cons, filter_none fun d hd => ?_]
      cases y : t d with
      | false => rfl
      | true => exact absurd (hu d (by simp [hd]) y ▸ hd) nd.1
    · rw [List.filter_cons_of_neg z]
      rcases List.mem_cons.mp he with w | w
      · subst w; exact absurd ht z
      · exact filter_one nd.2 w ht fun d hd => hu d (by simp [hd])
theorem filter_or {s t : α → Bool} : ∀ {L : List α}, (∀ e ∈ L, ¬ (s e = true ∧ t e = true)) → (L.filter fun e => s e || t e).length = (L.filter s).length + (L.filter t).length
  | [], _ => rfl
  | a :: L, h => by
    have ih := filter_or (s := s) (t := t) (L := L) fun e he => h e (by simp [he])
    have ha := h a (by simp)
    cases z1 : s a <;> cases z2 : t a <;> simp [List.filter_cons, z1, z2, ih] <;> first | omega | (exact absurd ⟨z1, z2⟩ ha)
end
theorem nx_nodup {H : List Pt} (nd : H.Nodup) (h : H ≠ []) : (nx (H ++ H.take 1)).Nodup := by
  have := fst_nx H h
  have nd' : ((nx (H ++ H.take 1)).map Prod.fst).Nodup := by rw [this]; exact nd
  exact List.Pairwise.of_map Prod.fst (fun a b h e => h (by rw [e])) nd'
/-- strictly left of all sides -/
def inB (H : List Pt) (x : Pt) : Bool := (nx (H ++ H.take 1)).all fun e => decide (0 < Pt.o e.1 e.2 x)
theorem look_poly {H : List Pt} (P : Poly H) (x : Pt) : (if hasB H x = true then (1 : Int) else 0) - (((nx (H ++ H.take 1)).filter (onS x)).length : Int) + (if x ∈ H then 1 else 0) = if inB H x = true then 1 else 0 := by
  have hne : H ≠ [] := fun z => by have := P.len; rw [z] at this; simp at this
  have hb : hasB H x = (nx (H ++ H.take 1)).all fun e => decide (0 ≤ Pt.o e.1 e.2 x) := by
    match H, P.len with
    | a :: b :: c :: r, _ => exact hasB_3 a b c r x
  have corner : x ∈ H → ∀ a b, (a, b) ∈ nx (H ++ H.take 1) → 0 ≤ Pt.o a b x := fun hx a b h => by
    by_cases z1 : x = a
    · subst z1; rw [Pt.ori.z3]; exact Int.le_refl _
    · by_cases z2 : x = b
      · subst z2; rw [Pt.ori.z2]; exact Int.le_refl _
      · exact Int.le_of_lt ((P.pos a b h).2 x hx z1 z2)
  have onE : ∀ e ∈ nx (H ++ H.take 1), onS x e = true → ∀ a b, (a, b) ∈ nx (H ++ H.take 1) → 0 ≤ Pt.o a b x := fun e he ho a b h => by
    obtain ⟨u, v⟩ := e
    obtain ⟨mu, mv⟩ := nx_mem he
    have uv := (P.pos u v he).1
    obtain ⟨h0, w⟩ := (on_iff uv).mp ho
    have cu : 0 ≤ Pt.o a b u := by
      by_cases z1 : u = a
      · subst z1; rw [Pt.ori.z3]; exact Int.le_refl _
      · by_cases z2 : u = b
        · subst z2; rw [Pt.ori.z2]; exact Int.le_refl _
        · exact Int.le_of_lt ((P.pos a b h).2 u mu z1 z2)
    have cv : 0 ≤ Pt.o a b v := by
      by_cases z1 : v = a
      · subst z1; rw [Pt.ori.z3]; exact Int.le_refl _
      · by_cases z2 : v = b
        · subst z2; rw [Pt.ori.z2]; exact Int.le_refl _
        · exact Int.le_of_lt ((P.pos a b h).2 v mv z1 z2)
    have fin : ∀ {k α β p q : Int}, 0 < k → 0 < α → 0 < β → 0 ≤ p → 0 ≤ q → Pt.o a b x * k = p * α + q * β → 0 ≤ Pt.o a b x := fun {k α β p q} h1 h2 h3 h4 h5 e => by
      have w1 := Int.mul_nonneg h4 (show 0 ≤ α by omega)
      have w2 := Int.mul_nonneg h5 (show 0 ≤ β by omega)
      exact Int.le_of_mul_le_mul_right (a := k) (by omega) h1
    rcases w with w | w | ⟨w1, w2⟩ | ⟨w1, w2⟩
    · subst w; exact cu
    · subst w; exact cv
    · obtain ⟨k, α, β, p1, p2, p3, hh⟩ := seg_o w1 w2 h0
      exact fin p1 p2 p3 cu cv (hh a b)
    · have h0' : Pt.o v u x = 0 := by rw [Pt.ori.anti, h0]; rfl
      obtain ⟨k, α, β, p1, p2, p3, hh⟩ := seg_o w1 w2 h0'
      exact fin p1 p2 p3 cv cu (hh a b)
  by_cases left : ∀ a b, (a, b) ∈ nx (H ++ H.take 1) → 0 ≤ Pt.o a b x
  · have hT : hasB H x = true := by
      rw [hb, List.all_eq_true]
      exact fun e he => decide_eq_true (left e.1 e.2 he)
    rw [if_pos hT]
    by_cases all : ∀ a b, (a, b) ∈ nx (H ++ H.take 1) → 0 < Pt.o a b x
    · have iT : inB H x = true := by
        unfold inB
        rw [List.all_eq_true]
        exact fun e he => decide_eq_true (all e.1 e.2 he)
      have nH : x ∉ H := fun hx => by
        obtain ⟨y, z, h1, _, _⟩ := nbrs P.nd P.len hx
        have := all x y h1
        rw [Pt.ori.z3] at this
        omega
      have f0 := filter_none (t := onS x) (L := nx (H ++ H.take 1)) fun e he => by
        cases z : onS x e with
        | false => rfl
        | true =>
          have h0 := ((on_iff (P.pos e.1 e.2 he).1).mp z).1
          have := all e.1 e.2 he
          omega
      rw [if_pos iT, if_neg nH, f0]; rfl
    · have iF : ¬ inB H x = true := fun z => all fun a b h => by
        unfold inB at z
        rw [List.all_eq_true] at z
        exact of_decide_eq_true (z (a, b) h)
      rw [if_neg iF]
      by_cases hx : x ∈ H
      · rw [if_pos hx]
        have e2 : (nx (H ++ H.take 1)).filter (onS x) = (nx (H ++ H.take 1)).filter fun e => decide (e.1 = x) || decide (e.2 = x) := by
          refine List.filter_congr fun e he => ?_
          have uv := (P.pos e.1 e.2 he).1
          cases z : onS x e with
          | true =>
            have h0 := ((on_iff uv).mp z).1
            symm
            rw [Bool.or_eq_true, decide_eq_true_eq, decide_eq_true_eq]
            by_cases z1 : x = e.1
            · exact .inl z1.symm
            · by_cases z2 : x = e.2
              · exact .inr z2.symm
              · have := (P.pos e.1 e.2 he).2 x hx z1 z2
                omega
          | false =>
            symm
            rw [Bool.or_eq_false_iff, decide_eq_false_iff_not, decide_eq_false_iff_not]
            refine ⟨fun w => ?_, fun w => ?_⟩
            · have : onS x e = true := (on_iff uv).mpr ⟨by rw [← w, Pt.ori.z3], .inl w.symm⟩
              rw [z] at this; cases this
            · have : onS x e = true := (on_iff uv).mpr ⟨by rw [← w, Pt.ori.z2], .inr (.inl w.symm)⟩
              rw [z] at this; cases this
        rw [e2, filter_or fun e he z => (P.pos e.1 e.2 he).1 (by
          obtain ⟨z1, z2⟩ := z
          rw [decide_eq_true_eq] at z1 z2
          rw [z1, z2])]
        obtain ⟨y, z, h1, h2, _⟩ := nbrs P.nd P.len hx
        have nd := nx_nodup P.nd hne
        have f1 := filter_one (t := fun e : Pt × Pt => decide (e.1 = x)) nd h1 (by simp) fun d hd ht => by
          obtain ⟨d1, d2⟩ := d
          have : d1 = x := by simpa using ht
          subst this
          rw [next_uniq P.nd hd h1]
        have f2 := filter_one (t := fun e : Pt × Pt => decide (e.2 = x)) nd h2 (by simp) fun d hd ht => by
          obtain ⟨d1, d2⟩ := d
          have : d2 = x := by simpa using ht
          subst this
          rw [prev_uniq P.nd hd h2]
        rw [f1, f2]; rfl
      · rw [if_neg hx]
        obtain ⟨u, v, huv, h0⟩ : ∃ u v, (u, v) ∈ nx (H ++ H.take 1) ∧ Pt.o u v x = 0 := by
          refine Classical.byContradiction fun no => all fun a b h => ?_
          rcases Int.lt_or_eq_of_le (left a b h) with w | w
          · exact w
          · exact absurd ⟨a, b, h, w.symm⟩ no
        obtain ⟨mu, mv⟩ := nx_mem huv
        have nu : x ≠ u := fun e => hx (e ▸ mu)
        have nv : x ≠ v := fun e => hx (e ▸ mv)
        have bt := side_btw P left huv h0 nu nv
        have uv := (P.pos u v huv).1
        have on : onS x (u, v) = true := (on_iff uv).mpr ⟨h0, .inr (.inr bt)⟩
        have one := filter_one (t := onS x) (nx_nodup P.nd hne) huv on fun d hd ht => by
          obtain ⟨a, b⟩ := d
          have g0 := ((on_iff (P.pos a b hd).1).mp ht).1
          -- both ends of the one on the other
          have both : Pt.o a b u = 0 ∧ Pt.o a b v = 0 := by
            have cp : ∀ r ∈ H, 0 ≤ Pt.o a b r := fun r hr => by
              by_cases z1 : r = a
              · subst z1; rw [Pt.ori.z3]; exact Int.le_refl _
              · by_cases z2 : r = b
                · subst z2; rw [Pt.ori.z2]; exact Int.le_refl _
                · exact Int.le_of_lt ((P.pos a b hd).2 r hr z1 z2)
            have fin : ∀ {α β p q : Int}, 0 < α → 0 < β → 0 ≤ p → 0 ≤ q → 0 = p * α + q * β → p = 0 ∧ q = 0 := fun {α β p q} h2 h3 h4 h5 e => by
              have w1 := Int.mul_nonneg h4 (show 0 ≤ α by omega)
              have w2 := Int.mul_nonneg h5 (show 0 ≤ β by omega)
              refine ⟨?_, ?_⟩
              · rcases Int.mul_eq_zero.mp (show p * α = 0 by omega) with z | z <;> omega
              · rcases Int.mul_eq_zero.mp (show q * β = 0 by omega) with z | z <;> omega
            rcases bt with ⟨w1, w2⟩ | ⟨w1, w2⟩
            · obtain ⟨k, α, β, p1, p2, p3, hh⟩ := seg_o w1 w2 h0
              have := hh a b
              rw [g0, Int.zero_mul] at this
              exact fin p2 p3 (cp u mu) (cp v mv) this
            · have h0' : Pt.o v u x = 0 := by rw [Pt.ori.anti, h0]; rfl
              obtain ⟨k, α, β, p1, p2, p3, hh⟩ := seg_o w1 w2 h0'
              have := hh a b
              rw [g0, Int.zero_mul] at this
              exact (fin p2 p3 (cp v mv) (cp u mu) this).symm
          have eu : u = a ∨ u = b := Classical.byContradiction fun n => by
            have := (P.pos a b hd).2 u mu (fun e => n (.inl e)) (fun e => n (.inr e))
            omega
          have ev : v = a ∨ v = b := Classical.byContradiction fun n => by
            have := (P.pos a b hd).2 v mv (fun e => n (.inl e)) (fun e => n (.inr e))
            omega
          rcases eu with eu | eu
          · subst eu
            rw [next_uniq P.nd hd huv]
          · exfalso
            subst eu
            rcases ev with ev | ev
            · subst ev
              -- (u, v) and (v, u): a third corner stands on both sides
              obtain ⟨r, hr, r1, r2⟩ : ∃ r ∈ H, r ≠ u ∧ r ≠ v := by
                obtain ⟨w, z, s1, s2, hne3⟩ := nbrs P.nd P.len mv
                have ez := prev_uniq P.nd huv s2
                subst ez
                have ew := next_uniq P.nd hd s1
                exact absurd ew.symm hne3
              have k1 := (P.pos u v huv).2 r hr r1 r2
              have k2 := (P.pos v u hd).2 r hr r2 r1
              have := Pt.ori.anti u v r
              omega
            · exact uv ev.symm
        rw [one]; rfl
  · have hF : ¬ hasB H x = true := fun z => left fun a b h => by
      rw [hb, List.all_eq_true] at z
      exact of_decide_eq_true (z (a, b) h)
    have iF : ¬ inB H x = true := fun z => left fun a b h => by
      unfold inB at z
      rw [List.all_eq_true] at z
      exact Int.le_of_lt (of_decide_eq_true (z (a, b) h))
    have nH : x ∉ H := fun hx => left (corner hx)
    have f0 := filter_none (t := onS x) (L := nx (H ++ H.take 1)) fun e he => by
      cases z : onS x e with
      | false => rfl
      | true => exact absurd (onE e he z) left
    rw [if_neg hF, if_neg iF, if_neg nH, f0]; rfl
end PH

/-! Plates drawn near and far. -/
namespace PH
open PySem PySem.Spec L2
/-- a plate: the hull of some places -/
def PlateX (H : List Pt) : Prop := ∃ ps : List Pt, ps ≠ [] ∧ H = hullP ps
theorem PlateX.ok {H : List Pt} (h : PlateX H) : PlateOk H := by obtain ⟨ps, ne, rfl⟩ := h; exact (plate_ok ne).1
theorem PlateX.ne {H : List Pt} (h : PlateX H) : H ≠ [] := h.ok.ne
theorem PlateX.self {H : List Pt} (h : PlateX H) : hullP H = H := by obtain ⟨ps, ne, rfl⟩ := h; exact hull_hull ne
theorem PlateX.poly {H : List Pt} (h : PlateX H) (l : 3 ≤ H.length) : Poly H := by
  obtain ⟨ps, ne, rfl⟩ := h
  refine hull_poly ?_ l
  refine Classical.byContradiction fun n => ?_
  obtain ⟨a, e, _⟩ := ord_one ne n
  rw [e] at l; simp at l
theorem PlateX.two {a b : Pt} (h : PlateX [a, b]) : Pt.lt a b = true := h.ok.two
def spFar : DSp := fun ds Q => ∃ ps : List Pt, ds = [SRC, .list (ps.map pD)] ∧ (∀ p ∈ ps, PBd 4 2 p) ∧ ps.length ≤ 100 ∧ ∀ qs : List Pt, qs.length = ps.length → (∀ p ∈ qs, PBd 24 2 p) → Q (.list (qs.map pD))
def spPlateW : DSp := fun ds Q => ∃ ps : List Pt, ds = [SRC, .list (ps.map pD)] ∧ ps ≠ [] ∧ ps.length ≤ 1000 ∧ (∀ p ∈ ps, PBd 24 2 p) ∧ ∀ H : List Pt, PlateX H → (∀ p ∈ H, PBd 24 2 p) → H.length ≤ 8 → Q (.tuple (H.map pD))
def spMoreW : DSp := fun ds Q => ∃ (H ps : List Pt), ds = [SRC, .tuple (H.map pD), .list (ps.map pD)] ∧ PlateX H ∧ (∀ p ∈ H, PBd 24 2 p) ∧ H.length ≤ 8 ∧ ∀ H' : List Pt, PlateX H' → (∀ p ∈ H', PBd 27 4 p) → H'.length ≤ 128 → Q (.tuple (H'.map pD))
/-! rows of a heap -/
abbrev rowD (r : List Pt × Int) : D := .tuple [.tuple (r.1.map pD), .int r.2]
def insideL (H : List Pt) : List (List Pt × Int) := if H.length = 1 then H.map (fun p => ([p], 1)) else if H.length = 2 then (H, 1) :: H.map (fun p => ([p], -1)) else (H, 1) :: ((nx (H ++ H.take 1)).map fun e => (hullP [e.1, e.2], -1)) ++ H.map fun p => ([p], 1)
def spInside : DSp := fun ds Q => ∃ H : List Pt, ds = [.tuple (H.map pD)] ∧ H ≠ [] ∧ (∀ p ∈ H, PB 30 p) ∧ H.length ≤ 200 ∧ Q (.list ((insideL H).map rowD))
def lookS (rows : List (List Pt × Int)) (p : Pt) : Int := ((rows.filter fun r => hasB r.1 p).map fun r => r.2).sum
def spLook : DSp := fun ds Q => ∃ (rows : List (List Pt × Int)) (p : Pt) (k : Nat), ds = [.list (rows.map rowD), pD p] ∧ (∀ r ∈ rows, PlateOk r.1 ∧ (∀ x ∈ r.1, PB k x) ∧ r.1.length ≤ 1000) ∧ PB k p ∧ k ≤ 1000 ∧ rows.length ≤ 1000 ∧ Q (.int (lookS rows p))
/-- just inside of a plate -/
def isIn (H : List Pt) (p : Pt) : Bool := match H with
  | [a] => decide (a = p)
  | [a, b] => hasB [a, b] p && !decide (p ∈ [a, b])
  | H => inB H p
/-- the look of the inside's rows is 1 just inside -/
theorem look_inside {H : List Pt} (h : PlateX H) (p : Pt) : lookS (insideL H) p = if isIn H p = true then 1 else 0 := by
  have one : ∀ a : Pt, hasB [a] p = decide (a = p) := fun a => rfl
  match H, h with
  | [], h => exact absurd rfl h.ne
  | [a], _ =>
    unfold lookS insideL isIn
    simp only [List.length_cons, List.length_nil, if_true, List.map_cons, List.map_nil, List.filter_cons, List.filter_nil, one]
    split <;> simp
  | [a, b], h =>
    have ab := h.two
    have ne : a ≠ b := fun e => by subst e; exact Pt.ori.ir _ ab
    have ha : hasB [a, b] a = true := by
      rw [hasB_2, Pt.ori.z3, lt_no (.inl rfl), lt_no (.inr ab)]; rfl
    have hb : hasB [a, b] b = true := by
      rw [hasB_2, Pt.ori.z2, lt_no (.inl rfl), lt_no (.inr ab)]; rfl
    have eI : insideL [a, b] = [([a, b], 1), ([a], -1), ([b], -1)] := rfl
    have one' : ∀ q : Pt, hasB [q] p = decide (q = p) := fun q => rfl
    have eN : isIn [a, b] p = (hasB [a, b] p && !decide (p ∈ [a, b])) := rfl
    rw [eI, eN]
    unfold lookS
    by_cases e1 : a = p
    · subst e1
      have e2 : ¬ b = a := fun e => ne e.symm
      rw [List.filter_cons, List.filter_cons, List.filter_cons]
      dsimp only
      rw [ha, one', one', decide_eq_true rfl, decide_eq_false e2]
      simp
    · by_cases e2 : b = p
      · subst e2
        rw [List.filter_cons, List.filter_cons, List.filter_cons]
        dsimp only
        rw [hb, one', one', decide_eq_true rfl, decide_eq_false e1]
        simp
      · have e1' : ¬ p = a := fun e => e1 e.symm
        have e2' : ¬ p = b := fun e => e2 e.symm
        rw [List.filter_cons, List.filter_cons, List.filter_cons]
        dsimp only
        rw [one', one', decide_eq_false e1, decide_eq_false e2]
        cases z : hasB [a, b] p <;> simp [e1', e2']
  | a :: b :: c :: r, h =>
    have P := h.poly (by simp)
    have key := look_poly P p
    generalize hH : a :: b :: c :: r = H at P key h ⊢
    have hl : 3 ≤ H.length := P.len
    have hi : isIn H p = inB H p := by rw [← hH]; rfl
    rw [hi, ← key]
    unfold lookS insideL
    rw [if_neg (by omega), if_neg (by omega)]
    rw [List.filter_append, List.map_append, List.sum_append, List.filter_cons]
    have s1 : ∀ L : List (Pt × Pt), (((L.map fun e => (hullP [e.1, e.2], (-1 : Int))).filter fun r => hasB r.1 p).map fun r => r.2).sum = -((L.filter (onS p)).length : Int) := by
      intro L
      induction L with
      | nil => rfl
      | cons e L ih =>
        rw [List.map_cons, List.filter_cons, List.filter_cons]
        have eo : onS p e = hasB (hullP [e.1, e.2]) p := rfl
        rw [eo]
        dsimp only
        cases z : hasB (hullP [e.1, e.2]) p
        · simpa using ih
        · simp only [if_true, List.map_cons, List.sum_cons, ih, List.length_cons]; omega
    have s2 : ∀ L : List Pt, L.Nodup → (((L.map fun q => (([q] : List Pt), (1 : Int))).filter fun r => hasB r.1 p).map fun r => r.2).sum = if p ∈ L then 1 else 0 := by
      intro L nd
      induction L with
      | nil => rfl
      | cons q L ih =>
        rw [List.nodup_cons] at nd
        rw [List.map_cons, List.filter_cons]
        dsimp only
        rw [one]
        by_cases z : q = p
        · subst z
          have := ih nd.2
          rw [if_neg nd.1] at this
          simp only [decide_true, if_true, List.map_cons, List.sum_cons, this, List.mem_cons, true_or]; rfl
        · have zz : ¬ p = q := fun e => z e.symm
          simp only [z, decide_false, Bool.false_eq_true, if_false, ih nd.2, List.mem_cons, zz, false_or]
    rw [s2 H P.nd]
    dsimp only
    cases z : hasB H p
    · simp only [Bool.false_eq_true, if_false, s1]; omega
    · simp only [if_true, List.map_cons, List.sum_cons, s1]; omega
def spIsIn : DSp := fun ds Q => ∃ (H : List Pt) (p : Pt) (k : Nat), ds = [.tuple (H.map pD), pD p] ∧ PlateOk H ∧ (∀ x ∈ H, PB k x) ∧ PB k p ∧ k ≤ 1000 ∧ H.length ≤ 1000 ∧ Q (.bool (isIn H p))
theorem dIn_pT {neg : Bool} {xs : List Pt} {u : Pt} {Q : D → Prop} (h : Q (.bool (if neg = true then !decide (u ∈ xs) else decide (u ∈ xs)))) : dIn neg (pD u) (.tuple (xs.map pD)) Q := by
  refine ⟨sh_iii, sh_pts xs, ?_⟩
  rw [any_pD]
  exact h
theorem all_map {α : Type} {t : α → Bool} {xs : List α} {Q : D → Prop} (h : Q (.bool (xs.all t))) : dAll [.list (xs.map fun x => PyData.bool (t x))] Q := by
  unfold dAll
  dsimp only
  rw [bools_map]
  dsimp only
  rw [List.all_map]
  exact h
theorem zip_all {α β : Type} (t : β → Bool) : ∀ (xs : List α) (ys : List β), xs.length = ys.length → ((xs.zip ys).all fun q => t q.2) = ys.all t
  | [], [], _ => rfl
  | [], y :: ys, h => by simp at h
  | x :: xs, [], h => by simp at h
  | x :: xs, y :: ys, h => by simp only [List.zip_cons_cons, List.all_cons]; rw [zip_all t xs ys (by simpa using h)]
theorem in_rot {H : List Pt} (h : H ≠ []) (p : Pt) : ((rot H).all fun e => decide (Int.sign (Pt.o e.1 e.2 p) = 1)) = inB H p := by
  have rn := rot_nx H h
  unfold inB
  have sg : ∀ z : Int, Int.sign z = 1 ↔ 0 < z := fun z => by
    rcases Int.lt_trichotomy z 0 with y | y | y
    · rw [Int.sign_eq_neg_one_of_neg y]; omega
    · rw [y]; decide
    · rw [Int.sign_eq_one_of_pos y]; omega
  rw [Bool.eq_iff_iff, List.all_eq_true, List.all_eq_true]
  constructor
  · intro w e he
    have := of_decide_eq_true (w e ((rn e).mpr he))
    exact decide_eq_true ((sg _).mp this)
  · intro w e he
    have := of_decide_eq_true (w e ((rn e).mp he))
    exact decide_eq_true ((sg _).mpr this)
theorem dIf_yes {c : DT} {t e : DS} {Dd : DEnds} {σd : DSt} (hc : ∀ R : Bool → Prop, R true → c σd R) (ht : t Dd σd) : dIf c t e Dd σd := hc _ (iteT ht)
theorem dIf_not {c : DT} {t e : DS} {Dd : DEnds} {σd : DSt} (hc : ∀ R : Bool → Prop, R false → c σd R) (he : e Dd σd) : dIf c t e Dd σd := hc _ (iteF he)
theorem due_sign {H : List Pt} (ne : H ≠ []) : ∃ sg : Int, L2.atI [PyData.int 0, .int 0, .int (0 - 1), .int 1] (if (3 : Int) < (H.length : Int) then 3 else (H.length : Int)) = some (.int sg) ∧
    ((H, (1 : Int)) :: if 2 < H.length then (nx (H ++ H.take 1)).map fun e => (hullP [e.1, e.2], -1) else []) ++ ((H.filter fun _ => decide (sg ≠ 0)).map fun p => (([p] : List Pt), sg)) = insideL H := by
  match H, ne with
  | [a], _ => exact ⟨0, by rfl, by simp [insideL]⟩
  | [a, b], _ => exact ⟨-1, by rfl, by simp [insideL]⟩
  | a :: b :: c :: r, _ =>
    refine ⟨1, ?_, ?_⟩
    · have e : (if (3 : Int) < (((a :: b :: c :: r).length : Nat) : Int) then (3 : Int) else (((a :: b :: c :: r).length : Nat) : Int)) = 3 := by
        have : ((a :: b :: c :: r).length : Int) = r.length + 3 := by simp only [List.length_cons]; omega
        rw [this]; split <;> omega
      rw [e]; rfl
    · unfold insideL
      rw [if_pos (by simp), if_neg (by simp), if_neg (by simp)]
      have ef : (a :: b :: c :: r).filter (fun _ => decide ((1 : Int) ≠ 0)) = a :: b :: c :: r := List.filter_eq_self.mpr fun _ _ => by decide
      rw [ef]
end PH

/-! Rows of insides: told, alike, shown. Walks over what is told by a property. -/
namespace PH
open PySem PySem.Spec L2
theorem lf_map {α : Type} (f : α → D) (h : ∀ x, listFree (f x) = true) : ∀ xs : List α, listFrees (xs.map f) = true
  | [] => by simp [listFrees]
  | x :: xs => by
    have := lf_map f h xs
    simp only [List.map_cons, listFrees, h x, this, Bool.and_self]
theorem lf_row (r : List Pt × Int) : listFree (rowD r) = true := by
  have := lf_pts r.1
  simp only [listFree, listFrees, this, Bool.and_self]
theorem lf_rows (rs : List (List Pt × Int)) : listFrees (rs.map rowD) = true := lf_map rowD lf_row rs
theorem lay_row (r : List Pt × Int) : (rowD r).canLay0 = true ∧ (rowD r).depth ≤ 9 := by
  obtain ⟨h1, h2⟩ := lay_map pD lay_pt r.1
  refine ⟨by simp [PyData.canLay0, PyData.canLayAll0, h1], ?_⟩
  simp only [PyData.depth, PyData.depthAll]
  omega
theorem sh_map {α : Type} (f : α → D) {n : Nat} (h : ∀ x, (f x).canLay0 = true ∧ (f x).depth ≤ n) (hn : n ≤ 60) (xs : List α) : SeqAt.shaped (.list (xs.map f)) = true ∧ SeqAt.shaped (.tuple (xs.map f)) = true := by
  obtain ⟨h1, h2⟩ := lay_map f h xs
  have e1 : (PyData.list (xs.map f)).canLay0 = true := by simpa [PyData.canLay0] using h1
  have e2 : (PyData.list (xs.map f)).depth ≤ 64 := by simp only [PyData.depth]; omega
  have e3 : (PyData.tuple (xs.map f)).canLay0 = true := by simpa [PyData.canLay0] using h1
  have e4 : (PyData.tuple (xs.map f)).depth ≤ 64 := by simp only [PyData.depth]; omega
  unfold SeqAt.shaped
  rw [e1, e3, decide_eq_true e2, decide_eq_true e4]; exact ⟨rfl, rfl⟩
theorem sh_rowsD (rs : List (List Pt × Int)) : SeqAt.shaped (.list (rs.map rowD)) = true := (sh_map rowD lay_row (by decide) rs).1
/-- data that can be shown: bulk told item by item -/
structure Okb (d : D) (b n : Nat) : Prop where
  tm : tame d
  bk : d.bulk ≤ b
  dp : d.depth ≤ n
  nd : d.hasDict = false
theorem okb_map {α : Type} (f : α → D) (b : α → Nat) (n : Nat) : ∀ xs : List α, (∀ x ∈ xs, Okb (f x) (b x) n) → tames (xs.map f) ∧ PyData.bulkAll (xs.map f) ≤ (xs.map fun x => b x + 1).sum ∧ PyData.depthAll (xs.map f) ≤ n ∧ PyData.hasDictAll (xs.map f) = false
  | [], _ => ⟨trivial, by simp [PyData.bulkAll], by simp [PyData.depthAll], by simp [PyData.hasDictAll]⟩
  | x :: xs, h => by
    obtain ⟨a1, a2, a3, a4⟩ := h x (by simp)
    obtain ⟨c1, c2, c3, c4⟩ := okb_map f b n xs fun y hy => h y (by simp [hy])
    refine ⟨?_, ?_, ?_, ?_⟩
    · simp only [List.map_cons, tames]; exact ⟨a1, c1⟩
    · simp only [List.map_cons, PyData.bulkAll, List.sum_cons]; omega
    · simp only [List.map_cons, PyData.depthAll]; omega
    · simp only [List.map_cons, PyData.hasDictAll, a4, c4, Bool.or_self]
theorem okb_pt {k : Nat} (hk : k ≤ 900) (p : Pt) (h : PB k p) : Okb (pD p) 6 5 := by
  obtain ⟨h1, _, h3, h4⟩ := ok_pt hk p h
  exact ⟨h1, by simp [PyData.bulk, PyData.bulkAll], h3, h4⟩
theorem sum_le {α : Type} (f : α → Nat) (c : Nat) : ∀ xs : List α, (∀ x ∈ xs, f x ≤ c) → (xs.map f).sum ≤ c * xs.length
  | [], _ => by simp
  | x :: xs, h => by
    have h1 := h x (by simp)
    have h2 := sum_le f c xs fun y hy => h y (by simp [hy])
    simp only [List.map_cons, List.sum_cons, List.length_cons, Nat.mul_add, Nat.mul_one]
    omega
theorem okb_row {k : Nat} (hk : k ≤ 900) (r : List Pt × Int) (h : ∀ p ∈ r.1, PB k p) (hr : Bd 900 r.2) : Okb (rowD r) (7 * r.1.length + 4) 9 := by
  obtain ⟨c1, c2, c3, c4⟩ := okb_map pD (fun _ => 6) 5 r.1 fun p hp => okb_pt hk p (h p hp)
  have s := sum_le (fun _ : Pt => 6 + 1) 7 r.1 fun _ _ => Nat.le_refl _
  refine ⟨?_, ?_, ?_, ?_⟩
  · exact ⟨c1, hr.h, trivial⟩
  · simp only [PyData.bulk, PyData.bulkAll]; omega
  · simp only [PyData.depth, PyData.depthAll]; omega
  · simp only [PyData.hasDict, PyData.hasDictAll, c4, Bool.or_self]
theorem rOk_rows {k : Nat} (hk : k ≤ 900) {rs : List (List Pt × Int)} (h : ∀ r ∈ rs, (∀ p ∈ r.1, PB k p) ∧ Bd 900 r.2) (hs : (rs.map fun r => 7 * r.1.length + 4 + 1).sum ≤ 39000) : rOk (.list (rs.map rowD)) := by
  obtain ⟨c1, c2, c3, c4⟩ := okb_map rowD (fun r => 7 * r.1.length + 4) 9 rs fun r hr => okb_row hk r (h r hr).1 (h r hr).2
  refine rOk_of c1 ?_ ?_ ?_
  · simp only [PyData.bulk]; omega
  · simp only [PyData.depth]; omega
  · intro z
    simp only [PyData.hasDict, c4] at z
    cases z
theorem inside_mem {H : List Pt} (ne : H ≠ []) (hX : PlateOk H) {r : List Pt × Int} (hr : r ∈ insideL H) : PlateOk r.1 ∧ (∀ x ∈ r.1, x ∈ H) ∧ r.2.natAbs ≤ 1 ∧ r.1.length ≤ H.length + 2 := by
  have one : ∀ (p : Pt) (w : Int), p ∈ H → w.natAbs ≤ 1 → PlateOk ([p] : List Pt) ∧ (∀ x ∈ [p], x ∈ H) ∧ w.natAbs ≤ 1 ∧ [p].length ≤ H.length + 2 := fun p w hp hw => ⟨.inl ⟨p, rfl⟩, fun x hx => by rw [List.mem_singleton.mp hx]; exact hp, hw, by simp⟩
  have self : PlateOk H ∧ (∀ x ∈ H, x ∈ H) ∧ (1 : Int).natAbs ≤ 1 ∧ H.length ≤ H.length + 2 := ⟨hX, fun x hx => hx, by decide, by omega⟩
  unfold insideL at hr
  split at hr
  · obtain ⟨p, hp, rfl⟩ := List.mem_map.mp hr
    exact one p 1 hp (by decide)
  split at hr
  · rcases List.mem_cons.mp hr with rfl | hr
    · exact self
    obtain ⟨p, hp, rfl⟩ := List.mem_map.mp hr
    exact one p (-1) hp (by decide)
  · rcases List.mem_append.mp hr with hr | hr
    · rcases List.mem_cons.mp hr with rfl | hr
      · exact self
      obtain ⟨e, he, rfl⟩ := List.mem_map.mp hr
      obtain ⟨m1, m2⟩ := nx_mem he
      obtain ⟨P1, P2, P3⟩ := plate_ok (ps := [e.1, e.2]) (by simp)
      refine ⟨P1, fun x hx => ?_, show (-1 : Int).natAbs ≤ 1 by decide, ?_⟩
      · have := P2 x hx
        simp only [List.mem_cons, List.not_mem_nil, or_false] at this
        rcases this with rfl | rfl <;> assumption
      · have := (plate_ok (ps := [e.1, e.2]) (by simp)).2.2
        simp at this
        show (hullP [e.1, e.2]).length ≤ _
        have l2 : 0 < H.length := List.length_pos_iff.mpr ne
        omega
    · obtain ⟨p, hp, rfl⟩ := List.mem_map.mp hr
      exact one p 1 hp (by decide)
theorem inside_sum {H : List Pt} (ne : H ≠ []) : (insideL H).length ≤ 2 * H.length + 1 ∧ ((insideL H).map fun r => 7 * r.1.length + 4 + 1).sum ≤ 100 * H.length + 100 := by
  have nl := nx_len H ne
  have h4 : ∀ e : Pt × Pt, (hullP [e.1, e.2]).length ≤ 4 := fun e => by
    have := (plate_ok (ps := [e.1, e.2]) (by simp)).2.2
    simp at this
    omega
  unfold insideL
  split
  · have := sum_le (fun r : List Pt × Int => 7 * r.1.length + 4 + 1) 12 (H.map fun p => (([p] : List Pt), (1 : Int))) fun r hr => by
      obtain ⟨p, _, rfl⟩ := List.mem_map.mp hr; simp
    rw [List.length_map] at this ⊢
    exact ⟨by omega, by omega⟩
  split
  · have := sum_le (fun r : List Pt × Int => 7 * r.1.length + 4 + 1) 12 (H.map fun p => (([p] : List Pt), (-1 : Int))) fun r hr => by
      obtain ⟨p, _, rfl⟩ := List.mem_map.mp hr; simp
    rw [List.length_map] at this
    simp only [List.length_cons, List.map_cons, List.sum_cons, List.length_map]
    exact ⟨by omega, by omega⟩
  · have s1 := sum_le (fun r : List Pt × Int => 7 * r.1.length + 4 + 1) 12 (H.map fun p => (([p] : List Pt), (1 : Int))) fun r hr => by
      obtain ⟨p, _, rfl⟩ := List.mem_map.mp hr; simp
    have s2 := sum_le (fun r : List Pt × Int => 7 * r.1.length + 4 + 1) 33 ((nx (H ++ H.take 1)).map fun e => (hullP [e.1, e.2], (-1 : Int))) fun r hr => by
      obtain ⟨e, _, rfl⟩ := List.mem_map.mp hr
      have := h4 e
      show 7 * (hullP [e.1, e.2]).length + 4 + 1 ≤ 33
      omega
    rw [List.length_map] at s1 s2
    rw [nl] at s2
    simp only [List.length_append, List.map_append, List.sum_append, List.length_cons, List.map_cons, List.sum_cons, List.length_map, nl]
    exact ⟨by omega, by omega⟩
/-- a walk over things told by a property alone -/
theorem dFor_p {mi : DA} {g : DG} {mb rest : DS} {Dd : DEnds} {σd : DSt} (P : D → Prop) (W : DSt → Prop) (hi : ∀ R : List D → Prop, (∀ ys : List D, (∀ y ∈ ys, P y) → R ys) → mi σd R) (h0 : W σd)
    (ht : ∀ y, P y → ∀ σ', W σ' → g y σ' fun σ2 => mb { Dd with nx := W, ct := W, bk := rest Dd } σ2) (hr : ∀ σ', W σ' → rest Dd σ') : dSeq (dFor mi g mb) rest Dd σd :=
  hi _ fun ys hy => ⟨fun _ => W, h0, fun i y σ' e w => ht y (hy y (List.mem_of_getElem? e)) σ' w, fun σ' w => hr σ' w⟩
end PH


namespace K18
open PySem PySem.Spec L2 PH
open PyProof.Rows (envOfC)
/-! ### the text by places -/
def top (i : Nat) : Stmt := PySem.Challenge.pw_plateheaps_k18_insides_of_plates.main.body.getD i (.Pass ⟨0, 0, 0, 0⟩)
abbrev s_turn : Stmt := top 4
abbrev s_fineness : Stmt := top 5
abbrev s_place_key : Stmt := top 6
abbrev s_ascending : Stmt := top 7
abbrev s_left_turns : Stmt := top 9
abbrev s_hull : Stmt := top 10
abbrev s_ways : Stmt := top 11
abbrev s_inside : Stmt := top 13
abbrev s_l_open_cells : Stmt := top 15
abbrev s_l_pick : Stmt := top 16
abbrev s_l_common : Stmt := top 17
abbrev s_l_place : Stmt := top 18
abbrev s_l_first : Stmt := top 19
abbrev s_l_places : Stmt := top 20
abbrev s_l_step : Stmt := top 21
abbrev s_l_turn : Stmt := top 22
abbrev s_l_chain : Stmt := top 23
abbrev s_l_hull : Stmt := top 24
abbrev s_l_has : Stmt := top 25
abbrev s_l_look : Stmt := top 26
abbrev s_l_middle : Stmt := top 27
abbrev s_l_draw_place : Stmt := top 28
abbrev s_l_draw_pool : Stmt := top 29
abbrev s_l_draw_plate : Stmt := top 30
abbrev s_l_due : Stmt := top 31
abbrev s_l_is_inside : Stmt := top 32
abbrev s_l_far_pool : Stmt := top 33
abbrev s_l_more_corners : Stmt := top 34
abbrev s_law : Stmt := top 35
/-! ### the head: facts by names -/
def d_turn : He.DefD := ⟨("turn", none), "turn", "turn", defArgs s_turn, defBody s_turn, defScope s_turn, [], []⟩
def d_fineness : He.DefD := ⟨("fineness", none), "fineness", "fineness", defArgs s_fineness, defBody s_fineness, defScope s_fineness, [], []⟩
def d_place_key : He.DefD := ⟨("place_key", none), "place_key", "place_key", defArgs s_place_key, defBody s_place_key, defScope s_place_key, [], []⟩
def d_ascending : He.DefD := ⟨("ascending", none), "ascending", "ascending", defArgs s_ascending, defBody s_ascending, defScope s_ascending, [], []⟩
def d_left_turns : He.DefD := ⟨("left_turns", none), "left_turns", "left_turns", defArgs s_left_turns, defBody s_left_turns, defScope s_left_turns, [], []⟩
def d_hull : He.DefD := ⟨("hull", none), "hull", "hull", defArgs s_hull, defBody s_hull, defScope s_hull, [], []⟩
def d_ways : He.DefD := ⟨("ways", none), "ways", "ways", defArgs s_ways, defBody s_ways, defScope s_ways, [], []⟩
def d_inside : He.DefD := ⟨("inside", none), "inside", "inside", defArgs s_inside, defBody s_inside, defScope s_inside, [], []⟩
def d_l_open_cells : He.DefD := ⟨("_law_open_cells", none), "_law_open_cells", "_law_open_cells", defArgs s_l_open_cells, defBody s_l_open_cells, defScope s_l_open_cells, [], []⟩
def d_l_pick : He.DefD := ⟨("_law_pick", none), "_law_pick", "_law_pick", defArgs s_l_pick, defBody s_l_pick, defScope s_l_pick, [], []⟩
def d_l_common : He.DefD := ⟨("_law_common", none), "_law_common", "_law_common", defArgs s_l_common, defBody s_l_common, defScope s_l_common, [], []⟩
def d_l_place : He.DefD := ⟨("_law_place", none), "_law_place", "_law_place", defArgs s_l_place, defBody s_l_place, defScope s_l_place, [], []⟩
def d_l_first : He.DefD := ⟨("_law_first", none), "_law_first", "_law_first", defArgs s_l_first, defBody s_l_first, defScope s_l_first, [], []⟩
def d_l_places : He.DefD := ⟨("_law_places", none), "_law_places", "_law_places", defArgs s_l_places, defBody s_l_places, defScope s_l_places, [], []⟩
def d_l_step : He.DefD := ⟨("_law_step", none), "_law_step", "_law_step", defArgs s_l_step, defBody s_l_step, defScope s_l_step, [], []⟩
def d_l_turn : He.DefD := ⟨("_law_turn", none), "_law_turn", "_law_turn", defArgs s_l_turn, defBody s_l_turn, defScope s_l_turn, [], []⟩
def d_l_chain : He.DefD := ⟨("_law_chain", none), "_law_chain", "_law_chain", defArgs s_l_chain, defBody s_l_chain, defScope s_l_chain, [], []⟩
def d_l_hull : He.DefD := ⟨("_law_hull", none), "_law_hull", "_law_hull", defArgs s_l_hull, defBody s_l_hull, defScope s_l_hull, [], []⟩
def d_l_has : He.DefD := ⟨("_law_has", none), "_law_has", "_law_has", defArgs s_l_has, defBody s_l_has, defScope s_l_has, [], []⟩
def d_l_look : He.DefD := ⟨("_law_look", none), "_law_look", "_law_look", defArgs s_l_look, defBody s_l_look, defScope s_l_look, [], []⟩
def d_l_middle : He.DefD := ⟨("_law_middle", none), "_law_middle", "_law_middle", defArgs s_l_middle, defBody s_l_middle, defScope s_l_middle, [], []⟩
def d_l_draw_place : He.DefD := ⟨("_law_draw_place", none), "_law_draw_place", "_law_draw_place", defArgs s_l_draw_place, defBody s_l_draw_place, defScope s_l_draw_place, [], []⟩
def d_l_draw_pool : He.DefD := ⟨("_law_draw_pool", none), "_law_draw_pool", "_law_draw_pool", defArgs s_l_draw_pool, defBody s_l_draw_pool, defScope s_l_draw_pool, [], []⟩
def d_l_draw_plate : He.DefD := ⟨("_law_draw_plate", none), "_law_draw_plate", "_law_draw_plate", defArgs s_l_draw_plate, defBody s_l_draw_plate, defScope s_l_draw_plate, [], []⟩
def d_l_due : He.DefD := ⟨("_law_due", none), "_law_due", "_law_due", defArgs s_l_due, defBody s_l_due, defScope s_l_due, [], []⟩
def d_l_is_inside : He.DefD := ⟨("_law_is_inside", none), "_law_is_inside", "_law_is_inside", defArgs s_l_is_inside, defBody s_l_is_inside, defScope s_l_is_inside, [], []⟩
def d_l_far_pool : He.DefD := ⟨("_law_far_pool", none), "_law_far_pool", "_law_far_pool", defArgs s_l_far_pool, defBody s_l_far_pool, defScope s_l_far_pool, [], []⟩
def d_l_more_corners : He.DefD := ⟨("_law_more_corners", none), "_law_more_corners", "_law_more_corners", defArgs s_l_more_corners, defBody s_l_more_corners, defScope s_l_more_corners, [], []⟩
def d_law : He.DefD := ⟨("law", none), "law", "law", defArgs s_law, defBody s_law, defScope s_law, [], []⟩
def fnL : List He.DefD := [d_turn, d_fineness, d_place_key, d_ascending, d_left_turns, d_hull, d_ways, d_inside, d_l_open_cells, d_l_pick, d_l_common, d_l_place, d_l_first, d_l_places, d_l_step, d_l_turn, d_l_chain, d_l_hull, d_l_has, d_l_look, d_l_middle, d_l_draw_place, d_l_draw_pool, d_l_draw_plate, d_l_due, d_l_is_inside, d_l_far_pool, d_l_more_corners, d_law]
def faL : List He.Fa := [.glo "turn", .glo "fineness", .glo "place_key", .glo "ascending", .glo "left_turns", .glo "hull", .glo "ways", .glo "inside", .glo "_law_open_cells", .glo "_law_pick", .glo "_law_common", .glo "_law_place", .glo "_law_first", .glo "_law_places", .glo "_law_step", .glo "_law_turn", .glo "_law_chain", .glo "_law_hull", .glo "_law_has", .glo "_law_look", .glo "_law_middle", .glo "_law_draw_place", .glo "_law_draw_pool", .glo "_law_draw_plate", .glo "_law_due", .glo "_law_is_inside", .glo "_law_far_pool", .glo "_law_more_corners", .glo "law", .free "abs", .free "all", .free "any", .free "enumerate", .free "int", .free "isinstance", .free "len", .free "list", .free "max", .free "min", .free "range", .free "repr", .free "sorted", .free "sum", .free "tuple", .free "zip"]
def exB (K : PySem.W.Frag) : Bool := ownB K "NoPlaces" && lamB K "ascending" 64 60
structure Tx (K : PySem.W.Frag) (mg : Str → Option Value) (base : Heap) : Prop where
  b_abs : mg "abs" = none
  b_all : mg "all" = none
  b_any : mg "any" = none
  b_enumerate : mg "enumerate" = none
  b_int : mg "int" = none
  b_isinstance : mg "isinstance" = none
  b_len : mg "len" = none
  b_list : mg "list" = none
  b_max : mg "max" = none
  b_min : mg "min" = none
  b_range : mg "range" = none
  b_repr : mg "repr" = none
  b_sorted : mg "sorted" = none
  b_sum : mg "sum" = none
  b_tuple : mg "tuple" = none
  b_zip : mg "zip" = none
  x_NoPlaces : OwnV K mg "NoPlaces"
  f_turn : Dfn K mg "turn" s_turn
  f_fineness : Dfn K mg "fineness" s_fineness
  f_place_key : Dfn K mg "place_key" s_place_key
  f_ascending : DfnC K mg "ascending" s_ascending 64
  f_left_turns : Dfn K mg "left_turns" s_left_turns
  f_hull : Dfn K mg "hull" s_hull
  f_ways : Dfn K mg "ways" s_ways
  f_inside : Dfn K mg "inside" s_inside
  f_l_open_cells : Dfn K mg "_law_open_cells" s_l_open_cells
  f_l_pick : Dfn K mg "_law_pick" s_l_pick
  f_l_common : Dfn K mg "_law_common" s_l_common
  f_l_place : Dfn K mg "_law_place" s_l_place
  f_l_first : Dfn K mg "_law_first" s_l_first
  f_l_places : Dfn K mg "_law_places" s_l_places
  f_l_step : Dfn K mg "_law_step" s_l_step
  f_l_turn : Dfn K mg "_law_turn" s_l_turn
  f_l_chain : Dfn K mg "_law_chain" s_l_chain
  f_l_hull : Dfn K mg "_law_hull" s_l_hull
  f_l_has : Dfn K mg "_law_has" s_l_has
  f_l_look : Dfn K mg "_law_look" s_l_look
  f_l_middle : Dfn K mg "_law_middle" s_l_middle
  f_l_draw_place : Dfn K mg "_law_draw_place" s_l_draw_place
  f_l_draw_pool : Dfn K mg "_law_draw_pool" s_l_draw_pool
  f_l_draw_plate : Dfn K mg "_law_draw_plate" s_l_draw_plate
  f_l_due : Dfn K mg "_law_due" s_l_due
  f_l_is_inside : Dfn K mg "_law_is_inside" s_l_is_inside
  f_l_far_pool : Dfn K mg "_law_far_pool" s_l_far_pool
  f_l_more_corners : Dfn K mg "_law_more_corners" s_l_more_corners
  f_law : Dfn K mg "law" s_law
  t_ascending : TabM base mg 64 60 "ascending.<locals>.<lambda>"
theorem tx_of {K : PySem.W.Frag} {h base : Heap} {mg : Str → Option Value} (X : K.In h) (G : h.Ns mainGlobals mg) (c : SaysE faL fnL exB K) (B_ascending : TabM base mg 64 60 "ascending.<locals>.<lambda>") : Tx K mg base where
  b_abs := He.free_ok X G (c.d.fact 29 (f := .free "abs") rfl)
  b_all := He.free_ok X G (c.d.fact 30 (f := .free "all") rfl)
  b_any := He.free_ok X G (c.d.fact 31 (f := .free "any") rfl)
  b_enumerate := He.free_ok X G (c.d.fact 32 (f := .free "enumerate") rfl)
  b_int := He.free_ok X G (c.d.fact 33 (f := .free "int") rfl)
  b_isinstance := He.free_ok X G (c.d.fact 34 (f := .free "isinstance") rfl)
  b_len := He.free_ok X G (c.d.fact 35 (f := .free "len") rfl)
  b_list := He.free_ok X G (c.d.fact 36 (f := .free "list") rfl)
  b_max := He.free_ok X G (c.d.fact 37 (f := .free "max") rfl)
  b_min := He.free_ok X G (c.d.fact 38 (f := .free "min") rfl)
  b_range := He.free_ok X G (c.d.fact 39 (f := .free "range") rfl)
  b_repr := He.free_ok X G (c.d.fact 40 (f := .free "repr") rfl)
  b_sorted := He.free_ok X G (c.d.fact 41 (f := .free "sorted") rfl)
  b_sum := He.free_ok X G (c.d.fact 42 (f := .free "sum") rfl)
  b_tuple := He.free_ok X G (c.d.fact 43 (f := .free "tuple") rfl)
  b_zip := He.free_ok X G (c.d.fact 44 (f := .free "zip") rfl)
  t_ascending := B_ascending
  x_NoPlaces := ownB_ok X G (by have := c.more; simp only [exB, Bool.and_eq_true] at this; exact this.1)
  f_ascending := lamB_code X G (let ⟨fd, F⟩ := c.d.def_ 3 (d := d_ascending) rfl; ⟨_, fd, He.glo_ok X G (c.d.fact 3 (f := .glo "ascending") rfl), toFun F⟩) (by have := c.more; simp only [exB, Bool.and_eq_true] at this; exact this.2)
  f_turn := let ⟨fd, F⟩ := c.d.def_ 0 (d := d_turn) rfl; ⟨_, fd, He.glo_ok X G (c.d.fact 0 (f := .glo "turn") rfl), toFun F⟩
  f_fineness := let ⟨fd, F⟩ := c.d.def_ 1 (d := d_fineness) rfl; ⟨_, fd, He.glo_ok X G (c.d.fact 1 (f := .glo "fineness") rfl), toFun F⟩
  f_place_key := let ⟨fd, F⟩ := c.d.def_ 2 (d := d_place_key) rfl; ⟨_, fd, He.glo_ok X G (c.d.fact 2 (f := .glo "place_key") rfl), toFun F⟩
  f_left_turns := let ⟨fd, F⟩ := c.d.def_ 4 (d := d_left_turns) rfl; ⟨_, fd, He.glo_ok X G (c.d.fact 4 (f := .glo "left_turns") rfl), toFun F⟩
  f_hull := let ⟨fd, F⟩ := c.d.def_ 5 (d := d_hull) rfl; ⟨_, fd, He.glo_ok X G (c.d.fact 5 (f := .glo "hull") rfl), toFun F⟩
  f_ways := let ⟨fd, F⟩ := c.d.def_ 6 (d := d_ways) rfl; ⟨_, fd, He.glo_ok X G (c.d.fact 6 (f := .glo "ways") rfl), toFun F⟩
  f_inside := let ⟨fd, F⟩ := c.d.def_ 7 (d := d_inside) rfl; ⟨_, fd, He.glo_ok X G (c.d.fact 7 (f := .glo "inside") rfl), toFun F⟩
  f_l_open_cells := let ⟨fd, F⟩ := c.d.def_ 8 (d := d_l_open_cells) rfl; ⟨_, fd, He.glo_ok X G (c.d.fact 8 (f := .glo "_law_open_cells") rfl), toFun F⟩
  f_l_pick := let ⟨fd, F⟩ := c.d.def_ 9 (d := d_l_pick) rfl; ⟨_, fd, He.glo_ok X G (c.d.fact 9 (f := .glo "_law_pick") rfl), toFun F⟩
  f_l_common := let ⟨fd, F⟩ := c.d.def_ 10 (d := d_l_common) rfl; ⟨_, fd, He.glo_ok X G (c.d.fact 10 (f := .glo "_law_common") rfl), toFun F⟩
  f_l_place := let ⟨fd, F⟩ := c.d.def_ 11 (d := d_l_place) rfl; ⟨_, fd, He.glo_ok X G (c.d.fact 11 (f := .glo "_law_place") rfl), toFun F⟩
  f_l_first := let ⟨fd, F⟩ := c.d.def_ 12 (d := d_l_first) rfl; ⟨_, fd, He.glo_ok X G (c.d.fact 12 (f := .glo "_law_first") rfl), toFun F⟩
  f_l_places := let ⟨fd, F⟩ := c.d.def_ 13 (d := d_l_places) rfl; ⟨_, fd, He.glo_ok X G (c.d.fact 13 (f := .glo "_law_places") rfl), toFun F⟩
  f_l_step := let ⟨fd, F⟩ := c.d.def_ 14 (d := d_l_step) rfl; ⟨_, fd, He.glo_ok X G (c.d.fact 14 (f := .glo "_law_step") rfl), toFun F⟩
  f_l_turn := let ⟨fd, F⟩ := c.d.def_ 15 (d := d_l_turn) rfl; ⟨_, fd, He.glo_ok X G (c.d.fact 15 (f := .glo "_law_turn") rfl), toFun F⟩
  f_l_chain := let ⟨fd, F⟩ := c.d.def_ 16 (d := d_l_chain) rfl; ⟨_, fd, He.glo_ok X G (c.d.fact 16 (f := .glo "_law_chain") rfl), toFun F⟩
  f_l_hull := let ⟨fd, F⟩ := c.d.def_ 17 (d := d_l_hull) rfl; ⟨_, fd, He.glo_ok X G (c.d.fact 17 (f := .glo "_law_hull") rfl), toFun F⟩
  f_l_has := let ⟨fd, F⟩ := c.d.def_ 18 (d := d_l_has) rfl; ⟨_, fd, He.glo_ok X G (c.d.fact 18 (f := .glo "_law_has") rfl), toFun F⟩
  f_l_look := let ⟨fd, F⟩ := c.d.def_ 19 (d := d_l_look) rfl; ⟨_, fd, He.glo_ok X G (c.d.fact 19 (f := .glo "_law_look") rfl), toFun F⟩
  f_l_middle := let ⟨fd, F⟩ := c.d.def_ 20 (d := d_l_middle) rfl; ⟨_, fd, He.glo_ok X G (c.d.fact 20 (f := .glo "_law_middle") rfl), toFun F⟩
  f_l_draw_place := let ⟨fd, F⟩ := c.d.def_ 21 (d := d_l_draw_place) rfl; ⟨_, fd, He.glo_ok X G (c.d.fact 21 (f := .glo "_law_draw_place") rfl), toFun F⟩
  f_l_draw_pool := let ⟨fd, F⟩ := c.d.def_ 22 (d := d_l_draw_pool) rfl; ⟨_, fd, He.glo_ok X G (c.d.fact 22 (f := .glo "_law_draw_pool") rfl), toFun F⟩
  f_l_draw_plate := let ⟨fd, F⟩ := c.d.def_ 23 (d := d_l_draw_plate) rfl; ⟨_, fd, He.glo_ok X G (c.d.fact 23 (f := .glo "_law_draw_plate") rfl), toFun F⟩
  f_l_due := let ⟨fd, F⟩ := c.d.def_ 24 (d := d_l_due) rfl; ⟨_, fd, He.glo_ok X G (c.d.fact 24 (f := .glo "_law_due") rfl), toFun F⟩
  f_l_is_inside := let ⟨fd, F⟩ := c.d.def_ 25 (d := d_l_is_inside) rfl; ⟨_, fd, He.glo_ok X G (c.d.fact 25 (f := .glo "_law_is_inside") rfl), toFun F⟩
  f_l_far_pool := let ⟨fd, F⟩ := c.d.def_ 26 (d := d_l_far_pool) rfl; ⟨_, fd, He.glo_ok X G (c.d.fact 26 (f := .glo "_law_far_pool") rfl), toFun F⟩
  f_l_more_corners := let ⟨fd, F⟩ := c.d.def_ 27 (d := d_l_more_corners) rfl; ⟨_, fd, He.glo_ok X G (c.d.fact 27 (f := .glo "_law_more_corners") rfl), toFun F⟩
  f_law := let ⟨fd, F⟩ := c.d.def_ 28 (d := d_law) rfl; ⟨_, fd, He.glo_ok X G (c.d.fact 28 (f := .glo "law") rfl), toFun F⟩
abbrev N_turn : List Str := ["p", "q", "r", "across", "along", "left"]
theorem sc_turn : FnScope ["p", "q", "r", "across", "along", "left"] ["p", "q", "r"] (defScope s_turn) := ⟨rfl, rfl, rfl, by decide +kernel, rfl, by decide +kernel, by decide +kernel⟩
theorem bn_turn : BindOk "turn" ["p", "q", "r"] s_turn := fun _ _ _ _ _ _ us hl => match us, hl with | [_, _, _], _ => rfl
abbrev N_fineness : List Str := ["places", "greatest", "p"]
theorem sc_fineness : FnScope ["places", "greatest", "p"] ["places"] (defScope s_fineness) := ⟨rfl, rfl, rfl, by decide +kernel, rfl, by decide +kernel, by decide +kernel⟩
theorem bn_fineness : BindOk "fineness" ["places"] s_fineness := fun _ _ _ _ _ _ us hl => match us, hl with | [_], _ => rfl
abbrev N_place_key : List Str := ["p", "fine"]
theorem sc_place_key : FnScope ["p", "fine"] ["p", "fine"] (defScope s_place_key) := ⟨rfl, rfl, rfl, by decide +kernel, rfl, by decide +kernel, by decide +kernel⟩
theorem bn_place_key : BindOk "place_key" ["p", "fine"] s_place_key := fun _ _ _ _ _ _ us hl => match us, hl with | [_, _], _ => rfl
abbrev N_ascending : List Str := ["places", "fine"]
theorem sc_ascending : FnScope ["places", "fine"] ["places"] (defScope s_ascending) := ⟨rfl, rfl, rfl, by decide +kernel, rfl, by decide +kernel, by decide +kernel⟩
theorem bn_ascending : BindOk "ascending" ["places"] s_ascending := fun _ _ _ _ _ _ us hl => match us, hl with | [_], _ => rfl
abbrev N_left_turns : List Str := ["row", "path", "p"]
theorem sc_left_turns : FnScope ["row", "path", "p"] ["row"] (defScope s_left_turns) := ⟨rfl, rfl, rfl, by decide +kernel, rfl, by decide +kernel, by decide +kernel⟩
theorem bn_left_turns : BindOk "left_turns" ["row"] s_left_turns := fun _ _ _ _ _ _ us hl => match us, hl with | [_], _ => rfl
abbrev N_hull : List Str := ["places", "row", "once", "k", "p"]
theorem sc_hull : FnScope ["places", "row", "once", "k", "p"] ["places"] (defScope s_hull) := ⟨rfl, rfl, rfl, by decide +kernel, rfl, by decide +kernel, by decide +kernel⟩
theorem bn_hull : BindOk "hull" ["places"] s_hull := fun _ _ _ _ _ _ us hl => match us, hl with | [_], _ => rfl
abbrev N_ways : List Str := ["plate"]
theorem sc_ways : FnScope ["plate"] ["plate"] (defScope s_ways) := ⟨rfl, rfl, rfl, by decide +kernel, rfl, by decide +kernel, by decide +kernel⟩
theorem bn_ways : BindOk "ways" ["plate"] s_ways := fun _ _ _ _ _ _ us hl => match us, hl with | [_], _ => rfl
abbrev N_inside : List Str := ["plate", "points", "p", "point", "weight", "q"]
theorem sc_inside : FnScope ["plate", "points", "p", "point", "weight", "q"] ["plate"] (defScope s_inside) := ⟨rfl, rfl, rfl, by decide +kernel, rfl, by decide +kernel, by decide +kernel⟩
theorem bn_inside : BindOk "inside" ["plate"] s_inside := fun _ _ _ _ _ _ us hl => match us, hl with | [_], _ => rfl
abbrev N_l_open_cells : List Str := ["_law_script", "_law_mixed", "_law_cell", "_law_digits"]
theorem sc_l_open_cells : FnScope ["_law_script", "_law_mixed", "_law_cell", "_law_digits"] ["_law_script"] (defScope s_l_open_cells) := ⟨rfl, rfl, rfl, by decide +kernel, rfl, by decide +kernel, by decide +kernel⟩
theorem bn_l_open_cells : BindOk "_law_open_cells" ["_law_script"] s_l_open_cells := fun _ _ _ _ _ _ us hl => match us, hl with | [_], _ => rfl
abbrev N_l_pick : List Str := ["_law_source", "_law_most", "_law_digits", "_law_left", "_law_laps", "_law_mixed"]
theorem sc_l_pick : FnScope ["_law_source", "_law_most", "_law_digits", "_law_left", "_law_laps", "_law_mixed"] ["_law_source", "_law_most"] (defScope s_l_pick) := ⟨rfl, rfl, rfl, by decide +kernel, rfl, by decide +kernel, by decide +kernel⟩
theorem bn_l_pick : BindOk "_law_pick" ["_law_source", "_law_most"] s_l_pick := fun _ _ _ _ _ _ us hl => match us, hl with | [_, _], _ => rfl
abbrev N_l_common : List Str := ["_law_a", "_law_b"]
theorem sc_l_common : FnScope ["_law_a", "_law_b"] ["_law_a", "_law_b"] (defScope s_l_common) := ⟨rfl, rfl, rfl, by decide +kernel, rfl, by decide +kernel, by decide +kernel⟩
theorem bn_l_common : BindOk "_law_common" ["_law_a", "_law_b"] s_l_common := fun _ _ _ _ _ _ us hl => match us, hl with | [_, _], _ => rfl
abbrev N_l_place : List Str := ["_law_x", "_law_y", "_law_d", "_law_n"]
theorem sc_l_place : FnScope ["_law_x", "_law_y", "_law_d", "_law_n"] ["_law_x", "_law_y", "_law_d"] (defScope s_l_place) := ⟨rfl, rfl, rfl, by decide +kernel, rfl, by decide +kernel, by decide +kernel⟩
theorem bn_l_place : BindOk "_law_place" ["_law_x", "_law_y", "_law_d"] s_l_place := fun _ _ _ _ _ _ us hl => match us, hl with | [_, _, _], _ => rfl
abbrev N_l_first : List Str := ["_law_p", "_law_q"]
theorem sc_l_first : FnScope ["_law_p", "_law_q"] ["_law_p", "_law_q"] (defScope s_l_first) := ⟨rfl, rfl, rfl, by decide +kernel, rfl, by decide +kernel, by decide +kernel⟩
theorem bn_l_first : BindOk "_law_first" ["_law_p", "_law_q"] s_l_first := fun _ _ _ _ _ _ us hl => match us, hl with | [_, _], _ => rfl
abbrev N_l_places : List Str := ["_law_places_here", "_law_found", "_law_p", "_law_ahead", "_law_q"]
theorem sc_l_places : FnScope ["_law_places_here", "_law_found", "_law_p", "_law_ahead", "_law_q"] ["_law_places_here"] (defScope s_l_places) := ⟨rfl, rfl, rfl, by decide +kernel, rfl, by decide +kernel, by decide +kernel⟩
theorem bn_l_places : BindOk "_law_places" ["_law_places_here"] s_l_places := fun _ _ _ _ _ _ us hl => match us, hl with | [_], _ => rfl
abbrev N_l_step : List Str := ["_law_p", "_law_q"]
theorem sc_l_step : FnScope ["_law_p", "_law_q"] ["_law_p", "_law_q"] (defScope s_l_step) := ⟨rfl, rfl, rfl, by decide +kernel, rfl, by decide +kernel, by decide +kernel⟩
theorem bn_l_step : BindOk "_law_step" ["_law_p", "_law_q"] s_l_step := fun _ _ _ _ _ _ us hl => match us, hl with | [_, _], _ => rfl
abbrev N_l_turn : List Str := ["_law_p", "_law_q", "_law_r", "_law_one", "_law_other", "_law_n"]
theorem sc_l_turn : FnScope ["_law_p", "_law_q", "_law_r", "_law_one", "_law_other", "_law_n"] ["_law_p", "_law_q", "_law_r"] (defScope s_l_turn) := ⟨rfl, rfl, rfl, by decide +kernel, rfl, by decide +kernel, by decide +kernel⟩
theorem bn_l_turn : BindOk "_law_turn" ["_law_p", "_law_q", "_law_r"] s_l_turn := fun _ _ _ _ _ _ us hl => match us, hl with | [_, _, _], _ => rfl
abbrev N_l_chain : List Str := ["_law_places_here", "_law_found", "_law_p"]
theorem sc_l_chain : FnScope ["_law_places_here", "_law_found", "_law_p"] ["_law_places_here"] (defScope s_l_chain) := ⟨rfl, rfl, rfl, by decide +kernel, rfl, by decide +kernel, by decide +kernel⟩
theorem bn_l_chain : BindOk "_law_chain" ["_law_places_here"] s_l_chain := fun _ _ _ _ _ _ us hl => match us, hl with | [_], _ => rfl
abbrev N_l_hull : List Str := ["_law_places_here", "_law_every"]
theorem sc_l_hull : FnScope ["_law_places_here", "_law_every"] ["_law_places_here"] (defScope s_l_hull) := ⟨rfl, rfl, rfl, by decide +kernel, rfl, by decide +kernel, by decide +kernel⟩
theorem bn_l_hull : BindOk "_law_hull" ["_law_places_here"] s_l_hull := fun _ _ _ _ _ _ us hl => match us, hl with | [_], _ => rfl
abbrev N_l_has : List Str := ["_law_plate", "_law_p", "_law_one", "_law_other", "_law_is_between", "_law_k"]
theorem sc_l_has : FnScope ["_law_plate", "_law_p", "_law_one", "_law_other", "_law_is_between", "_law_k"] ["_law_plate", "_law_p"] (defScope s_l_has) := ⟨rfl, rfl, rfl, by decide +kernel, rfl, by decide +kernel, by decide +kernel⟩
theorem bn_l_has : BindOk "_law_has" ["_law_plate", "_law_p"] s_l_has := fun _ _ _ _ _ _ us hl => match us, hl with | [_, _], _ => rfl
abbrev N_l_look : List Str := ["_law_rows", "_law_p", "_law_plate", "_law_weight"]
theorem sc_l_look : FnScope ["_law_rows", "_law_p", "_law_plate", "_law_weight"] ["_law_rows", "_law_p"] (defScope s_l_look) := ⟨rfl, rfl, rfl, by decide +kernel, rfl, by decide +kernel, by decide +kernel⟩
theorem bn_l_look : BindOk "_law_look" ["_law_rows", "_law_p"] s_l_look := fun _ _ _ _ _ _ us hl => match us, hl with | [_, _], _ => rfl
abbrev N_l_middle : List Str := ["_law_p", "_law_q"]
theorem sc_l_middle : FnScope ["_law_p", "_law_q"] ["_law_p", "_law_q"] (defScope s_l_middle) := ⟨rfl, rfl, rfl, by decide +kernel, rfl, by decide +kernel, by decide +kernel⟩
theorem bn_l_middle : BindOk "_law_middle" ["_law_p", "_law_q"] s_l_middle := fun _ _ _ _ _ _ us hl => match us, hl with | [_, _], _ => rfl
abbrev N_l_draw_place : List Str := ["_law_source", "_law_wide", "_law_d"]
theorem sc_l_draw_place : FnScope ["_law_source", "_law_wide", "_law_d"] ["_law_source", "_law_wide"] (defScope s_l_draw_place) := ⟨rfl, rfl, rfl, by decide +kernel, rfl, by decide +kernel, by decide +kernel⟩
theorem bn_l_draw_place : BindOk "_law_draw_place" ["_law_source", "_law_wide"] s_l_draw_place := fun _ _ _ _ _ _ us hl => match us, hl with | [_, _], _ => rfl
abbrev N_l_draw_pool : List Str := ["_law_source", "_law_many", "_law_wide", "_law_lap"]
theorem sc_l_draw_pool : FnScope ["_law_source", "_law_many", "_law_wide", "_law_lap"] ["_law_source", "_law_many", "_law_wide"] (defScope s_l_draw_pool) := ⟨rfl, rfl, rfl, by decide +kernel, rfl, by decide +kernel, by decide +kernel⟩
theorem bn_l_draw_pool : BindOk "_law_draw_pool" ["_law_source", "_law_many", "_law_wide"] s_l_draw_pool := fun _ _ _ _ _ _ us hl => match us, hl with | [_, _, _], _ => rfl
abbrev N_l_draw_plate : List Str := ["_law_source", "_law_pool", "_law_lap"]
theorem sc_l_draw_plate : FnScope ["_law_source", "_law_pool", "_law_lap"] ["_law_source", "_law_pool"] (defScope s_l_draw_plate) := ⟨rfl, rfl, rfl, by decide +kernel, rfl, by decide +kernel, by decide +kernel⟩
theorem bn_l_draw_plate : BindOk "_law_draw_plate" ["_law_source", "_law_pool"] s_l_draw_plate := fun _ _ _ _ _ _ us hl => match us, hl with | [_, _], _ => rfl
abbrev N_l_due : List Str := ["_law_plate", "_law_found", "_law_k", "_law_sign", "_law_p"]
theorem sc_l_due : FnScope ["_law_plate", "_law_found", "_law_k", "_law_sign", "_law_p"] ["_law_plate"] (defScope s_l_due) := ⟨rfl, rfl, rfl, by decide +kernel, rfl, by decide +kernel, by decide +kernel⟩
theorem bn_l_due : BindOk "_law_due" ["_law_plate"] s_l_due := fun _ _ _ _ _ _ us hl => match us, hl with | [_], _ => rfl
abbrev N_l_is_inside : List Str := ["_law_plate", "_law_p", "_law_k"]
theorem sc_l_is_inside : FnScope ["_law_plate", "_law_p", "_law_k"] ["_law_plate", "_law_p"] (defScope s_l_is_inside) := ⟨rfl, rfl, rfl, by decide +kernel, rfl, by decide +kernel, by decide +kernel⟩
theorem bn_l_is_inside : BindOk "_law_is_inside" ["_law_plate", "_law_p"] s_l_is_inside := fun _ _ _ _ _ _ us hl => match us, hl with | [_, _], _ => rfl
abbrev N_l_far_pool : List Str := ["_law_source", "_law_pool", "_law_a", "_law_b", "_law_x", "_law_y", "_law_d"]
theorem sc_l_far_pool : FnScope ["_law_source", "_law_pool", "_law_a", "_law_b", "_law_x", "_law_y", "_law_d"] ["_law_source", "_law_pool"] (defScope s_l_far_pool) := ⟨rfl, rfl, rfl, by decide +kernel, rfl, by decide +kernel, by decide +kernel⟩
theorem bn_l_far_pool : BindOk "_law_far_pool" ["_law_source", "_law_pool"] s_l_far_pool := fun _ _ _ _ _ _ us hl => match us, hl with | [_, _], _ => rfl
abbrev N_l_more_corners : List Str := ["_law_source", "_law_plate", "_law_pool", "_law_other", "_law_found", "_law_x", "_law_y", "_law_d", "_law_u", "_law_v", "_law_e"]
theorem sc_l_more_corners : FnScope ["_law_source", "_law_plate", "_law_pool", "_law_other", "_law_found", "_law_x", "_law_y", "_law_d", "_law_u", "_law_v", "_law_e"] ["_law_source", "_law_plate", "_law_pool"] (defScope s_l_more_corners) := ⟨rfl, rfl, rfl, by decide +kernel, rfl, by decide +kernel, by decide +kernel⟩
theorem bn_l_more_corners : BindOk "_law_more_corners" ["_law_source", "_law_plate", "_law_pool"] s_l_more_corners := fun _ _ _ _ _ _ us hl => match us, hl with | [_, _, _], _ => rfl
abbrev N_law : List Str := ["_law_script", "_law_source", "_law_lap", "_law_pool", "_law_plate", "_law_told", "_law_middles", "_law_some", "_law_p", "_law_k"]
theorem sc_law : FnScope ["_law_script", "_law_source", "_law_lap", "_law_pool", "_law_plate", "_law_told", "_law_middles", "_law_some", "_law_p", "_law_k"] ["_law_script"] (defScope s_law) := ⟨rfl, rfl, rfl, by decide +kernel, rfl, by decide +kernel, by decide +kernel⟩
theorem bn_law : BindOk "law" ["_law_script"] s_law := fun _ _ _ _ _ _ us hl => match us, hl with | [_], _ => rfl
section
variable {P : Program} {w : World} {K : PySem.W.Frag} {mg : Str → Option Value} {base : Heap}
theorem ok_turn (T : Tx K mg base) : DefOk P w K mg base 1 "turn" ["p", "q", "r"] spTurnP := by
  refine defOk T.f_turn sc_turn bn_turn (fun f cdv A outer s H hr hg => (pss_dc (psd_set (i := 3) sc_turn.nd rfl (Or.inl rfl) (pd_mulA (pd_ix (pd_var 0) pd_int) (pd_sub (pd_mulA (pd_ix (pd_var 1) pd_int) (pd_ix (pd_var 2) pd_int)) (pd_mulA (pd_ix (pd_var 2) pd_int) (pd_ix (pd_var 1) pd_int)))))
      (pss_dc (psd_set (i := 4) sc_turn.nd rfl (Or.inl rfl) (pd_mulA (pd_ix (pd_var 0) pd_int) (pd_sub (pd_mulA (pd_ix (pd_var 2) pd_int) (pd_ix (pd_var 1) pd_int)) (pd_mulA (pd_ix (pd_var 1) pd_int) (pd_ix (pd_var 2) pd_int)))))
      (pss_dc (psd_set (i := 5) sc_turn.nd rfl (Or.inl rfl) (pd_addA (pd_addA (pd_var 3) (pd_var 4)) (pd_mulA (pd_ix (pd_var 0) pd_int) (pd_sub (pd_mulA (pd_ix (pd_var 1) pd_int) (pd_ix (pd_var 2) pd_int)) (pd_mulA (pd_ix (pd_var 2) pd_int) (pd_ix (pd_var 1) pd_int))))))
      (pss_dc (psd_if (pdt_gt (pd_var 5) pd_int) (pss_d1 (psd_ret pd_int)) pss_d0)
      (pss_dc (psd_if (pdt_lt (pd_var 5) pd_int) (pss_d1 (psd_ret (pd_neg pd_int))) pss_d0)
      (pss_d1 (psd_ret pd_int)))))))) ?_
  rintro ds Qd _ ⟨p, q, r, k, rfl, hp, hq, hr, hk, h⟩
  have A := hp.1; have B := hp.2.1; have C := hp.2.2
  have D' := hq.1; have E' := hq.2.1; have G := hq.2.2
  have H' := hr.1; have I' := hr.2.1; have J := hr.2.2
  simp only [dSeq, dNext, dRet, dIf, dDrop, dAsg, dgName, dgNil, dgCons, dgTup, dPar, dPar3, dOwn, dApp, dFrz, dVar, dC, dOp, dI, dI0, dB0, dNeg, dTup, dLst, dBoolT, dAndT, dOrT, dNotT, dAndV, dOrV, dNotV, dCall, dCall0, dB, dIsi, dRepr, dAbs, dInt1, dInt2, dAll, dstart, dwipe, clean, Sl.clean, List.map_cons, List.map_nil, List.length_cons, List.length_nil, List.replicate, List.cons_append, List.nil_append, List.set_cons_zero, List.set_cons_succ, List.getElem?_cons_zero, List.getElem?_cons_succ, Nat.reduceAdd, Nat.reduceSub, Nat.add_zero, Nat.zero_add, Nat.add_sub_cancel, Nat.sub_self, atI_0, atI_1, atI_2, atI_3, dLtI, dLeI, dGtI, dGeI, dSub, dFd, dMod, dPow, eAdd_i, eAdd_l, eMul_i, eMul_l, eIx_l, eIx_t, eLen_l, eLen_t, eInt_i, eInt_b, eEq_i, eNe_i, eEq_e, dRaise, dRetX, dTry, dGcd3, dIsB, dChain, dZip, dItT, dItL, dSl, dNoPart, dPart, dChain, dgUnl, dParO, notN_no, notN_t, isN_no, dRev]
  have s1 : Bd (k + k + (k + k) + 1) (q.y * r.d - r.y * q.d) := bd_sub (a := k + k) (b := k + k)
  have s2 : Bd (k + k + (k + k) + 1) (r.x * q.d - q.x * r.d) := bd_sub (a := k + k) (b := k + k)
  have s3 : Bd (k + k + (k + k) + 1) (q.x * r.y - r.x * q.y) := bd_sub (a := k + k) (b := k + k)
  refine ⟨cmb E' J (by omega), cmb I' G (by omega), cmb A s1 (by omega), cmb H' G (by omega), cmb D' J (by omega), cmb B s2 (by omega), cmb D' I' (by omega), cmb H' E' (by omega), cmb C s3 (by omega), ?_⟩
  have e0 : p.x * (q.y * r.d - r.y * q.d) + p.y * (r.x * q.d - q.x * r.d) + p.d * (q.x * r.y - r.x * q.y) = Pt.o p q r := rfl
  rw [e0]
  rcases Int.lt_trichotomy (Pt.o p q r) 0 with z | z | z
  · rw [Int.sign_eq_neg_one_of_neg z] at h
    refine ifF (decide_eq_false (by omega)) ?_
    exact ifT (decide_eq_true z) h
  · rw [z] at h ⊢
    exact ifF (by decide) (ifF (by decide) h)
  · rw [Int.sign_eq_one_of_pos z] at h
    exact ifT (decide_eq_true z) h
theorem ok_fineness (T : Tx K mg base) : DefOk P w K mg base 1 "fineness" ["places"] spFine := by
  refine defOk T.f_fineness sc_fineness bn_fineness (fun f cdv A outer s H hr hg => (pss_dc (psd_set (i := 1) sc_fineness.nd rfl (Or.inl rfl) (pd_maxD rfl hr.units T.b_max (pd_new (pdn_lc (own := [("p", 2)]) rfl sc_fineness.nd (pdi_seq (pd_var 0)) (blk (N := N_fineness) (sc := defScope s_fineness) (by decide +kernel)) (fun _ _ _ _ _ => pg_name sc_fineness.nd rfl (Or.inl rfl)) (lg_name 2) (sets_name (by decide)) (fun _ _ _ _ _ => (pd_ix (pd_var 2) pd_int)))) pd_int))
      (pss_d1 (psd_ret (pd_mulA (pd_var 1) (pd_var 1)))))) ?_
  rintro ds Qd _ ⟨b, ps, ⟨rfl, ⟨k, hk, hb⟩, hl⟩, h⟩
  show dSeq _ _ _ [.val (seqD b (ps.map pD)), .emp, .emp]
  refine dSeq_g (fun σ => σ = [.val (seqD b (ps.map pD)), .val (.int (maxI 1 (ps.map Pt.d))), .emp]) ?_ ?_
  · intro N hN
    simp only [dSeq, dNext, dRet, dIf, dDrop, dAsg, dgName, dgNil, dgCons, dgTup, dPar, dPar3, dOwn, dApp, dFrz, dVar, dC, dOp, dI, dI0, dB0, dNeg, dTup, dLst, dBoolT, dAndT, dOrT, dNotT, dAndV, dOrV, dNotV, dCall, dCall0, dB, dIsi, dRepr, dAbs, dInt1, dInt2, dAll, dstart, dwipe, clean, Sl.clean, List.map_cons, List.map_nil, List.length_cons, List.length_nil, List.replicate, List.cons_append, List.nil_append, List.set_cons_zero, List.set_cons_succ, List.getElem?_cons_zero, List.getElem?_cons_succ, Nat.reduceAdd, Nat.reduceSub, Nat.add_zero, Nat.zero_add, Nat.add_sub_cancel, Nat.sub_self, atI_0, atI_1, atI_2, atI_3, dLtI, dLeI, dGtI, dGeI, dSub, dFd, dMod, dPow, eAdd_i, eAdd_l, eMul_i, eMul_l, eIx_l, eIx_t, eLen_l, eLen_t, eInt_i, eInt_b, eEq_i, eNe_i, eEq_e, dRaise, dRetX, dTry, dGcd3, dIsB, dChain, dZip, dItT, dItL, dSl, dNoPart, dPart, dChain, dgUnl, dParO, notN_no, notN_t, isN_no, dRev, dParC, dOwnC, dMaxD, dEnum, capD, dLstN]
    refine dLcc_m ps pD (fun p => .int p.d) (fun R hR => ?_) (by omega) ?_ ?_
    · refine dItS_m (b := b) (fun Q hQ => ?_) hR
      simp only [dSeq, dNext, dRet, dIf, dDrop, dAsg, dgName, dgNil, dgCons, dgTup, dPar, dPar3, dOwn, dApp, dFrz, dVar, dC, dOp, dI, dI0, dB0, dNeg, dTup, dLst, dBoolT, dAndT, dOrT, dNotT, dAndV, dOrV, dNotV, dCall, dCall0, dB, dIsi, dRepr, dAbs, dInt1, dInt2, dAll, dstart, dwipe, clean, Sl.clean, List.map_cons, List.map_nil, List.length_cons, List.length_nil, List.replicate, List.cons_append, List.nil_append, List.set_cons_zero, List.set_cons_succ, List.getElem?_cons_zero, List.getElem?_cons_succ, Nat.reduceAdd, Nat.reduceSub, Nat.add_zero, Nat.zero_add, Nat.add_sub_cancel, Nat.sub_self, atI_0, atI_1, atI_2, atI_3, dLtI, dLeI, dGtI, dGeI, dSub, dFd, dMod, dPow, eAdd_i, eAdd_l, eMul_i, eMul_l, eIx_l, eIx_t, eLen_l, eLen_t, eInt_i, eInt_b, eEq_i, eNe_i, eEq_e, dRaise, dRetX, dTry, dGcd3, dIsB, dChain, dZip, dItT, dItL, dSl, dNoPart, dPart, dChain, dgUnl, dParO, notN_no, notN_t, isN_no, dRev, dParC, dOwnC, dMaxD, dEnum, capD, dLstN]
      exact hQ
    · intro x hx Q hQ
      simp only [dSeq, dNext, dRet, dIf, dDrop, dAsg, dgName, dgNil, dgCons, dgTup, dPar, dPar3, dOwn, dApp, dFrz, dVar, dC, dOp, dI, dI0, dB0, dNeg, dTup, dLst, dBoolT, dAndT, dOrT, dNotT, dAndV, dOrV, dNotV, dCall, dCall0, dB, dIsi, dRepr, dAbs, dInt1, dInt2, dAll, dstart, dwipe, clean, Sl.clean, List.map_cons, List.map_nil, List.length_cons, List.length_nil, List.replicate, List.cons_append, List.nil_append, List.set_cons_zero, List.set_cons_succ, List.getElem?_cons_zero, List.getElem?_cons_succ, Nat.reduceAdd, Nat.reduceSub, Nat.add_zero, Nat.zero_add, Nat.add_sub_cancel, Nat.sub_self, atI_0, atI_1, atI_2, atI_3, dLtI, dLeI, dGtI, dGeI, dSub, dFd, dMod, dPow, eAdd_i, eAdd_l, eMul_i, eMul_l, eIx_l, eIx_t, eLen_l, eLen_t, eInt_i, eInt_b, eEq_i, eNe_i, eEq_e, dRaise, dRetX, dTry, dGcd3, dIsB, dChain, dZip, dItT, dItL, dSl, dNoPart, dPart, dChain, dgUnl, dParO, notN_no, notN_t, isN_no, dRev, dParC, dOwnC, dMaxD, dEnum, capD, dLstN]
      exact hQ
    · refine ⟨ps.map Pt.d, 1, ?_, rfl, ?_⟩
      · rw [List.map_map]; rfl
      · exact hN _ rfl
  rintro σ2 rfl
  have f1 := fine_bd hb
  simp only [dSeq, dNext, dRet, dIf, dDrop, dAsg, dgName, dgNil, dgCons, dgTup, dPar, dPar3, dOwn, dApp, dFrz, dVar, dC, dOp, dI, dI0, dB0, dNeg, dTup, dLst, dBoolT, dAndT, dOrT, dNotT, dAndV, dOrV, dNotV, dCall, dCall0, dB, dIsi, dRepr, dAbs, dInt1, dInt2, dAll, dstart, dwipe, clean, Sl.clean, List.map_cons, List.map_nil, List.length_cons, List.length_nil, List.replicate, List.cons_append, List.nil_append, List.set_cons_zero, List.set_cons_succ, List.getElem?_cons_zero, List.getElem?_cons_succ, Nat.reduceAdd, Nat.reduceSub, Nat.add_zero, Nat.zero_add, Nat.add_sub_cancel, Nat.sub_self, atI_0, atI_1, atI_2, atI_3, dLtI, dLeI, dGtI, dGeI, dSub, dFd, dMod, dPow, eAdd_i, eAdd_l, eMul_i, eMul_l, eIx_l, eIx_t, eLen_l, eLen_t, eInt_i, eInt_b, eEq_i, eNe_i, eEq_e, dRaise, dRetX, dTry, dGcd3, dIsB, dChain, dZip, dItT, dItL, dSl, dNoPart, dPart, dChain, dgUnl, dParO, notN_no, notN_t, isN_no, dRev, dParC, dOwnC, dMaxD, dEnum, capD, dLstN]
  exact ⟨cmb f1 f1 (by omega), h⟩
theorem ok_place_key (T : Tx K mg base) : DefOk P w K mg base 1 "place_key" ["p", "fine"] spKey := by
  refine defOk T.f_place_key sc_place_key bn_place_key (fun f cdv A outer s H hr hg => (pss_d1 (psd_ret (pd_tup (pda_cons (pd_fd (pd_mulA (pd_ix (pd_var 0) pd_int) (pd_var 1)) (pd_ix (pd_var 0) pd_int)) (pda_cons (pd_fd (pd_mulA (pd_ix (pd_var 0) pd_int) (pd_var 1)) (pd_ix (pd_var 0) pd_int)) pda_nil)))))) ?_
  rintro ds Qd _ ⟨p, f, k, rfl, hp, hf, hk, h⟩
  have d0 := p.pos
  simp only [dSeq, dNext, dRet, dIf, dDrop, dAsg, dgName, dgNil, dgCons, dgTup, dPar, dPar3, dOwn, dApp, dFrz, dVar, dC, dOp, dI, dI0, dB0, dNeg, dTup, dLst, dBoolT, dAndT, dOrT, dNotT, dAndV, dOrV, dNotV, dCall, dCall0, dB, dIsi, dRepr, dAbs, dInt1, dInt2, dAll, dstart, dwipe, clean, Sl.clean, List.map_cons, List.map_nil, List.length_cons, List.length_nil, List.replicate, List.cons_append, List.nil_append, List.set_cons_zero, List.set_cons_succ, List.getElem?_cons_zero, List.getElem?_cons_succ, Nat.reduceAdd, Nat.reduceSub, Nat.add_zero, Nat.zero_add, Nat.add_sub_cancel, Nat.sub_self, atI_0, atI_1, atI_2, atI_3, dLtI, dLeI, dGtI, dGeI, dSub, dFd, dMod, dPow, eAdd_i, eAdd_l, eMul_i, eMul_l, eIx_l, eIx_t, eLen_l, eLen_t, eInt_i, eInt_b, eEq_i, eNe_i, eEq_e, dRaise, dRetX, dTry, dGcd3, dIsB, dChain, dZip, dItT, dItL, dSl, dNoPart, dPart, dChain, dgUnl, dParO, notN_no, notN_t, isN_no, dRev, dParC, dOwnC, dMaxD, dEnum, capD, dLstN]
  have e1 : (p.x * f).fdiv p.d = p.x * f / p.d := Int.fdiv_eq_ediv_of_nonneg _ (by omega)
  have e2 : (p.y * f).fdiv p.d = p.y * f / p.d := Int.fdiv_eq_ediv_of_nonneg _ (by omega)
  refine ⟨cmb hp.1 hf (by omega), cfd (by omega) hp.2.2 (by omega), cmb hp.2.1 hf (by omega), cfd (by omega) hp.2.2 (by omega), ?_⟩
  rw [e1, e2]
  exact h
theorem ok_ascending (T : Tx K mg base) : DefOk P w K mg base 5 "ascending" ["places"] spAsc := by
  refine defOkC T.f_ascending sc_ascending bn_ascending (fun f cdv A outer s H ec hr hg => (pss_dc (psd_set (i := 1) sc_ascending.nd rfl (Or.inr rfl) (pd_fn (ok_fineness T) hr (by decide) hg (pda_cons (pd_var 0) pda_nil)))
      (pss_d1 (psd_ret (pd_new (pdn_sortK (k := 1) (x := "p") (N := ["p", "fine"]) (fr := ["fine"]) (js := [1]) T.t_ascending ec (hr.mono (by decide)) T.b_sorted (pd_var 0) (NdefX.nscope_by (by decide +kernel)) (by rfl) (fun ql cl d f outer s H hr => (pd_fn (ok_place_key T) hr (by decide) hg (pda_cons (pd_var 0) (pda_cons (pd_var 1) pda_nil)))))))))) ?_
  rintro ds Qd _ ⟨b, ps, ⟨rfl, ⟨k, hk, hb⟩, hl⟩, h⟩
  show dSeq _ _ _ [.val (seqD b (ps.map pD)), .emp]
  refine dSeq_g (fun σ => σ = [.val (seqD b (ps.map pD)), .val (.int (fineP ps))]) ?_ ?_
  · intro N hN
    simp only [dSeq, dNext, dRet, dIf, dDrop, dAsg, dgName, dgNil, dgCons, dgTup, dPar, dPar3, dOwn, dApp, dFrz, dVar, dC, dOp, dI, dI0, dB0, dNeg, dTup, dLst, dBoolT, dAndT, dOrT, dNotT, dAndV, dOrV, dNotV, dCall, dCall0, dB, dIsi, dRepr, dAbs, dInt1, dInt2, dAll, dstart, dwipe, clean, Sl.clean, List.map_cons, List.map_nil, List.length_cons, List.length_nil, List.replicate, List.cons_append, List.nil_append, List.set_cons_zero, List.set_cons_succ, List.getElem?_cons_zero, List.getElem?_cons_succ, Nat.reduceAdd, Nat.reduceSub, Nat.add_zero, Nat.zero_add, Nat.add_sub_cancel, Nat.sub_self, atI_0, atI_1, atI_2, atI_3, dLtI, dLeI, dGtI, dGeI, dSub, dFd, dMod, dPow, eAdd_i, eAdd_l, eMul_i, eMul_l, eIx_l, eIx_t, eLen_l, eLen_t, eInt_i, eInt_b, eEq_i, eNe_i, eEq_e, dRaise, dRetX, dTry, dGcd3, dIsB, dChain, dZip, dItT, dItL, dSl, dNoPart, dPart, dChain, dgUnl, dParO, notN_no, notN_t, isN_no, dRev, dParC, dOwnC, dMaxD, dEnum, capD, dLstN]
    exact ⟨b, ps, ⟨rfl, ⟨k, hk, hb⟩, hl⟩, hN _ rfl⟩
  rintro σ2 rfl
  have f2 : Bd (2 * k + 2) (fineP ps) := (bd_mul (a := k + 1) (b := k + 1) (h1 := fine_bd hb) (h2 := fine_bd hb)).mono (by omega)
  obtain ⟨q1, q2, q3⟩ := keys_ok (f := fineP ps) ps
  simp only [dRet, dLst]
  refine dSort_seq (b := b) (es := ps.map pD) (fun R hR => hR) ⟨by rw [List.length_map]; omega, keyP (fineP ps), fun x hx => ?_, q1, q2, q3, by rw [asc_key]; exact h⟩
  obtain ⟨p, hp, rfl⟩ := List.mem_map.mp hx
  simp only [dSeq, dNext, dRet, dIf, dDrop, dAsg, dgName, dgNil, dgCons, dgTup, dPar, dPar3, dOwn, dApp, dFrz, dVar, dC, dOp, dI, dI0, dB0, dNeg, dTup, dLst, dBoolT, dAndT, dOrT, dNotT, dAndV, dOrV, dNotV, dCall, dCall0, dB, dIsi, dRepr, dAbs, dInt1, dInt2, dAll, dstart, dwipe, clean, Sl.clean, List.map_cons, List.map_nil, List.length_cons, List.length_nil, List.replicate, List.cons_append, List.nil_append, List.set_cons_zero, List.set_cons_succ, List.getElem?_cons_zero, List.getElem?_cons_succ, Nat.reduceAdd, Nat.reduceSub, Nat.add_zero, Nat.zero_add, Nat.add_sub_cancel, Nat.sub_self, atI_0, atI_1, atI_2, atI_3, dLtI, dLeI, dGtI, dGeI, dSub, dFd, dMod, dPow, eAdd_i, eAdd_l, eMul_i, eMul_l, eIx_l, eIx_t, eLen_l, eLen_t, eInt_i, eInt_b, eEq_i, eNe_i, eEq_e, dRaise, dRetX, dTry, dGcd3, dIsB, dChain, dZip, dItT, dItL, dSl, dNoPart, dPart, dChain, dgUnl, dParO, notN_no, notN_t, isN_no, dRev, dParC, dOwnC, dMaxD, dEnum, capD, dLstN]
  exact ⟨p, fineP ps, k, rfl, hb p hp, f2, hk, rfl⟩
theorem ok_left_turns (T : Tx K mg base) : DefOk P w K mg base 2 "left_turns" ["row"] spLeft := by
  refine defOk T.f_left_turns sc_left_turns bn_left_turns (fun f cdv A outer s H hr hg => (pss_dc (psd_own (i := 1) sc_left_turns.nd rfl (Or.inl rfl) (pdn_lst pda_nil))
      (pss_dc (psd_for PassesOwn.never rfl (pdi_list (pd_var 0)) (pdg_name (i := 2) sc_left_turns.nd rfl (Or.inl rfl)) (pss_dc (psd_while PassesOwn.never (pdt_lend 1 (pdt_w (pdw_and (pdt_gt (pd_blt call_len lc_len rfl T.b_len (by decide +kernel) (pda_cons (pd_var 1) pda_nil)) pd_int) (pdw_and1 (pdt_lt (pd_fn (ok_turn T) hr (by decide) hg (pda_cons (pd_ix (pd_var 1) (pd_neg pd_int)) (pda_cons (pd_ix (pd_var 1) (pd_neg pd_int)) (pda_cons (pd_var 2) pda_nil)))) pd_int))))) (pss_d1 (psd_pop 1 rfl (Or.inl rfl))))
      (pss_d1 (psd_app 1 rfl (Or.inl rfl) (pd_var 2)))))
      (pss_frz 1 (pss_d1 (psd_ret (pd_var 1))))))) ?_
  rintro ds Qd _ ⟨ps, ⟨rfl, ⟨k, hk, hb⟩, hl⟩, h⟩
  show dSeq _ _ _ [.val (.list (ps.map pD)), .emp, .emp]
  refine dSeq_g (fun σ => ∃ ad, σ = [.val (.list (ps.map pD)), .own ad [], .emp]) ?_ ?_
  · intro N hN
    simp only [dSeq, dNext, dRet, dIf, dDrop, dAsg, dgName, dgNil, dgCons, dgTup, dPar, dPar3, dOwn, dApp, dFrz, dVar, dC, dOp, dI, dI0, dB0, dNeg, dTup, dLst, dBoolT, dAndT, dOrT, dNotT, dAndV, dOrV, dNotV, dCall, dCall0, dB, dIsi, dRepr, dAbs, dInt1, dInt2, dAll, dstart, dwipe, clean, Sl.clean, List.map_cons, List.map_nil, List.length_cons, List.length_nil, List.replicate, List.cons_append, List.nil_append, List.set_cons_zero, List.set_cons_succ, List.getElem?_cons_zero, List.getElem?_cons_succ, Nat.reduceAdd, Nat.reduceSub, Nat.add_zero, Nat.zero_add, Nat.add_sub_cancel, Nat.sub_self, atI_0, atI_1, atI_2, atI_3, dLtI, dLeI, dGtI, dGeI, dSub, dFd, dMod, dPow, eAdd_i, eAdd_l, eMul_i, eMul_l, eIx_l, eIx_t, eLen_l, eLen_t, eInt_i, eInt_b, eEq_i, eNe_i, eEq_e, dRaise, dRetX, dTry, dGcd3, dIsB, dChain, dZip, dItT, dItL, dSl, dNoPart, dPart, dChain, dgUnl, dParO, notN_no, notN_t, isN_no, dRev, dParC, dOwnC, dMaxD, dEnum, capD, dLstN]
    exact fun ad => hN _ ⟨ad, rfl⟩
  rintro σ2 ⟨ad, rfl⟩
  refine dFor_m ps pD (fun pre σ => ∃ x2 : Sl, (∀ x ∈ chainR Pt.o pre, x ∈ pre) ∧ σ = [.val (.list (ps.map pD)), .own ad ((chainR Pt.o pre).reverse.map pD), x2]) ?_ ⟨_, by simp [chainR], rfl⟩ ?_ ?_
  · intro R hR
    simp only [dSeq, dNext, dRet, dIf, dDrop, dAsg, dgName, dgNil, dgCons, dgTup, dPar, dPar3, dOwn, dApp, dFrz, dVar, dC, dOp, dI, dI0, dB0, dNeg, dTup, dLst, dBoolT, dAndT, dOrT, dNotT, dAndV, dOrV, dNotV, dCall, dCall0, dB, dIsi, dRepr, dAbs, dInt1, dInt2, dAll, dstart, dwipe, clean, Sl.clean, List.map_cons, List.map_nil, List.length_cons, List.length_nil, List.replicate, List.cons_append, List.nil_append, List.set_cons_zero, List.set_cons_succ, List.getElem?_cons_zero, List.getElem?_cons_succ, Nat.reduceAdd, Nat.reduceSub, Nat.add_zero, Nat.zero_add, Nat.add_sub_cancel, Nat.sub_self, atI_0, atI_1, atI_2, atI_3, dLtI, dLeI, dGtI, dGeI, dSub, dFd, dMod, dPow, eAdd_i, eAdd_l, eMul_i, eMul_l, eIx_l, eIx_t, eLen_l, eLen_t, eInt_i, eInt_b, eEq_i, eNe_i, eEq_e, dRaise, dRetX, dTry, dGcd3, dIsB, dChain, dZip, dItT, dItL, dSl, dNoPart, dPart, dChain, dgUnl, dParO, notN_no, notN_t, isN_no, dRev, dParC, dOwnC, dMaxD, dEnum, capD, dLstN, dItL]
    exact hR
  · rintro pre u post e σ' ⟨x2, hm, rfl⟩
    have hu : PB k u := hb u (by rw [e]; simp)
    have hpl : pre.length < ps.length := by rw [e]; simp
    have hcl := chain_len Pt.o pre
    have hst : ∀ x ∈ chainR Pt.o pre, x ∈ pre ∧ PB k x := fun x hx => ⟨hm x hx, hb x (by rw [e]; simp [hm x hx])⟩
    rw [chain_step]
    have fin : (∀ x ∈ push Pt.o u (chainR Pt.o pre), x ∈ pre ++ [u]) := fun x hx => by
      rcases push_mem _ _ hx with rfl | y
      · simp
      · exact List.mem_append.mpr (.inl (hm x y))
    generalize chainR Pt.o pre = st0 at hst hcl fin ⊢
    show dSeq _ _ _ _
    simp only [dgName, List.set_cons_zero, List.set_cons_succ]
    refine dSeq_g (fun σ => ∃ st : List Pt, push Pt.o u st0 = u :: st ∧ st.length ≤ st0.length ∧ σ = [.val (.list (ps.map pD)), .own ad (st.reverse.map pD), .val (pD u)]) ?_ ?_
    · intro N hN
      refine ⟨fun n σ => ∃ st : List Pt, n = st.length ∧ push Pt.o u st0 = push Pt.o u st ∧ (∀ x ∈ st, PB k x) ∧ st.length ≤ st0.length ∧ σ = [.val (.list (ps.map pD)), .own ad (st.reverse.map pD), .val (pD u)], ⟨_, st0, rfl, rfl, fun x hx => (hst x hx).2, Nat.le_refl _, rfl⟩, ?_⟩
      rintro n σ' ⟨st, rfl, hp, hs, hsl, rfl⟩
      refine ⟨ad, _, rfl, ?_⟩
      match st, hp, hs, hsl with
      | [], hp, hs, hsl =>
        simp only [dSeq, dNext, dRet, dIf, dDrop, dAsg, dgName, dgNil, dgCons, dgTup, dPar, dPar3, dOwn, dApp, dFrz, dVar, dC, dOp, dI, dI0, dB0, dNeg, dTup, dLst, dBoolT, dAndT, dOrT, dNotT, dAndV, dOrV, dNotV, dCall, dCall0, dB, dIsi, dRepr, dAbs, dInt1, dInt2, dAll, dstart, dwipe, clean, Sl.clean, List.map_cons, List.map_nil, List.length_cons, List.length_nil, List.replicate, List.cons_append, List.nil_append, List.set_cons_zero, List.set_cons_succ, List.getElem?_cons_zero, List.getElem?_cons_succ, Nat.reduceAdd, Nat.reduceSub, Nat.add_zero, Nat.zero_add, Nat.add_sub_cancel, Nat.sub_self, atI_0, atI_1, atI_2, atI_3, dLtI, dLeI, dGtI, dGeI, dSub, dFd, dMod, dPow, eAdd_i, eAdd_l, eMul_i, eMul_l, eIx_l, eIx_t, eLen_l, eLen_t, eInt_i, eInt_b, eEq_i, eNe_i, eEq_e, dRaise, dRetX, dTry, dGcd3, dIsB, dChain, dZip, dItT, dItL, dSl, dNoPart, dPart, dChain, dgUnl, dParO, notN_no, notN_t, isN_no, dRev, dParC, dOwnC, dMaxD, dEnum, capD, dLstN]
        refine iteF (hN _ ⟨[], by rw [hp]; rfl, hsl, rfl⟩)
      | [b], hp, hs, hsl =>
        simp only [dSeq, dNext, dRet, dIf, dDrop, dAsg, dgName, dgNil, dgCons, dgTup, dPar, dPar3, dOwn, dApp, dFrz, dVar, dC, dOp, dI, dI0, dB0, dNeg, dTup, dLst, dBoolT, dAndT, dOrT, dNotT, dAndV, dOrV, dNotV, dCall, dCall0, dB, dIsi, dRepr, dAbs, dInt1, dInt2, dAll, dstart, dwipe, clean, Sl.clean, List.map_cons, List.map_nil, List.length_cons, List.length_nil, List.replicate, List.cons_append, List.nil_append, List.set_cons_zero, List.set_cons_succ, List.getElem?_cons_zero, List.getElem?_cons_succ, Nat.reduceAdd, Nat.reduceSub, Nat.add_zero, Nat.zero_add, Nat.add_sub_cancel, Nat.sub_self, atI_0, atI_1, atI_2, atI_3, dLtI, dLeI, dGtI, dGeI, dSub, dFd, dMod, dPow, eAdd_i, eAdd_l, eMul_i, eMul_l, eIx_l, eIx_t, eLen_l, eLen_t, eInt_i, eInt_b, eEq_i, eNe_i, eEq_e, dRaise, dRetX, dTry, dGcd3, dIsB, dChain, dZip, dItT, dItL, dSl, dNoPart, dPart, dChain, dgUnl, dParO, notN_no, notN_t, isN_no, dRev, dParC, dOwnC, dMaxD, dEnum, capD, dLstN]
        refine ifF (by simp) (hN _ ⟨[b], by rw [hp]; rfl, hsl, rfl⟩)
      | b :: a :: r, hp, hs, hsl =>
        have er : (b :: a :: r).reverse.map pD = r.reverse.map pD ++ [pD a, pD b] := by simp
        have er2 : (b :: a :: r).reverse.map pD = (r.reverse.map pD ++ [pD a]) ++ [pD b] := by simp
        have a1 : L2.atI ((b :: a :: r).reverse.map pD) (-2) = some (pD a) := by rw [er]; exact atI_m2 _ _ _
        have a2 : L2.atI ((b :: a :: r).reverse.map pD) (-1) = some (pD b) := by rw [er2]; exact atI_m1 _ _
        have ln : 1 < (((b :: a :: r).reverse.map pD).length : Int) := by simp; omega
        have ct : (b :: a :: r).reverse.map pD = (a :: r).reverse.map pD ++ [pD b] := by simp
        generalize hL : (b :: a :: r).reverse.map pD = L at a1 a2 ln ct ⊢
        simp only [dSeq, dNext, dRet, dIf, dDrop, dAsg, dgName, dgNil, dgCons, dgTup, dPar, dPar3, dOwn, dApp, dFrz, dVar, dC, dOp, dI, dI0, dB0, dNeg, dTup, dLst, dBoolT, dAndT, dOrT, dNotT, dAndV, dOrV, dNotV, dCall, dCall0, dB, dIsi, dRepr, dAbs, dInt1, dInt2, dAll, dstart, dwipe, clean, Sl.clean, List.map_cons, List.map_nil, List.length_cons, List.length_nil, List.replicate, List.cons_append, List.nil_append, List.set_cons_zero, List.set_cons_succ, List.getElem?_cons_zero, List.getElem?_cons_succ, Nat.reduceAdd, Nat.reduceSub, Nat.add_zero, Nat.zero_add, Nat.add_sub_cancel, Nat.sub_self, atI_0, atI_1, atI_2, atI_3, dLtI, dLeI, dGtI, dGeI, dSub, dFd, dMod, dPow, eAdd_i, eAdd_l, eMul_i, eMul_l, eIx_l, eIx_t, eLen_l, eLen_t, eInt_i, eInt_b, eEq_i, eNe_i, eEq_e, dRaise, dRetX, dTry, dGcd3, dIsB, dChain, dZip, dItT, dItL, dSl, dNoPart, dPart, dChain, dgUnl, dParO, notN_no, notN_t, isN_no, dRev, dParC, dOwnC, dMaxD, dEnum, capD, dLstN]
        refine ifT (decide_eq_true (by omega)) ?_
        rw [a1, a2]
        dsimp only
        refine turn_c (hs a (by simp)) (hs b (by simp)) hu hk ?_
        dsimp only
        have eqp : push Pt.o u (b :: a :: r) = if Pt.o a b u < 1 then push Pt.o u (a :: r) else u :: b :: a :: r := rfl
        by_cases z : Pt.o a b u < 1
        · have sz : Int.sign (Pt.o a b u) < 1 := by
            rcases Int.lt_trichotomy (Pt.o a b u) 0 with y | y | y
            · rw [Int.sign_eq_neg_one_of_neg y]; decide
            · rw [y]; decide
            · omega
          refine ifT (decide_eq_true sz) ?_
          refine ⟨ad, (a :: r).reverse.map pD, pD b, by rw [ct]; rfl, ?_⟩
          exact ⟨_, by simp, a :: r, rfl, by rw [hp, eqp, if_pos z], fun x hx => hs x (by simp [hx]), by simp at hsl ⊢; omega, rfl⟩
        · have sz : Int.sign (Pt.o a b u) = 1 := Int.sign_eq_one_of_pos (by omega)
          refine ifF (decide_eq_false (by rw [sz]; decide)) ?_
          exact hN _ ⟨b :: a :: r, by rw [hp, eqp, if_neg z], hsl, by rw [hL]⟩
    rintro σ2 ⟨st, hp, hsl, rfl⟩
    have eq : st.reverse.map pD ++ [pD u] = (push Pt.o u st0).reverse.map pD := by rw [hp]; simp
    have ll : (st.reverse.map pD).length ≤ 1000000 := by simp; omega
    generalize st.reverse.map pD = L at eq ll ⊢
    simp only [dSeq, dNext, dRet, dIf, dDrop, dAsg, dgName, dgNil, dgCons, dgTup, dPar, dPar3, dOwn, dApp, dFrz, dVar, dC, dOp, dI, dI0, dB0, dNeg, dTup, dLst, dBoolT, dAndT, dOrT, dNotT, dAndV, dOrV, dNotV, dCall, dCall0, dB, dIsi, dRepr, dAbs, dInt1, dInt2, dAll, dstart, dwipe, clean, Sl.clean, List.map_cons, List.map_nil, List.length_cons, List.length_nil, List.replicate, List.cons_append, List.nil_append, List.set_cons_zero, List.set_cons_succ, List.getElem?_cons_zero, List.getElem?_cons_succ, Nat.reduceAdd, Nat.reduceSub, Nat.add_zero, Nat.zero_add, Nat.add_sub_cancel, Nat.sub_self, atI_0, atI_1, atI_2, atI_3, dLtI, dLeI, dGtI, dGeI, dSub, dFd, dMod, dPow, eAdd_i, eAdd_l, eMul_i, eMul_l, eIx_l, eIx_t, eLen_l, eLen_t, eInt_i, eInt_b, eEq_i, eNe_i, eEq_e, dRaise, dRetX, dTry, dGcd3, dIsB, dChain, dZip, dItT, dItL, dSl, dNoPart, dPart, dChain, dgUnl, dParO, notN_no, notN_t, isN_no, dRev, dParC, dOwnC, dMaxD, dEnum, capD, dLstN]
    refine ⟨ll, ?_⟩
    rw [eq]
    exact ⟨_, fin, rfl⟩
  rintro σ' ⟨x2, hm, rfl⟩
  show Qd (.list ((chainR Pt.o ps).reverse.map pD))
  exact h
theorem ok_hull (T : Tx K mg base) : DefX P w K mg base 6 "hull" ["places"] spHullX := by
  obtain ⟨C_NoPlaces, O_NoPlaces, OE_NoPlaces⟩ := T.x_NoPlaces
  refine defX T.f_hull sc_hull bn_hull (fun f cdv A outer s H E hr hg tk => (pss_dc (psd_if (pdt_eq hr.units (pd_blt call_len lc_len rfl T.b_len (by decide +kernel) (pda_cons (pd_var 0) pda_nil)) pd_int) (pss_d1 (psd_raise0 PySem.F.excBase_ValueError O_NoPlaces (by rfl) tk (by rfl) (by decide) rfl)) pss_d0)
      (pss_dc (psd_set (i := 1) sc_hull.nd rfl (Or.inr rfl) (pd_fn (ok_ascending T) hr (by decide) hg (pda_cons (pd_var 0) pda_nil)))
      (pss_dc (psd_setLci (i := 2) (own := [("k", 3), ("p", 4)]) rfl sc_hull.nd rfl rfl (sw_true rfl rfl rfl (by decide +kernel)) (pdi_enum rfl T.b_enumerate (pda_cons (pd_var 1) pda_nil)) (blk (N := N_hull) (sc := defScope s_hull) (by decide +kernel)) (fun _ _ _ _ _ => pg_tup rfl (pgs_cons (pg_name (i := 3) sc_hull.nd rfl (Or.inl rfl)) (pgs_cons (pg_name (i := 4) sc_hull.nd rfl (Or.inl rfl)) pgs_nil))) (lg_tup (lgs_cons (lgs_cons lgs_nil)) (dgl_cons (dgl_cons dgl_nil))) (sets_tup (sets_cons (by decide) (sets_cons (by decide) sets_nil))) (fun _ _ _ _ _ => (pdt_w (pdw_or (pdt_eq hr.units (pd_var 3) pd_int) (pdw_or1 (pdt_ne hr.units (pd_var 4) (pd_ix (pd_var 1) (pd_sub (pd_var 3) pd_int))))))) (fun _ _ _ _ _ => (pd_var 4)))
      (pss_dc (psd_if (pdt_eq hr.units (pd_blt call_len lc_len rfl T.b_len (by decide +kernel) (pda_cons (pd_var 2) pda_nil)) pd_int) (pss_d1 (psd_ret (pd_tup (pda_cons (pd_ix (pd_var 2) pd_int) pda_nil)))) pss_d0)
      (pss_d1 (psd_ret (pd_ty call_tuple_of lc_tupOf rfl T.b_tuple (by decide +kernel) (pda_cons (pd_addA (pd_sl (pd_fn (ok_left_turns T) hr (by decide) hg (pda_cons (pd_var 2) pda_nil)) pdo_none (pdo_some (pd_neg pd_int))) (pd_sl (pd_fn (ok_left_turns T) hr (by decide) hg (pda_cons (pd_rev (pd_var 2)) pda_nil)) pdo_none (pdo_some (pd_neg pd_int)))) pda_nil))))))))) ?_
  rintro ds Qd Ed _ (⟨b, ps, ⟨rfl, ⟨k, hk, hb⟩, hl⟩, hne, h⟩ | ⟨⟨b, rfl⟩, h⟩)
  rotate_left
  · have fin : ∀ c, mg "NoPlaces" = some c → ∃ n, Ed n ∧ mg n = some c := fun c hc => ⟨_, h, hc⟩
    cases b <;> (simp only [dSeq, dNext, dRet, dIf, dDrop, dAsg, dgName, dgNil, dgCons, dgTup, dPar, dPar3, dOwn, dApp, dFrz, dVar, dC, dOp, dI, dI0, dB0, dNeg, dTup, dLst, dBoolT, dAndT, dOrT, dNotT, dAndV, dOrV, dNotV, dCall, dCall0, dB, dIsi, dRepr, dAbs, dInt1, dInt2, dAll, dstart, dwipe, clean, Sl.clean, List.map_cons, List.map_nil, List.length_cons, List.length_nil, List.replicate, List.cons_append, List.nil_append, List.set_cons_zero, List.set_cons_succ, List.getElem?_cons_zero, List.getElem?_cons_succ, Nat.reduceAdd, Nat.reduceSub, Nat.add_zero, Nat.zero_add, Nat.add_sub_cancel, Nat.sub_self, atI_0, atI_1, atI_2, atI_3, dLtI, dLeI, dGtI, dGeI, dSub, dFd, dMod, dPow, eAdd_i, eAdd_l, eMul_i, eMul_l, eIx_l, eIx_t, eLen_l, eLen_t, eInt_i, eInt_b, eEq_i, eNe_i, eEq_e, dRaise, dRetX, dTry, dGcd3, dIsB, dChain, dZip, dItT, dItL, dSl, dNoPart, dPart, dChain, dgUnl, dParO, notN_no, notN_t, isN_no, dRev, dParC, dOwnC, dMaxD, dEnum, capD, dLstN, seqD, cond]; exact fin)
  have ln : 0 < ps.length := List.length_pos_iff.mpr hne
  show dSeq _ _ _ [.val (seqD b (ps.map pD)), .emp, .emp, .emp, .emp]
  refine dIf_no (fun R hR => ?_) ?_
  · have e : decide ((ps.length : Int) = 0) = false := decide_eq_false (by omega)
    cases b <;> (simp only [dSeq, dNext, dRet, dIf, dDrop, dAsg, dgName, dgNil, dgCons, dgTup, dPar, dPar3, dOwn, dApp, dFrz, dVar, dC, dOp, dI, dI0, dB0, dNeg, dTup, dLst, dBoolT, dAndT, dOrT, dNotT, dAndV, dOrV, dNotV, dCall, dCall0, dB, dIsi, dRepr, dAbs, dInt1, dInt2, dAll, dstart, dwipe, clean, Sl.clean, List.map_cons, List.map_nil, List.length_cons, List.length_nil, List.replicate, List.cons_append, List.nil_append, List.set_cons_zero, List.set_cons_succ, List.getElem?_cons_zero, List.getElem?_cons_succ, Nat.reduceAdd, Nat.reduceSub, Nat.add_zero, Nat.zero_add, Nat.add_sub_cancel, Nat.sub_self, atI_0, atI_1, atI_2, atI_3, dLtI, dLeI, dGtI, dGeI, dSub, dFd, dMod, dPow, eAdd_i, eAdd_l, eMul_i, eMul_l, eIx_l, eIx_t, eLen_l, eLen_t, eInt_i, eInt_b, eEq_i, eNe_i, eEq_e, dRaise, dRetX, dTry, dGcd3, dIsB, dChain, dZip, dItT, dItL, dSl, dNoPart, dPart, dChain, dgUnl, dParO, notN_no, notN_t, isN_no, dRev, dParC, dOwnC, dMaxD, dEnum, capD, dLstN, seqD, cond, List.length_map]; rw [e]; exact hR)
  refine dSeq_g (fun σ => σ = [.val (seqD b (ps.map pD)), .val (.list ((ascL ps).map pD)), .emp, .emp, .emp]) ?_ ?_
  · intro N hN
    simp only [dSeq, dNext, dRet, dIf, dDrop, dAsg, dgName, dgNil, dgCons, dgTup, dPar, dPar3, dOwn, dApp, dFrz, dVar, dC, dOp, dI, dI0, dB0, dNeg, dTup, dLst, dBoolT, dAndT, dOrT, dNotT, dAndV, dOrV, dNotV, dCall, dCall0, dB, dIsi, dRepr, dAbs, dInt1, dInt2, dAll, dstart, dwipe, clean, Sl.clean, List.map_cons, List.map_nil, List.length_cons, List.length_nil, List.replicate, List.cons_append, List.nil_append, List.set_cons_zero, List.set_cons_succ, List.getElem?_cons_zero, List.getElem?_cons_succ, Nat.reduceAdd, Nat.reduceSub, Nat.add_zero, Nat.zero_add, Nat.add_sub_cancel, Nat.sub_self, atI_0, atI_1, atI_2, atI_3, dLtI, dLeI, dGtI, dGeI, dSub, dFd, dMod, dPow, eAdd_i, eAdd_l, eMul_i, eMul_l, eIx_l, eIx_t, eLen_l, eLen_t, eInt_i, eInt_b, eEq_i, eNe_i, eEq_e, dRaise, dRetX, dTry, dGcd3, dIsB, dChain, dZip, dItT, dItL, dSl, dNoPart, dPart, dChain, dgUnl, dParO, notN_no, notN_t, isN_no, dRev, dParC, dOwnC, dMaxD, dEnum, capD, dLstN]
    exact ⟨b, ps, ⟨rfl, ⟨k, hk, hb⟩, hl⟩, hN _ rfl⟩
  rintro σ2 rfl
  have al := asc_len ps
  have ml := pord_len ps
  have mm := pord_mem ps
  have eo := once_eq ps
  refine dSeq_g (fun σ => ∃ x3 x4 : Sl, σ = [.val (seqD b (ps.map pD)), .val (.list ((ascL ps).map pD)), .val (.list ((ordT Pt.lt ps).map pD)), x3, x4]) ?_ ?_
  · intro N hN
    rw [← eo] at hN
    generalize ascL ps = R at al hN ⊢
    generalize seqD b (ps.map pD) = A at hN ⊢
    simp only [dSeq, dNext, dRet, dIf, dDrop, dAsg, dgName, dgNil, dgCons, dgTup, dPar, dPar3, dOwn, dApp, dFrz, dVar, dC, dOp, dI, dI0, dB0, dNeg, dTup, dLst, dBoolT, dAndT, dOrT, dNotT, dAndV, dOrV, dNotV, dCall, dCall0, dB, dIsi, dRepr, dAbs, dInt1, dInt2, dAll, dstart, dwipe, clean, Sl.clean, List.map_cons, List.map_nil, List.length_cons, List.length_nil, List.replicate, List.cons_append, List.nil_append, List.set_cons_zero, List.set_cons_succ, List.getElem?_cons_zero, List.getElem?_cons_succ, Nat.reduceAdd, Nat.reduceSub, Nat.add_zero, Nat.zero_add, Nat.add_sub_cancel, Nat.sub_self, atI_0, atI_1, atI_2, atI_3, dLtI, dLeI, dGtI, dGeI, dSub, dFd, dMod, dPow, eAdd_i, eAdd_l, eMul_i, eMul_l, eIx_l, eIx_t, eLen_l, eLen_t, eInt_i, eInt_b, eEq_i, eNe_i, eEq_e, dRaise, dRetX, dTry, dGcd3, dIsB, dChain, dZip, dItT, dItL, dSl, dNoPart, dPart, dChain, dgUnl, dParO, notN_no, notN_t, isN_no, dRev, dParC, dOwnC, dMaxD, dEnum, capD, dLstN]
    refine dLcc_once R (fun P hP => ?_) (by omega) ?_ ?_
    · simp only [dSeq, dNext, dRet, dIf, dDrop, dAsg, dgName, dgNil, dgCons, dgTup, dPar, dPar3, dOwn, dApp, dFrz, dVar, dC, dOp, dI, dI0, dB0, dNeg, dTup, dLst, dBoolT, dAndT, dOrT, dNotT, dAndV, dOrV, dNotV, dCall, dCall0, dB, dIsi, dRepr, dAbs, dInt1, dInt2, dAll, dstart, dwipe, clean, Sl.clean, List.map_cons, List.map_nil, List.length_cons, List.length_nil, List.replicate, List.cons_append, List.nil_append, List.set_cons_zero, List.set_cons_succ, List.getElem?_cons_zero, List.getElem?_cons_succ, Nat.reduceAdd, Nat.reduceSub, Nat.add_zero, Nat.zero_add, Nat.add_sub_cancel, Nat.sub_self, atI_0, atI_1, atI_2, atI_3, dLtI, dLeI, dGtI, dGeI, dSub, dFd, dMod, dPow, eAdd_i, eAdd_l, eMul_i, eMul_l, eIx_l, eIx_t, eLen_l, eLen_t, eInt_i, eInt_b, eEq_i, eNe_i, eEq_e, dRaise, dRetX, dTry, dGcd3, dIsB, dChain, dZip, dItT, dItL, dSl, dNoPart, dPart, dChain, dgUnl, dParO, notN_no, notN_t, isN_no, dRev, dParC, dOwnC, dMaxD, dEnum, capD, dLstN]
      exact hP
    · intro i x hx Q1 Q0 q1 q0
      have hi : i < R.length := (List.getElem?_eq_some_iff.mp hx).1
      simp only [dSeq, dNext, dRet, dIf, dDrop, dAsg, dgName, dgNil, dgCons, dgTup, dPar, dPar3, dOwn, dApp, dFrz, dVar, dC, dOp, dI, dI0, dB0, dNeg, dTup, dLst, dBoolT, dAndT, dOrT, dNotT, dAndV, dOrV, dNotV, dCall, dCall0, dB, dIsi, dRepr, dAbs, dInt1, dInt2, dAll, dstart, dwipe, clean, Sl.clean, List.map_cons, List.map_nil, List.length_cons, List.length_nil, List.replicate, List.cons_append, List.nil_append, List.set_cons_zero, List.set_cons_succ, List.getElem?_cons_zero, List.getElem?_cons_succ, Nat.reduceAdd, Nat.reduceSub, Nat.add_zero, Nat.zero_add, Nat.add_sub_cancel, Nat.sub_self, atI_0, atI_1, atI_2, atI_3, dLtI, dLeI, dGtI, dGeI, dSub, dFd, dMod, dPow, eAdd_i, eAdd_l, eMul_i, eMul_l, eIx_l, eIx_t, eLen_l, eLen_t, eInt_i, eInt_b, eEq_i, eNe_i, eEq_e, dRaise, dRetX, dTry, dGcd3, dIsB, dChain, dZip, dItT, dItL, dSl, dNoPart, dPart, dChain, dgUnl, dParO, notN_no, notN_t, isN_no, dRev, dParC, dOwnC, dMaxD, dEnum, capD, dLstN]
      by_cases z : i = 0
      · refine ifT (decide_eq_true (by omega)) ?_
        first
          | exact q1 (Or.inl z)
          | exact iteT (q1 (Or.inl z))
      · refine ifF (decide_eq_false (by omega)) ?_
        have hj : R[i - 1]? = some R[i - 1] := List.getElem?_eq_getElem (by omega)
        have a1 : L2.atI (R.map pD) ((i : Int) - 1) = some (pD R[i - 1]) := by
          rw [show ((i : Int) - 1) = ((i - 1 : Nat) : Int) by omega]
          exact atI_nat (by rw [List.getElem?_map, hj]; rfl)
        generalize R.map pD = L at a1 ⊢
        rw [a1]
        dsimp only
        refine dNe_pD ?_
        by_cases y : x = R[i - 1]
        · rw [decide_eq_true y]
          refine iteF (q0 fun n => ?_)
          rcases n with n | n
          · exact z n
          · exact n (by rw [hj, ← y])
        · rw [decide_eq_false y]
          exact iteT (q1 (.inr fun w => y (by rw [hj] at w; exact (Option.some.inj w).symm)))
    · exact hN _ ⟨_, _, rfl⟩
  rintro σ2 ⟨x3, x4, rfl⟩
  have ne' : ordT Pt.lt ps ≠ [] := fun z => by
    cases ps with
    | nil => exact hne rfl
    | cons p r => have := (mm p).mpr (by simp); rw [z] at this; cases this
  unfold hullP at h
  have hb' : ∀ x ∈ ordT Pt.lt ps, PB k x := fun x hx => hb x ((mm x).mp hx)
  generalize ordT Pt.lt ps = qs at ml hb' h ne' ⊢
  generalize seqD b (ps.map pD) = A
  generalize (ascL ps).map pD = B
  match qs, ml, hb', h, ne' with
  | [], _, _, _, ne' => exact absurd rfl ne'
  | [q], ml, hb', h, _ =>
    rw [if_pos (by simp)] at h
    simp only [dSeq, dNext, dRet, dIf, dDrop, dAsg, dgName, dgNil, dgCons, dgTup, dPar, dPar3, dOwn, dApp, dFrz, dVar, dC, dOp, dI, dI0, dB0, dNeg, dTup, dLst, dBoolT, dAndT, dOrT, dNotT, dAndV, dOrV, dNotV, dCall, dCall0, dB, dIsi, dRepr, dAbs, dInt1, dInt2, dAll, dstart, dwipe, clean, Sl.clean, List.map_cons, List.map_nil, List.length_cons, List.length_nil, List.replicate, List.cons_append, List.nil_append, List.set_cons_zero, List.set_cons_succ, List.getElem?_cons_zero, List.getElem?_cons_succ, Nat.reduceAdd, Nat.reduceSub, Nat.add_zero, Nat.zero_add, Nat.add_sub_cancel, Nat.sub_self, atI_0, atI_1, atI_2, atI_3, dLtI, dLeI, dGtI, dGeI, dSub, dFd, dMod, dPow, eAdd_i, eAdd_l, eMul_i, eMul_l, eIx_l, eIx_t, eLen_l, eLen_t, eInt_i, eInt_b, eEq_i, eNe_i, eEq_e, dRaise, dRetX, dTry, dGcd3, dIsB, dChain, dZip, dItT, dItL, dSl, dNoPart, dPart, dChain, dgUnl, dParO, notN_no, notN_t, isN_no, dRev, dParC, dOwnC, dMaxD, dEnum, capD, dLstN]
    exact ifT (by simp) h
  | q :: q2 :: r, ml, hb', h, _ =>
    rw [if_neg (by simp)] at h
    generalize hqs : q :: q2 :: r = qs at ml hb' h ⊢
    have z : 1 < qs.length := by rw [← hqs]; simp
    have c1 := chain_len Pt.o qs
    have c2 := chain_len Pt.o qs.reverse
    rw [List.length_reverse] at c2
    simp only [dSeq, dNext, dRet, dIf, dDrop, dAsg, dgName, dgNil, dgCons, dgTup, dPar, dPar3, dOwn, dApp, dFrz, dVar, dC, dOp, dI, dI0, dB0, dNeg, dTup, dLst, dBoolT, dAndT, dOrT, dNotT, dAndV, dOrV, dNotV, dCall, dCall0, dB, dIsi, dRepr, dAbs, dInt1, dInt2, dAll, dstart, dwipe, clean, Sl.clean, List.map_cons, List.map_nil, List.length_cons, List.length_nil, List.replicate, List.cons_append, List.nil_append, List.set_cons_zero, List.set_cons_succ, List.getElem?_cons_zero, List.getElem?_cons_succ, Nat.reduceAdd, Nat.reduceSub, Nat.add_zero, Nat.zero_add, Nat.add_sub_cancel, Nat.sub_self, atI_0, atI_1, atI_2, atI_3, dLtI, dLeI, dGtI, dGeI, dSub, dFd, dMod, dPow, eAdd_i, eAdd_l, eMul_i, eMul_l, eIx_l, eIx_t, eLen_l, eLen_t, eInt_i, eInt_b, eEq_i, eNe_i, eEq_e, dRaise, dRetX, dTry, dGcd3, dIsB, dChain, dZip, dItT, dItL, dSl, dNoPart, dPart, dChain, dgUnl, dParO, notN_no, notN_t, isN_no, dRev, dParC, dOwnC, dMaxD, dEnum, capD, dLstN, dSlA, dRev]
    refine ifF (decide_eq_false (by simp; omega)) ⟨qs, ⟨rfl, ⟨k, hk, hb'⟩, by omega⟩, qs.reverse, ⟨by rw [List.map_reverse], ⟨k, hk, fun x hx => hb' x (List.mem_reverse.mp hx)⟩, by rw [List.length_reverse]; omega⟩, ?_⟩
    rw [cut_init]
    dsimp only
    rw [cut_init]
    refine ⟨?_, ?_⟩
    · simp only [chainL, List.length_map, List.length_dropLast, List.length_reverse]; omega
    unfold hullL at h
    rw [List.map_append] at h
    exact h
theorem ok_ways (T : Tx K mg base) : DefOk P w K mg base 1 "ways" ["plate"] spWays := by
  refine defOk T.f_ways sc_ways bn_ways (fun f cdv A outer s H hr hg => (pss_d1 (psd_ret (pd_listZip rfl rfl T.b_list rfl T.b_zip (pda_cons (pd_var 0) (pda_cons (pd_catT (pd_sl (pd_var 0) (pdo_some pd_int) pdo_none) (pd_sl (pd_var 0) pdo_none (pdo_some pd_int))) pda_nil)))))) ?_
  rintro ds Qd _ ⟨H, rfl, h2, hl, h⟩
  match H, h2, hl, h with
  | a :: b :: r, h2, hl, h =>
    have e1 : cutD ((a :: b :: r).map pD) (some 1) none = (b :: r).map pD := by rw [cut_1m']; rfl
    have e2 : cutD ((a :: b :: r).map pD) none (some 1) = [pD a] := cut_to pD (a :: b :: r) 1
    have hl' : (a :: b :: r).map pD = pD a :: pD b :: r.map pD := rfl
    have ez : zipD ((a :: b :: r).map pD) ((b :: r).map pD ++ [pD a]) = (nx ((a :: b :: r) ++ (a :: b :: r).take 1)).map ppD := zip_nx a (b :: r)
    generalize (a :: b :: r).map pD = L at e1 e2 hl' ez ⊢
    simp only [dSeq, dNext, dRet, dIf, dDrop, dAsg, dgName, dgNil, dgCons, dgTup, dPar, dPar3, dOwn, dApp, dFrz, dVar, dC, dOp, dI, dI0, dB0, dNeg, dTup, dLst, dBoolT, dAndT, dOrT, dNotT, dAndV, dOrV, dNotV, dCall, dCall0, dB, dIsi, dRepr, dAbs, dInt1, dInt2, dAll, dstart, dwipe, clean, Sl.clean, List.map_cons, List.map_nil, List.length_cons, List.length_nil, List.replicate, List.cons_append, List.nil_append, List.set_cons_zero, List.set_cons_succ, List.getElem?_cons_zero, List.getElem?_cons_succ, Nat.reduceAdd, Nat.reduceSub, Nat.add_zero, Nat.zero_add, Nat.add_sub_cancel, Nat.sub_self, atI_0, atI_1, atI_2, atI_3, dLtI, dLeI, dGtI, dGeI, dSub, dFd, dMod, dPow, eAdd_i, eAdd_l, eMul_i, eMul_l, eIx_l, eIx_t, eLen_l, eLen_t, eInt_i, eInt_b, eEq_i, eNe_i, eEq_e, dRaise, dRetX, dTry, dGcd3, dIsB, dChain, dZip, dItT, dItL, dSl, dNoPart, dPart, dChain, dgUnl, dParO, notN_no, notN_t, isN_no, dRev, dSlA, dLZ, dCatT]
    rw [e1, e2]
    refine ⟨by simp, by simp, by simp at hl ⊢; omega, ?_⟩
    refine ⟨by rw [hl']; simp, ?_⟩
    rw [ez]
    exact h
theorem ok_inside (T : Tx K mg base) : DefOk P w K mg base 7 "inside" ["plate"] spInside := by
  refine defOk T.f_inside sc_inside bn_inside (fun f cdv A outer s H hr hg => (pss_dc (psd_setLc (i := 1) (own := [("p", 2)]) rfl sc_inside.nd rfl rfl (sw_true rfl rfl rfl (by decide +kernel)) (pdi_tup (pd_var 0)) (blk (N := N_inside) (sc := defScope s_inside) (by decide +kernel)) (fun _ _ _ _ _ => pg_name sc_inside.nd rfl (Or.inl rfl)) (lg_name 2) (sets_name (by decide)) (fun _ _ _ _ _ => (pd_tup (pda_cons (pd_tup (pda_cons (pd_var 2) pda_nil)) (pda_cons pd_int pda_nil)))))
      (pss_dc (psd_if (pdt_eq hr.units (pd_blt call_len lc_len rfl T.b_len (by decide +kernel) (pda_cons (pd_var 0) pda_nil)) pd_int) (pss_d1 (psd_ret (pd_var 1))) pss_d0)
      (pss_dc (psd_if (pdt_eq hr.units (pd_blt call_len lc_len rfl T.b_len (by decide +kernel) (pda_cons (pd_var 0) pda_nil)) pd_int) (pss_d1 (psd_ret (pd_addA (pd_lst (pda_cons (pd_tup (pda_cons (pd_var 0) (pda_cons pd_int pda_nil))) pda_nil)) (pd_new (pdn_lc (own := [("point", 3), ("weight", 4)]) rfl sc_inside.nd (pdi_list (pd_var 1)) (blk (N := N_inside) (sc := defScope s_inside) (by decide +kernel)) (fun _ _ _ _ _ => pg_tup rfl (pgs_cons (pg_name (i := 3) sc_inside.nd rfl (Or.inl rfl)) (pgs_cons (pg_name (i := 4) sc_inside.nd rfl (Or.inl rfl)) pgs_nil))) (lg_tup (lgs_cons (lgs_cons lgs_nil)) (dgl_cons (dgl_cons dgl_nil))) (sets_tup (sets_cons (by decide) (sets_cons (by decide) sets_nil))) (fun _ _ _ _ _ => (pd_tup (pda_cons (pd_var 3) (pda_cons (pd_neg pd_int) pda_nil))))))))) pss_d0)
      (pss_d1 (psd_ret (pd_addA (pd_addA (pd_lst (pda_cons (pd_tup (pda_cons (pd_var 0) (pda_cons pd_int pda_nil))) pda_nil)) (pd_new (pdn_lc (own := [("p", 2), ("q", 5)]) rfl sc_inside.nd (pdi_list (pd_fn (ok_ways T) hr (by decide) hg (pda_cons (pd_var 0) pda_nil))) (blk (N := N_inside) (sc := defScope s_inside) (by decide +kernel)) (fun _ _ _ _ _ => pg_tup rfl (pgs_cons (pg_name (i := 2) sc_inside.nd rfl (Or.inl rfl)) (pgs_cons (pg_name (i := 5) sc_inside.nd rfl (Or.inl rfl)) pgs_nil))) (lg_tup (lgs_cons (lgs_cons lgs_nil)) (dgl_cons (dgl_cons dgl_nil))) (sets_tup (sets_cons (by decide) (sets_cons (by decide) sets_nil))) (fun _ _ _ _ _ => (pd_tup (pda_cons (pd_fn ((ok_hull T).quiet (spd' := qz spHullX) fun _ _ h => h) hr (by decide) hg (pda_cons (pd_lst (pda_cons (pd_var 2) (pda_cons (pd_var 5) pda_nil))) pda_nil)) (pda_cons (pd_neg pd_int) pda_nil))))))) (pd_var 1)))))))) ?_
  rintro ds Qd _ ⟨H, rfl, ne, hb, hl, h⟩
  have pos : 0 < H.length := List.length_pos_iff.mpr ne
  show dSeq _ _ _ _
  refine dSeq_g (fun σ => ∃ x2 x3 x4 x5 : Sl, σ = [.val (.tuple (H.map pD)), .val (.list ((H.map fun p => (([p] : List Pt), (1 : Int))).map rowD)), x2, x3, x4, x5]) ?_ ?_
  · intro N hN
    simp only [dSeq, dNext, dRet, dIf, dDrop, dAsg, dgName, dgNil, dgCons, dgTup, dPar, dPar3, dOwn, dApp, dFrz, dVar, dC, dOp, dI, dI0, dB0, dNeg, dTup, dLst, dBoolT, dAndT, dOrT, dNotT, dAndV, dOrV, dNotV, dCall, dCall0, dB, dIsi, dRepr, dAbs, dInt1, dInt2, dAll, dstart, dwipe, clean, Sl.clean, List.map_cons, List.map_nil, List.length_cons, List.length_nil, List.replicate, List.cons_append, List.nil_append, List.set_cons_zero, List.set_cons_succ, List.getElem?_cons_zero, List.getElem?_cons_succ, Nat.reduceAdd, Nat.reduceSub, Nat.add_zero, Nat.zero_add, Nat.add_sub_cancel, Nat.sub_self, atI_0, atI_1, atI_2, atI_3, dLtI, dLeI, dGtI, dGeI, dSub, dFd, dMod, dPow, eAdd_i, eAdd_l, eMul_i, eMul_l, eIx_l, eIx_t, eLen_l, eLen_t, eInt_i, eInt_b, eEq_i, eNe_i, eEq_e, dRaise, dRetX, dTry, dGcd3, dIsB, dChain, dZip, dItT, dItL, dSl, dNoPart, dPart, dChain, dgUnl, dParO, notN_no, notN_t, isN_no, dRev, dParC, dOwnC, dMaxD, dEnum, capD, dLstN]
    refine dLcc_m H pD (fun p => rowD ([p], 1)) (fun R hR => ?_) (by omega) ?_ ?_
    · simp only [dSeq, dNext, dRet, dIf, dDrop, dAsg, dgName, dgNil, dgCons, dgTup, dPar, dPar3, dOwn, dApp, dFrz, dVar, dC, dOp, dI, dI0, dB0, dNeg, dTup, dLst, dBoolT, dAndT, dOrT, dNotT, dAndV, dOrV, dNotV, dCall, dCall0, dB, dIsi, dRepr, dAbs, dInt1, dInt2, dAll, dstart, dwipe, clean, Sl.clean, List.map_cons, List.map_nil, List.length_cons, List.length_nil, List.replicate, List.cons_append, List.nil_append, List.set_cons_zero, List.set_cons_succ, List.getElem?_cons_zero, List.getElem?_cons_succ, Nat.reduceAdd, Nat.reduceSub, Nat.add_zero, Nat.zero_add, Nat.add_sub_cancel, Nat.sub_self, atI_0, atI_1, atI_2, atI_3, dLtI, dLeI, dGtI, dGeI, dSub, dFd, dMod, dPow, eAdd_i, eAdd_l, eMul_i, eMul_l, eIx_l, eIx_t, eLen_l, eLen_t, eInt_i, eInt_b, eEq_i, eNe_i, eEq_e, dRaise, dRetX, dTry, dGcd3, dIsB, dChain, dZip, dItT, dItL, dSl, dNoPart, dPart, dChain, dgUnl, dParO, notN_no, notN_t, isN_no, dRev, dParC, dOwnC, dMaxD, dEnum, capD, dLstN, dItT]
      exact hR
    · intro x hx Q hQ
      simp only [dSeq, dNext, dRet, dIf, dDrop, dAsg, dgName, dgNil, dgCons, dgTup, dPar, dPar3, dOwn, dApp, dFrz, dVar, dC, dOp, dI, dI0, dB0, dNeg, dTup, dLst, dBoolT, dAndT, dOrT, dNotT, dAndV, dOrV, dNotV, dCall, dCall0, dB, dIsi, dRepr, dAbs, dInt1, dInt2, dAll, dstart, dwipe, clean, Sl.clean, List.map_cons, List.map_nil, List.length_cons, List.length_nil, List.replicate, List.cons_append, List.nil_append, List.set_cons_zero, List.set_cons_succ, List.getElem?_cons_zero, List.getElem?_cons_succ, Nat.reduceAdd, Nat.reduceSub, Nat.add_zero, Nat.zero_add, Nat.add_sub_cancel, Nat.sub_self, atI_0, atI_1, atI_2, atI_3, dLtI, dLeI, dGtI, dGeI, dSub, dFd, dMod, dPow, eAdd_i, eAdd_l, eMul_i, eMul_l, eIx_l, eIx_t, eLen_l, eLen_t, eInt_i, eInt_b, eEq_i, eNe_i, eEq_e, dRaise, dRetX, dTry, dGcd3, dIsB, dChain, dZip, dItT, dItL, dSl, dNoPart, dPart, dChain, dgUnl, dParO, notN_no, notN_t, isN_no, dRev, dParC, dOwnC, dMaxD, dEnum, capD, dLstN]
      exact hQ
    · rw [List.map_map] at hN
      exact hN _ ⟨_, _, _, _, rfl⟩
  rintro σ2 ⟨x2, x3, x4, x5, rfl⟩
  by_cases h1 : H.length = 1
  · unfold insideL at h
    rw [if_pos h1] at h
    generalize (H.map fun p => (([p] : List Pt), (1 : Int))).map rowD = P at h ⊢
    refine dIf_k true (fun _ => False) (fun R hR => ?_) (fun _ N _ => h) (fun z => nomatch z) (fun _ z => z.elim)
    simp only [dSeq, dNext, dRet, dIf, dDrop, dAsg, dgName, dgNil, dgCons, dgTup, dPar, dPar3, dOwn, dApp, dFrz, dVar, dC, dOp, dI, dI0, dB0, dNeg, dTup, dLst, dBoolT, dAndT, dOrT, dNotT, dAndV, dOrV, dNotV, dCall, dCall0, dB, dIsi, dRepr, dAbs, dInt1, dInt2, dAll, dstart, dwipe, clean, Sl.clean, List.map_cons, List.map_nil, List.length_cons, List.length_nil, List.replicate, List.cons_append, List.nil_append, List.set_cons_zero, List.set_cons_succ, List.getElem?_cons_zero, List.getElem?_cons_succ, Nat.reduceAdd, Nat.reduceSub, Nat.add_zero, Nat.zero_add, Nat.add_sub_cancel, Nat.sub_self, atI_0, atI_1, atI_2, atI_3, dLtI, dLeI, dGtI, dGeI, dSub, dFd, dMod, dPow, eAdd_i, eAdd_l, eMul_i, eMul_l, eIx_l, eIx_t, eLen_l, eLen_t, eInt_i, eInt_b, eEq_i, eNe_i, eEq_e, dRaise, dRetX, dTry, dGcd3, dIsB, dChain, dZip, dItT, dItL, dSl, dNoPart, dPart, dChain, dgUnl, dParO, notN_no, notN_t, isN_no, dRev, dParC, dOwnC, dMaxD, dEnum, capD, dLstN, List.length_map]
    rw [decide_eq_true (by omega)]
    exact hR
  refine dIf_no (fun R hR => ?_) ?_
  · simp only [dSeq, dNext, dRet, dIf, dDrop, dAsg, dgName, dgNil, dgCons, dgTup, dPar, dPar3, dOwn, dApp, dFrz, dVar, dC, dOp, dI, dI0, dB0, dNeg, dTup, dLst, dBoolT, dAndT, dOrT, dNotT, dAndV, dOrV, dNotV, dCall, dCall0, dB, dIsi, dRepr, dAbs, dInt1, dInt2, dAll, dstart, dwipe, clean, Sl.clean, List.map_cons, List.map_nil, List.length_cons, List.length_nil, List.replicate, List.cons_append, List.nil_append, List.set_cons_zero, List.set_cons_succ, List.getElem?_cons_zero, List.getElem?_cons_succ, Nat.reduceAdd, Nat.reduceSub, Nat.add_zero, Nat.zero_add, Nat.add_sub_cancel, Nat.sub_self, atI_0, atI_1, atI_2, atI_3, dLtI, dLeI, dGtI, dGeI, dSub, dFd, dMod, dPow, eAdd_i, eAdd_l, eMul_i, eMul_l, eIx_l, eIx_t, eLen_l, eLen_t, eInt_i, eInt_b, eEq_i, eNe_i, eEq_e, dRaise, dRetX, dTry, dGcd3, dIsB, dChain, dZip, dItT, dItL, dSl, dNoPart, dPart, dChain, dgUnl, dParO, notN_no, notN_t, isN_no, dRev, dParC, dOwnC, dMaxD, dEnum, capD, dLstN, List.length_map]
    rw [decide_eq_false (by omega)]
    exact hR
  by_cases h2 : H.length = 2
  · unfold insideL at h
    rw [if_neg h1, if_pos h2] at h
    refine dIf_k true (fun _ => False) (fun R hR => ?_) (fun _ N _ => ?_) (fun z => nomatch z) (fun _ z => z.elim)
    · simp only [dSeq, dNext, dRet, dIf, dDrop, dAsg, dgName, dgNil, dgCons, dgTup, dPar, dPar3, dOwn, dApp, dFrz, dVar, dC, dOp, dI, dI0, dB0, dNeg, dTup, dLst, dBoolT, dAndT, dOrT, dNotT, dAndV, dOrV, dNotV, dCall, dCall0, dB, dIsi, dRepr, dAbs, dInt1, dInt2, dAll, dstart, dwipe, clean, Sl.clean, List.map_cons, List.map_nil, List.length_cons, List.length_nil, List.replicate, List.cons_append, List.nil_append, List.set_cons_zero, List.set_cons_succ, List.getElem?_cons_zero, List.getElem?_cons_succ, Nat.reduceAdd, Nat.reduceSub, Nat.add_zero, Nat.zero_add, Nat.add_sub_cancel, Nat.sub_self, atI_0, atI_1, atI_2, atI_3, dLtI, dLeI, dGtI, dGeI, dSub, dFd, dMod, dPow, eAdd_i, eAdd_l, eMul_i, eMul_l, eIx_l, eIx_t, eLen_l, eLen_t, eInt_i, eInt_b, eEq_i, eNe_i, eEq_e, dRaise, dRetX, dTry, dGcd3, dIsB, dChain, dZip, dItT, dItL, dSl, dNoPart, dPart, dChain, dgUnl, dParO, notN_no, notN_t, isN_no, dRev, dParC, dOwnC, dMaxD, dEnum, capD, dLstN, List.length_map]
      rw [decide_eq_true (by omega)]
      exact hR
    · simp only [dSeq, dNext, dRet, dIf, dDrop, dAsg, dgName, dgNil, dgCons, dgTup, dPar, dPar3, dOwn, dApp, dFrz, dVar, dC, dOp, dI, dI0, dB0, dNeg, dTup, dLst, dBoolT, dAndT, dOrT, dNotT, dAndV, dOrV, dNotV, dCall, dCall0, dB, dIsi, dRepr, dAbs, dInt1, dInt2, dAll, dstart, dwipe, clean, Sl.clean, List.map_cons, List.map_nil, List.length_cons, List.length_nil, List.replicate, List.cons_append, List.nil_append, List.set_cons_zero, List.set_cons_succ, List.getElem?_cons_zero, List.getElem?_cons_succ, Nat.reduceAdd, Nat.reduceSub, Nat.add_zero, Nat.zero_add, Nat.add_sub_cancel, Nat.sub_self, atI_0, atI_1, atI_2, atI_3, dLtI, dLeI, dGtI, dGeI, dSub, dFd, dMod, dPow, eAdd_i, eAdd_l, eMul_i, eMul_l, eIx_l, eIx_t, eLen_l, eLen_t, eInt_i, eInt_b, eEq_i, eNe_i, eEq_e, dRaise, dRetX, dTry, dGcd3, dIsB, dChain, dZip, dItT, dItL, dSl, dNoPart, dPart, dChain, dgUnl, dParO, notN_no, notN_t, isN_no, dRev, dParC, dOwnC, dMaxD, dEnum, capD, dLstN]
      refine dLcc_m (H.map fun p => (([p] : List Pt), (1 : Int))) rowD (fun r => rowD (r.1, -1)) (fun R hR => ?_) (by rw [List.length_map]; omega) ?_ ?_
      · simp only [dSeq, dNext, dRet, dIf, dDrop, dAsg, dgName, dgNil, dgCons, dgTup, dPar, dPar3, dOwn, dApp, dFrz, dVar, dC, dOp, dI, dI0, dB0, dNeg, dTup, dLst, dBoolT, dAndT, dOrT, dNotT, dAndV, dOrV, dNotV, dCall, dCall0, dB, dIsi, dRepr, dAbs, dInt1, dInt2, dAll, dstart, dwipe, clean, Sl.clean, List.map_cons, List.map_nil, List.length_cons, List.length_nil, List.replicate, List.cons_append, List.nil_append, List.set_cons_zero, List.set_cons_succ, List.getElem?_cons_zero, List.getElem?_cons_succ, Nat.reduceAdd, Nat.reduceSub, Nat.add_zero, Nat.zero_add, Nat.add_sub_cancel, Nat.sub_self, atI_0, atI_1, atI_2, atI_3, dLtI, dLeI, dGtI, dGeI, dSub, dFd, dMod, dPow, eAdd_i, eAdd_l, eMul_i, eMul_l, eIx_l, eIx_t, eLen_l, eLen_t, eInt_i, eInt_b, eEq_i, eNe_i, eEq_e, dRaise, dRetX, dTry, dGcd3, dIsB, dChain, dZip, dItT, dItL, dSl, dNoPart, dPart, dChain, dgUnl, dParO, notN_no, notN_t, isN_no, dRev, dParC, dOwnC, dMaxD, dEnum, capD, dLstN, dItL]
        exact hR
      · intro x hx Q hQ
        simp only [dSeq, dNext, dRet, dIf, dDrop, dAsg, dgName, dgNil, dgCons, dgTup, dPar, dPar3, dOwn, dApp, dFrz, dVar, dC, dOp, dI, dI0, dB0, dNeg, dTup, dLst, dBoolT, dAndT, dOrT, dNotT, dAndV, dOrV, dNotV, dCall, dCall0, dB, dIsi, dRepr, dAbs, dInt1, dInt2, dAll, dstart, dwipe, clean, Sl.clean, List.map_cons, List.map_nil, List.length_cons, List.length_nil, List.replicate, List.cons_append, List.nil_append, List.set_cons_zero, List.set_cons_succ, List.getElem?_cons_zero, List.getElem?_cons_succ, Nat.reduceAdd, Nat.reduceSub, Nat.add_zero, Nat.zero_add, Nat.add_sub_cancel, Nat.sub_self, atI_0, atI_1, atI_2, atI_3, dLtI, dLeI, dGtI, dGeI, dSub, dFd, dMod, dPow, eAdd_i, eAdd_l, eMul_i, eMul_l, eIx_l, eIx_t, eLen_l, eLen_t, eInt_i, eInt_b, eEq_i, eNe_i, eEq_e, dRaise, dRetX, dTry, dGcd3, dIsB, dChain, dZip, dItT, dItL, dSl, dNoPart, dPart, dChain, dgUnl, dParO, notN_no, notN_t, isN_no, dRev, dParC, dOwnC, dMaxD, dEnum, capD, dLstN]
        exact hQ
      · refine ⟨by simp; omega, ?_⟩
        rw [List.map_map]
        rw [List.map_cons, List.map_map] at h
        exact h
  refine dIf_no (fun R hR => ?_) ?_
  · simp only [dSeq, dNext, dRet, dIf, dDrop, dAsg, dgName, dgNil, dgCons, dgTup, dPar, dPar3, dOwn, dApp, dFrz, dVar, dC, dOp, dI, dI0, dB0, dNeg, dTup, dLst, dBoolT, dAndT, dOrT, dNotT, dAndV, dOrV, dNotV, dCall, dCall0, dB, dIsi, dRepr, dAbs, dInt1, dInt2, dAll, dstart, dwipe, clean, Sl.clean, List.map_cons, List.map_nil, List.length_cons, List.length_nil, List.replicate, List.cons_append, List.nil_append, List.set_cons_zero, List.set_cons_succ, List.getElem?_cons_zero, List.getElem?_cons_succ, Nat.reduceAdd, Nat.reduceSub, Nat.add_zero, Nat.zero_add, Nat.add_sub_cancel, Nat.sub_self, atI_0, atI_1, atI_2, atI_3, dLtI, dLeI, dGtI, dGeI, dSub, dFd, dMod, dPow, eAdd_i, eAdd_l, eMul_i, eMul_l, eIx_l, eIx_t, eLen_l, eLen_t, eInt_i, eInt_b, eEq_i, eNe_i, eEq_e, dRaise, dRetX, dTry, dGcd3, dIsB, dChain, dZip, dItT, dItL, dSl, dNoPart, dPart, dChain, dgUnl, dParO, notN_no, notN_t, isN_no, dRev, dParC, dOwnC, dMaxD, dEnum, capD, dLstN, List.length_map]
    rw [decide_eq_false (by omega)]
    exact hR
  unfold insideL at h
  rw [if_neg h1, if_neg h2] at h
  have ln := nx_len H ne
  generalize hP : (H.map fun p => (([p] : List Pt), (1 : Int))).map rowD = P
  have hPl : P.length = H.length := by rw [← hP]; simp
  simp only [dSeq, dNext, dRet, dIf, dDrop, dAsg, dgName, dgNil, dgCons, dgTup, dPar, dPar3, dOwn, dApp, dFrz, dVar, dC, dOp, dI, dI0, dB0, dNeg, dTup, dLst, dBoolT, dAndT, dOrT, dNotT, dAndV, dOrV, dNotV, dCall, dCall0, dB, dIsi, dRepr, dAbs, dInt1, dInt2, dAll, dstart, dwipe, clean, Sl.clean, List.map_cons, List.map_nil, List.length_cons, List.length_nil, List.replicate, List.cons_append, List.nil_append, List.set_cons_zero, List.set_cons_succ, List.getElem?_cons_zero, List.getElem?_cons_succ, Nat.reduceAdd, Nat.reduceSub, Nat.add_zero, Nat.zero_add, Nat.add_sub_cancel, Nat.sub_self, atI_0, atI_1, atI_2, atI_3, dLtI, dLeI, dGtI, dGeI, dSub, dFd, dMod, dPow, eAdd_i, eAdd_l, eMul_i, eMul_l, eIx_l, eIx_t, eLen_l, eLen_t, eInt_i, eInt_b, eEq_i, eNe_i, eEq_e, dRaise, dRetX, dTry, dGcd3, dIsB, dChain, dZip, dItT, dItL, dSl, dNoPart, dPart, dChain, dgUnl, dParO, notN_no, notN_t, isN_no, dRev, dParC, dOwnC, dMaxD, dEnum, capD, dLstN]
  refine dLcc_m (nx (H ++ H.take 1)) ppD (fun e => rowD (hullP [e.1, e.2], -1)) (fun R hR => ?_) (by omega) ?_ ?_
  · simp only [dSeq, dNext, dRet, dIf, dDrop, dAsg, dgName, dgNil, dgCons, dgTup, dPar, dPar3, dOwn, dApp, dFrz, dVar, dC, dOp, dI, dI0, dB0, dNeg, dTup, dLst, dBoolT, dAndT, dOrT, dNotT, dAndV, dOrV, dNotV, dCall, dCall0, dB, dIsi, dRepr, dAbs, dInt1, dInt2, dAll, dstart, dwipe, clean, Sl.clean, List.map_cons, List.map_nil, List.length_cons, List.length_nil, List.replicate, List.cons_append, List.nil_append, List.set_cons_zero, List.set_cons_succ, List.getElem?_cons_zero, List.getElem?_cons_succ, Nat.reduceAdd, Nat.reduceSub, Nat.add_zero, Nat.zero_add, Nat.add_sub_cancel, Nat.sub_self, atI_0, atI_1, atI_2, atI_3, dLtI, dLeI, dGtI, dGeI, dSub, dFd, dMod, dPow, eAdd_i, eAdd_l, eMul_i, eMul_l, eIx_l, eIx_t, eLen_l, eLen_t, eInt_i, eInt_b, eEq_i, eNe_i, eEq_e, dRaise, dRetX, dTry, dGcd3, dIsB, dChain, dZip, dItT, dItL, dSl, dNoPart, dPart, dChain, dgUnl, dParO, notN_no, notN_t, isN_no, dRev, dParC, dOwnC, dMaxD, dEnum, capD, dLstN, dItL]
    exact ⟨H, rfl, by omega, by omega, hR⟩
  · intro e he Q hQ
    obtain ⟨m1, m2⟩ := nx_mem he
    simp only [dSeq, dNext, dRet, dIf, dDrop, dAsg, dgName, dgNil, dgCons, dgTup, dPar, dPar3, dOwn, dApp, dFrz, dVar, dC, dOp, dI, dI0, dB0, dNeg, dTup, dLst, dBoolT, dAndT, dOrT, dNotT, dAndV, dOrV, dNotV, dCall, dCall0, dB, dIsi, dRepr, dAbs, dInt1, dInt2, dAll, dstart, dwipe, clean, Sl.clean, List.map_cons, List.map_nil, List.length_cons, List.length_nil, List.replicate, List.cons_append, List.nil_append, List.set_cons_zero, List.set_cons_succ, List.getElem?_cons_zero, List.getElem?_cons_succ, Nat.reduceAdd, Nat.reduceSub, Nat.add_zero, Nat.zero_add, Nat.add_sub_cancel, Nat.sub_self, atI_0, atI_1, atI_2, atI_3, dLtI, dLeI, dGtI, dGeI, dSub, dFd, dMod, dPow, eAdd_i, eAdd_l, eMul_i, eMul_l, eIx_l, eIx_t, eLen_l, eLen_t, eInt_i, eInt_b, eEq_i, eNe_i, eEq_e, dRaise, dRetX, dTry, dGcd3, dIsB, dChain, dZip, dItT, dItL, dSl, dNoPart, dPart, dChain, dgUnl, dParO, notN_no, notN_t, isN_no, dRev, dParC, dOwnC, dMaxD, dEnum, capD, dLstN]
    have c : ∀ p ∈ [e.1, e.2], PB 30 p := fun p hp => by
      rcases List.mem_cons.mp hp with z | z
      · rw [z]; exact hb _ m1
      · rw [List.mem_singleton.mp z]; exact hb _ m2
    exact .inl ⟨true, [e.1, e.2], ⟨rfl, ⟨30, by decide, c⟩, by simp⟩, by simp, hQ⟩
  · refine ⟨by simp; omega, ?_⟩
    refine ⟨by simp; omega, ?_⟩
    rw [← hP]
    rw [List.map_append, List.map_cons, List.map_map] at h
    exact h
theorem ok_l_open_cells (T : Tx K mg base) : NameOk P w K mg base 1 "_law_open_cells" ["_law_script"] (spCells K) := by
  refine nameOk T.f_l_open_cells sc_l_open_cells bn_l_open_cells (fun vs H Q E h => ?_) (fun f cdv A outer s H vs Q hr hg h => ?_)
  · obtain ⟨_, _, rfl, _⟩ := h
    rfl
  obtain ⟨a, ns, rfl, hS, hlen, hbits, k⟩ := h
  refine ⟨_, pss_cons (ps_set (i := 1) sc_l_open_cells.nd rfl (Or.inl rfl) pe_int)
    (pss_cons (ps_for PassesOwn.never rfl (pi_list (pv 0)) (pg_name (i := 2) sc_l_open_cells.nd rfl (Or.inl rfl))
      (pss_one (ps_set (i := 1) sc_l_open_cells.nd rfl (Or.inl rfl) (pe_op op_mod (pe_callTy call_int1 rfl T.b_int (by decide +kernel) (pa_cons (pe_op op_add (pe_op op_add (pe_op op_mul (pv 1) pe_int) (pe_op op_mul (pv 2) pe_int)) pe_int) pa_nil)) pe_int))))
    (pss_cons (ps_setLc (i := 3) (own := [("_law_cell", 2)]) (g := gName 2) (tt := tYes) rfl sc_l_open_cells.nd rfl rfl (sw_true rfl rfl rfl (by decide +kernel)) (pi_list (pv 0)) (blkOk_by (N := N_l_open_cells) (sc := defScope s_l_open_cells) (by decide +kernel))
      (fun _ _ _ _ _ => pg_name sc_l_open_cells.nd rfl (Or.inl rfl)) (fun _ _ _ _ _ => pts_nil) (fun _ _ _ _ _ => pe_callB call_abs (by rfl) T.b_abs (by decide +kernel) (pa_cons (pv 2) pa_nil)))
    (pss_one (ps_ret (pe_disp (pps_cons pe_str (pe_revL (pv 3)) (pps_cons pe_str pe_int (pps_cons pe_str (pv 1) (pps_cons pe_str pe_int pps_nil)))) rfl rfl (by simp) (by decide)))))), ?_⟩
  -- the loop
  refine ⟨_, rfl, a, rfl, ⟨_, hS⟩, for_list (K := K) (a := a) (xs := ns.map V.int) (fun i σ H2 => H2 = H ∧ ∃ (m : Int) (v : Option V), σ = [some (.ref a), some (.int m), v, none])
    ⟨rfl, 11, none, rfl⟩ (fun i σ H2 _ ⟨e, _⟩ => e ▸ hS) ?_ ?_⟩
  · rintro i x σ H2 hx ⟨eH, m, v, rfl⟩
    subst H2
    obtain ⟨z, rfl⟩ : ∃ z, x = V.int z := by
      rw [List.getElem?_map] at hx
      cases e : ns[i]? with
      | none => rw [e] at hx; cases hx
      | some z => rw [e] at hx; exact ⟨z, (Option.some.inj hx).symm⟩
    refine ⟨_, rfl, _, _, rfl, rfl, Or.inr ⟨by decide, by decide⟩, _, rfl, _, _, rfl, rfl, Or.inr ⟨by decide, by decide⟩, _, _, rfl, rfl, _, _, rfl, rfl, Or.inl ⟨_, rfl, _, _, rfl, rfl, (by show (0 : Int) < 2147483629; decide), ?_⟩⟩
    exact ⟨rfl, _, _, rfl⟩
  rintro σ H2 ⟨eH, m, v, rfl⟩
  subst H2
  -- the cells
  refine ⟨_, rfl, a, rfl, ⟨_, hS⟩, fun Dl hD => ?_⟩
  have hSD : ∀ o, SqL K (upd H Dl o) a (ns.map V.int) := fun o => (Same.upd hD).seq hS
  refine lc_list (K := K) (a := a) (xs := ns.map V.int) (fun i H2 => ∃ ms : List Int, H2 = upd H Dl (.lst (ms.map V.int)) ∧ ms.length ≤ i) ⟨[], rfl, Nat.le_refl _⟩ (fun i H2 _ ⟨ms, e, _⟩ => e ▸ hSD _) ?_ ?_
  · rintro i x H2 hx ⟨ms, rfl, hms⟩
    obtain ⟨z, rfl⟩ : ∃ z, x = V.int z := by
      rw [List.getElem?_map] at hx
      cases e : ns[i]? with
      | none => rw [e] at hx; cases hx
      | some z => rw [e] at hx; exact ⟨z, (Option.some.inj hx).symm⟩
    have hi : i < ns.length := by
      rw [List.getElem?_map] at hx
      cases e : ns[i]? with
      | none => rw [e] at hx; cases hx
      | some z => exact (List.getElem?_eq_some_iff.mp e).1
    refine ⟨rfl, ?_⟩
    simp only [tYes, if_true]
    refine ⟨_, rfl, _, rfl, _, upd_same, by rw [List.length_map, sizeLine_eq]; omega, ms ++ [if z < 0 then -z else z], ?_, by simp; omega⟩
    rw [upd_upd, List.map_append]; rfl
  rintro H2 ⟨ms, rfl, hms⟩
  -- the dict
  intro p hp
  have hDp : Dl ≠ p := ne_of_none upd_same hp
  refine ⟨_, rfl, Dl, _, rfl, Or.inl (Or.inl (by rw [upd_ne hDp]; exact upd_same)), fun c hc => ?_⟩
  have hcp : c ≠ p := fun z => by subst z; rw [upd_same] at hc; cases hc
  have hcD : c ≠ Dl := fun z => by subst z; rw [upd_ne hDp, upd_same] at hc; cases hc
  refine ⟨_, rfl, ?_⟩
  refine ⟨by rw [upd_ne hcp.symm, upd_same], [(.inr "cells", .ref c), (.inr "left", .int 1), (.inr "mixed", .int m), (.inr "turn", .int 0)], rfl, by simp, ?_⟩
  refine k p c ms.reverse 1 m 0 _ ?_ ?_ hcp.symm (fun b o e => ?_) ?_ ?_
  · cases q : H p with
    | none => rfl
    | some o => rw [upd_ne (ne_of_none (H := upd H Dl (.lst (ms.map V.int))) (upd_same) hp).symm] at hp; rw [q] at hp; cases hp
  · cases q : H c with
    | none => rfl
    | some o => rw [upd_ne hcp, upd_ne hcD, q] at hc; cases hc
  · have h1 : b ≠ Dl := ne_of_none e hD
    have h2 : upd H Dl (.lst (ms.map V.int)) b = some o := by rw [upd_ne h1]; exact e
    have h3 : b ≠ p := ne_of_none h2 hp
    have h4 : upd (upd H Dl (.lst (ms.map V.int))) p (.dK []) b = some o := by rw [upd_ne h3]; exact h2
    rw [upd_ne h3, upd_ne (ne_of_none h4 hc)]; exact h4
  · rw [upd_ne hcp, upd_same, List.map_reverse]
  · rw [upd_same]; rfl

theorem ok_l_pick (T : Tx K mg base) : DefOk P w K mg base 1 "_law_pick" ["_law_source", "_law_most"] spPick := by
  refine nameOk T.f_l_pick sc_l_pick bn_l_pick (fun vs H Q E h => ?_) (fun f cdv A outer s H vs Q hr hg h => ?_)
  · obtain ⟨_, _, _, _, _, _, _, l, _⟩ := h
    exact l
  obtain ⟨S, M, ds, Qd, hM, so, rs, _, ⟨m, rfl, hm, hq⟩, k⟩ := h
  have hu := hu_of hr
  cases rs with
  | cons r1 rs =>
  cases rs with
  | cons r2 rs =>
  cases rs
  cases r2
  cases r1 with
  | @src p c eS =>
  subst eS
  obtain ⟨hp, hc, hpc, ns0, l0, m0, t0, h1, h2⟩ := so.go p c rfl
  have fin : ∀ {H' : Hp} (z : Int), (KpS p c H H' ∧ ∃ (ns : List Int) (l m t : Int), H' c = some (.lst (ns.map V.int)) ∧ H' p = some (.dK (srcKvs c l m t))) → 0 ≤ z → (z < m ∨ z = 0) → Q (.int z) H' := fun {H'} z ⟨kp, ns, l, mm, t, e1, e2⟩ g1 g2 =>
    k _ _ H' (hq z g1 g2) kp.keep ⟨fun p' c' e => by cases e; exact ⟨hp, hc, hpc, ns, l, mm, t, e1, e2⟩, kp.tab so.tab h1 h2⟩ (.int z)
  have keepP : ∀ {H' : Hp} {o : HO}, KpS p c H H' → KpS p c H (upd H' p o) := fun kp => kp.p
  have keepC : ∀ {H' : Hp} {o : HO}, KpS p c H H' → KpS p c H (upd H' c o) := fun kp => kp.c
  have dg : ∀ {H' : Hp} {l mm t : Int}, H' p = some (.dK (srcKvs c l mm t)) → DGet H' p (.str "cells") (some (.ref c)) ∧ DGet H' p (.str "left") (some (.int l)) ∧ DGet H' p (.str "mixed") (some (.int mm)) ∧ DGet H' p (.str "turn") (some (.int t)) := fun {H' l mm t} e => by
    obtain ⟨a, b, d, f⟩ := srcKvs_val c l mm t
    exact ⟨a ▸ DGet.k (k := Sum.inr "cells") e, b ▸ DGet.k (k := Sum.inr "left") e, d ▸ DGet.k (k := Sum.inr "mixed") e, f ▸ DGet.k (k := Sum.inr "turn") e⟩
  refine ⟨_, pss_cons (ps_if (pt_cmpR op_lt (pv 1) pe_int (nomark _)) (pss_one (ps_ret pe_int)) pss_nil)
    (pss_cons (ps_set (i := 2) sc_l_pick.nd rfl (Or.inl rfl) (pe_dget hu (pv 0) pe_str (fun _ _ => rfl)))
    (pss_cons (ps_while PassesOwn.never (pw_and (pt_cmpR op_lt (pe_dget hu (pv 0) pe_str (fun _ _ => rfl)) pe_int (nomark _)) (pw_and1 (pt_cmpR op_gt (pe_callB call_len (by rfl) T.b_len PySem.boot_len (pa_cons (pv 2) pa_nil)) pe_int (nomark _)))).pt
      (pss_one (ps_dput hu (pv 0) pe_str (pe_bm0 PySem.F.plainAttrs_list PySem.F.slot_list_pop PySem.F.type_list_pop mt_pop (pv 2)) rfl)))
    (pss_cons (ps_set (i := 3) sc_l_pick.nd rfl (Or.inl rfl) (pe_dget hu (pv 0) pe_str (fun _ _ => rfl)))
    (pss_cons (ps_if (pt_cmpR op_gt (pv 3) pe_int (nomark _))
      (pss_cons (ps_dput hu (pv 0) pe_str (pe_op op_fdiv (pv 3) (pv 1)) rfl) (pss_one (ps_ret (pe_op op_mod (pe_callTy call_int1 rfl T.b_int (by decide +kernel) (pa_cons (pv 3) pa_nil)) (pv 1))))) pss_nil)
    (pss_cons (ps_dput hu (pv 0) pe_str (pe_op op_add (pe_dget hu (pv 0) pe_str (fun _ _ => rfl)) pe_int) rfl)
    (pss_cons (ps_set (i := 4) sc_l_pick.nd rfl (Or.inl rfl) (pe_dget hu (pv 0) pe_str (fun _ _ => rfl)))
    (pss_cons (ps_set (i := 5) sc_l_pick.nd rfl (Or.inl rfl) (pe_op op_mod (pe_callTy call_int1 rfl T.b_int (by decide +kernel) (pa_cons (pe_op op_add (pe_dget hu (pv 0) pe_str (fun _ _ => rfl)) (pe_op op_mul (pv 4) pe_int)) pa_nil)) pe_int))
    (pss_cons (ps_set (i := 5) sc_l_pick.nd rfl (Or.inl rfl) (pe_op op_mod (pe_callTy call_int1 rfl T.b_int (by decide +kernel) (pa_cons (pe_op op_add (pe_op op_mul (pv 5) (pv 5)) (pe_op op_mul (pv 4) pe_int)) pa_nil)) pe_int))
    (pss_one (ps_ret (pe_op op_mod (pe_callTy call_int1 rfl T.b_int (by decide +kernel) (pa_cons (pe_op op_fdiv (pv 5) pe_int) pa_nil)) (pv 1)))))))))))), ?_⟩
  -- if most < 2: return 0
  refine ⟨_, rfl, _, _, rfl, rfl, _, rfl, ?_⟩
  by_cases hm2 : m < 2
  · refine ifT (decide_eq_true hm2) ?_
    exact fin 0 ⟨.refl, ns0, l0, m0, t0, h1, h2⟩ (Int.le_refl 0) (.inr rfl)
  refine ifF (decide_eq_false hm2) ?_
  -- digits = source['cells']
  refine ⟨_, rfl, p, _, rfl, (dg h2).1, ?_⟩
  -- while
  refine ⟨fun n σ' H' => σ' = [some (.ref p), some (.int m), some (.ref c), none, none, none] ∧ KpS p c H H' ∧ ∃ (ns : List Int) (l mm t : Int), n = ns.length ∧ H' c = some (.lst (ns.map V.int)) ∧ H' p = some (.dK (srcKvs c l mm t)), ⟨_, rfl, .refl, ns0, l0, m0, t0, rfl, h1, h2⟩, ?_⟩
  rintro n σ' H' ⟨rfl, kp, ns, l, mm, t, rfl, e1, e2⟩
  refine ⟨_, rfl, p, _, rfl, (dg e2).2.1, _, _, rfl, rfl, _, rfl, ?_⟩
  by_cases hl : l < 2
  · refine ifT (decide_eq_true hl) ?_
    refine ⟨_, rfl, _, _, rfl, Or.inl ⟨_, Or.inl (Or.inl e1), rfl⟩, _, _, rfl, rfl, _, rfl, ?_⟩
    by_cases hn : 0 < ns.length
    · refine ifT (decide_eq_true (by rw [List.length_map]; omega)) ?_
      have hne : ns ≠ [] := fun z => by rw [z] at hn; exact absurd hn (by decide)
      refine ⟨fun σ2 H2 => σ2 = [some (.ref p), some (.int m), some (.ref c), none, none, none] ∧ KpS p c H H2 ∧ ∃ (l : Int), H2 c = some (.lst (ns.dropLast.map V.int)) ∧ H2 p = some (.dK (srcKvs c l mm t)), fun σ2 H2 ⟨q1, q2, l2, q3, q4⟩ => ⟨ns.dropLast.length, by rw [List.length_dropLast]; omega, q1, q2, ns.dropLast, l2, mm, t, rfl, q3, q4⟩, ?_⟩
      have hlast : (ns.map V.int)[(ns.map V.int).length - 1]? = some (.int (ns.getLast hne)) := by
        rw [List.length_map, List.getElem?_map, ← List.getLast?_eq_getElem?, List.getLast?_eq_some_getLast hne]; rfl
      refine ⟨_, rfl, Or.inl ⟨rfl, _, Or.inl (Or.inl e1)⟩, c, _, _, rfl, rfl, e1, hlast, _, rfl, p, _, rfl, DPut.k (k := Sum.inr "left") (by rw [upd_ne hpc]; exact e2) (by rw [sizeLine_eq]; show 4 < 16777216; decide), ?_⟩
      refine ⟨rfl, keepP (keepC kp), ns.getLast hne, ?_, ?_⟩
      · rw [upd_ne hpc.symm, upd_same, List.map_dropLast]
      · rw [upd_same, srcKvs_left]
    · refine ifF (decide_eq_false (by rw [List.length_map]; omega)) ?_
      -- left = source['left']; if left > 1
      refine ⟨_, rfl, p, _, rfl, (dg e2).2.1, ?_⟩
      refine ⟨_, rfl, _, _, rfl, rfl, _, rfl, ?_⟩
      by_cases hl1 : 1 < l
      · refine ifT (decide_eq_true hl1) ?_
        refine ⟨_, rfl, _, rfl, _, _, rfl, rfl, ⟨by omega, by omega⟩, _, rfl, p, _, rfl, DPut.k (k := Sum.inr "left") e2 (by rw [sizeLine_eq]; show 4 < 16777216; decide), ?_⟩
        refine ⟨_, rfl, Or.inl ⟨_, rfl, _, rfl, _, _, rfl, rfl, (by omega : (0 : Int) < m), ?_⟩⟩
        exact fin (l % m) ⟨keepP kp, ns, l / m, mm, t, by rw [upd_ne hpc.symm]; exact e1, by rw [upd_same, srcKvs_left]⟩ (Int.emod_nonneg _ (by omega)) (.inl (Int.emod_lt_of_pos _ (by omega)))
      refine ifF (decide_eq_false hl1) ?_
      refine ⟨_, rfl, p, _, rfl, (dg e2).2.2.2, _, _, rfl, rfl, _, rfl, p, _, rfl, DPut.k (k := Sum.inr "turn") e2 (by rw [sizeLine_eq]; show 4 < 16777216; decide), ?_⟩
      have e3 : upd H' p (.dK (putK (srcKvs c l mm t) (Sum.inr "turn") (.int (t + 1)))) p = some (.dK (srcKvs c l mm (t + 1))) := by rw [upd_same, srcKvs_turn]
      have e4 : upd H' p (.dK (putK (srcKvs c l mm t) (Sum.inr "turn") (.int (t + 1)))) c = some (.lst (ns.map V.int)) := by rw [upd_ne hpc.symm]; exact e1
      refine ⟨_, rfl, p, _, rfl, (dg e3).2.2.2, ?_⟩
      refine ⟨_, rfl, p, _, rfl, (dg e3).2.2.1, _, rfl, _, _, rfl, rfl, Or.inr ⟨by decide, by decide⟩, _, _, rfl, rfl, Or.inl ⟨_, rfl, _, _, rfl, rfl, (by show (0 : Int) < 998244353; decide), ?_⟩⟩
      have b0 : 0 ≤ (mm + (t + 1) * 104729) % 998244353 := Int.emod_nonneg _ (by decide)
      have b1 : (mm + (t + 1) * 104729) % 998244353 < 998244353 := Int.emod_lt_of_pos _ (by decide)
      refine ⟨_, rfl, _, rfl, _, _, rfl, rfl, Or.inl ⟨by omega, by omega⟩, _, rfl, _, _, rfl, rfl, Or.inr ⟨by decide, by decide⟩, _, _, rfl, rfl, Or.inl ⟨_, rfl, _, _, rfl, rfl, (by show (0 : Int) < 2147483647; decide), ?_⟩⟩
      refine ⟨_, rfl, _, _, rfl, rfl, ⟨by decide, by decide⟩, Or.inl ⟨_, rfl, _, rfl, _, _, rfl, rfl, (by omega : (0 : Int) < m), ?_⟩⟩
      exact fin _ ⟨keepP kp, ns, l, mm, t + 1, e4, e3⟩ (Int.emod_nonneg _ (by omega)) (.inl (Int.emod_lt_of_pos _ (by omega)))
  · refine ifF (decide_eq_false hl) ?_
    refine iteF ?_
    · skip
      -- left = source['left']; if left > 1
      refine ⟨_, rfl, p, _, rfl, (dg e2).2.1, ?_⟩
      refine ⟨_, rfl, _, _, rfl, rfl, _, rfl, ?_⟩
      by_cases hl1 : 1 < l
      · refine ifT (decide_eq_true hl1) ?_
        refine ⟨_, rfl, _, rfl, _, _, rfl, rfl, ⟨by omega, by omega⟩, _, rfl, p, _, rfl, DPut.k (k := Sum.inr "left") e2 (by rw [sizeLine_eq]; show 4 < 16777216; decide), ?_⟩
        refine ⟨_, rfl, Or.inl ⟨_, rfl, _, rfl, _, _, rfl, rfl, (by omega : (0 : Int) < m), ?_⟩⟩
        exact fin (l % m) ⟨keepP kp, ns, l / m, mm, t, by rw [upd_ne hpc.symm]; exact e1, by rw [upd_same, srcKvs_left]⟩ (Int.emod_nonneg _ (by omega)) (.inl (Int.emod_lt_of_pos _ (by omega)))
      refine ifF (decide_eq_false hl1) ?_
      refine ⟨_, rfl, p, _, rfl, (dg e2).2.2.2, _, _, rfl, rfl, _, rfl, p, _, rfl, DPut.k (k := Sum.inr "turn") e2 (by rw [sizeLine_eq]; show 4 < 16777216; decide), ?_⟩
      have e3 : upd H' p (.dK (putK (srcKvs c l mm t) (Sum.inr "turn") (.int (t + 1)))) p = some (.dK (srcKvs c l mm (t + 1))) := by rw [upd_same, srcKvs_turn]
      have e4 : upd H' p (.dK (putK (srcKvs c l mm t) (Sum.inr "turn") (.int (t + 1)))) c = some (.lst (ns.map V.int)) := by rw [upd_ne hpc.symm]; exact e1
      refine ⟨_, rfl, p, _, rfl, (dg e3).2.2.2, ?_⟩
      refine ⟨_, rfl, p, _, rfl, (dg e3).2.2.1, _, rfl, _, _, rfl, rfl, Or.inr ⟨by decide, by decide⟩, _, _, rfl, rfl, Or.inl ⟨_, rfl, _, _, rfl, rfl, (by show (0 : Int) < 998244353; decide), ?_⟩⟩
      have b0 : 0 ≤ (mm + (t + 1) * 104729) % 998244353 := Int.emod_nonneg _ (by decide)
      have b1 : (mm + (t + 1) * 104729) % 998244353 < 998244353 := Int.emod_lt_of_pos _ (by decide)
      refine ⟨_, rfl, _, rfl, _, _, rfl, rfl, Or.inl ⟨by omega, by omega⟩, _, rfl, _, _, rfl, rfl, Or.inr ⟨by decide, by decide⟩, _, _, rfl, rfl, Or.inl ⟨_, rfl, _, _, rfl, rfl, (by show (0 : Int) < 2147483647; decide), ?_⟩⟩
      refine ⟨_, rfl, _, _, rfl, rfl, ⟨by decide, by decide⟩, Or.inl ⟨_, rfl, _, rfl, _, _, rfl, rfl, (by omega : (0 : Int) < m), ?_⟩⟩
      exact fin _ ⟨keepP kp, ns, l, mm, t + 1, e4, e3⟩ (Int.emod_nonneg _ (by omega)) (.inl (Int.emod_lt_of_pos _ (by omega)))

theorem ok_l_common (T : Tx K mg base) : DefOk P w K mg base 1 "_law_common" ["_law_a", "_law_b"] spCommon := by
  refine defOk T.f_l_common sc_l_common bn_l_common (fun f cdv A outer s H hr hg => (pss_dc (psd_par (i := 0) (j := 1) rfl sc_l_common.nd rfl rfl (by decide) rfl rfl (pda_cons (pd_blt call_abs lc_abs rfl T.b_abs (by decide +kernel) (pda_cons (pd_var 0) pda_nil)) (pda_cons (pd_blt call_abs lc_abs rfl T.b_abs (by decide +kernel) (pda_cons (pd_var 1) pda_nil)) pda_nil)) rfl)
      (pss_dc (psd_while PassesOwn.never (pdt_ne hr.units (pd_var 1) pd_int) (pss_d1 (psd_par (i := 0) (j := 1) rfl sc_l_common.nd rfl rfl (by decide) rfl rfl (pda_cons (pd_var 1) (pda_cons (pd_mod (pd_var 0) (pd_var 1)) pda_nil)) rfl)))
      (pss_d1 (psd_ret (pd_var 0)))))) ?_
  rintro ds Qd _ ⟨a, b, rfl, h⟩
  simp only [dSeq, dNext, dRet, dIf, dDrop, dAsg, dgName, dgNil, dgCons, dgTup, dPar, dPar3, dOwn, dApp, dFrz, dVar, dC, dOp, dI, dI0, dB0, dNeg, dTup, dLst, dBoolT, dAndT, dOrT, dNotT, dAndV, dOrV, dNotV, dIfE, dCall, dCall0, dB, dIsi, dRepr, dAbs, dInt1, dInt2, dAll, dstart, dwipe, clean, Sl.clean, List.map_cons, List.map_nil, List.length_cons, List.length_nil, List.replicate, List.cons_append, List.nil_append, List.set_cons_zero, List.set_cons_succ, List.getElem?_cons_zero, List.getElem?_cons_succ, Nat.reduceAdd, Nat.reduceSub, Nat.add_zero, Nat.zero_add, Nat.add_sub_cancel, Nat.sub_self, atI_0, atI_1, atI_2, atI_3, dLtI, dLeI, dGtI, dGeI, dSub, dFd, dMod, dPow, eAdd_i, eAdd_l, eMul_i, eMul_l, eIx_l, eIx_t, eLen_l, eLen_t, eInt_i, eInt_b, eEq_i, eNe_i, eEq_e]
  refine ⟨fun k σ => ∃ x y : Nat, σ = [.val (.int x), .val (.int y)] ∧ Nat.gcd x y = Int.gcd a b ∧ k = y, ⟨b.natAbs, a.natAbs, b.natAbs, ?_, rfl, rfl⟩, ?_⟩
  · have e : ∀ z : Int, (if z < 0 then -z else z) = (z.natAbs : Int) := fun z => by split <;> omega
    rw [e, e]
  · rintro k σ' ⟨x, y, rfl, hg, hk⟩
    subst hk
    simp only [dNe, dMod, dSeq, dNext, dRet, dIf, dDrop, dAsg, dgName, dgNil, dgCons, dgTup, dPar, dPar3, dOwn, dApp, dFrz, dVar, dC, dOp, dI, dI0, dB0, dNeg, dTup, dLst, dBoolT, dAndT, dOrT, dNotT, dAndV, dOrV, dNotV, dIfE, dCall, dCall0, dB, dIsi, dRepr, dAbs, dInt1, dInt2, dAll, dstart, dwipe, clean, Sl.clean, List.map_cons, List.map_nil, List.length_cons, List.length_nil, List.replicate, List.cons_append, List.nil_append, List.set_cons_zero, List.set_cons_succ, List.getElem?_cons_zero, List.getElem?_cons_succ, Nat.reduceAdd, Nat.reduceSub, Nat.add_zero, Nat.zero_add, Nat.add_sub_cancel, Nat.sub_self, atI_0, atI_1, atI_2, atI_3, dLtI, dLeI, dGtI, dGeI, dSub, dFd, dMod, dPow, eAdd_i, eAdd_l, eMul_i, eMul_l, eIx_l, eIx_t, eLen_l, eLen_t, eInt_i, eInt_b, eEq_i, eNe_i, eEq_e]
    by_cases hy : (k : Int) = 0
    · have hy0 : k = 0 := by omega
      subst hy0
      refine ifF (by simp) ?_
      rw [Nat.gcd_zero_right] at hg
      rw [hg]; exact h
    · refine ifT (by simpa using hy) ⟨fun z => hy z, x % k, ?_, k, x % k, ?_, ?_, rfl⟩
      · exact Nat.mod_lt _ (by omega)
      · rw [Int.fmod_eq_emod_of_nonneg _ (by omega)]; rfl
      · rw [← hg, Nat.gcd_comm, ← Nat.gcd_rec, Nat.gcd_comm]
theorem ok_l_place (T : Tx K mg base) : DefOk P w K mg base 2 "_law_place" ["_law_x", "_law_y", "_law_d"] spPlc := by
  refine defOk T.f_l_place sc_l_place bn_l_place (fun f cdv A outer s H hr hg => (pss_dc (psd_set (i := 3) sc_l_place.nd rfl (Or.inl rfl) (pd_mulA (pd_fn (ok_l_common T) hr (by decide) hg (pda_cons (pd_fn (ok_l_common T) hr (by decide) hg (pda_cons (pd_var 0) (pda_cons (pd_var 1) pda_nil))) (pda_cons (pd_var 2) pda_nil))) (pd_ifexp (pdt_gt (pd_var 2) pd_int) pd_int (pd_sub pd_int pd_int))))
      (pss_d1 (psd_ret (pd_tup (pda_cons (pd_fd (pd_var 0) (pd_var 3)) (pda_cons (pd_fd (pd_var 1) (pd_var 3)) (pda_cons (pd_fd (pd_var 2) (pd_var 3)) pda_nil)))))))) ?_
  rintro ds Qd _ ⟨x, y, d, a, rfl, hd, hx, hy, hd2, ha, h⟩
  simp only [dSeq, dNext, dRet, dIf, dDrop, dAsg, dgName, dgNil, dgCons, dgTup, dPar, dPar3, dOwn, dApp, dFrz, dVar, dC, dOp, dI, dI0, dB0, dNeg, dTup, dLst, dBoolT, dAndT, dOrT, dNotT, dAndV, dOrV, dNotV, dIfE, dCall, dCall0, dB, dIsi, dRepr, dAbs, dInt1, dInt2, dAll, dstart, dwipe, clean, Sl.clean, List.map_cons, List.map_nil, List.length_cons, List.length_nil, List.replicate, List.cons_append, List.nil_append, List.set_cons_zero, List.set_cons_succ, List.getElem?_cons_zero, List.getElem?_cons_succ, Nat.reduceAdd, Nat.reduceSub, Nat.add_zero, Nat.zero_add, Nat.add_sub_cancel, Nat.sub_self, atI_0, atI_1, atI_2, atI_3, dLtI, dLeI, dGtI, dGeI, dSub, dFd, dMod, dPow, eAdd_i, eAdd_l, eMul_i, eMul_l, eIx_l, eIx_t, eLen_l, eLen_t, eInt_i, eInt_b, eEq_i, eNe_i, eEq_e]
  refine ⟨x, y, rfl, _, d, rfl, ?_⟩
  have g0 := gs3_ne (x := x) (y := y) hd
  have gb : Bd a (gs3 x y d) := gs3_bd hd hd2
  have gc : Bd a (Int.gcd (Int.gcd x y : Int) d : Int) := ⟨by have := gb.h; rw [gs3_abs] at this; exact this⟩
  by_cases hn : 0 < d
  · have e : gs3 x y d = (Int.gcd (Int.gcd x y : Int) d : Int) * 1 := by unfold gs3; rw [if_neg (by omega), Int.mul_one]; rfl
    refine ifT (decide_eq_true hn) ⟨cmb gc bd_1 (by omega), ?_⟩
    rw [← e]
    exact ⟨cfd g0 gb ha, cfd g0 gb ha, cfd g0 gb ha, h⟩
  · have e : gs3 x y d = (Int.gcd (Int.gcd x y : Int) d : Int) * (0 - 1) := by unfold gs3; rw [if_pos (by omega)]; show -((Int.gcd (Int.gcd x y : Int) d : Nat) : Int) = _; omega
    refine ifF (decide_eq_false hn) ⟨cmb gc bd_sub (by omega), ?_⟩
    rw [← e]
    exact ⟨cfd g0 gb ha, cfd g0 gb ha, cfd g0 gb ha, h⟩
theorem ok_l_first (T : Tx K mg base) : DefOk P w K mg base 1 "_law_first" ["_law_p", "_law_q"] (spPl2 (fun _ _ _ _ _ _ => True) fun a b c d e g => .bool (lessP a b c d e g)) := by
  refine defOk T.f_l_first sc_l_first bn_l_first (fun f cdv A outer s H hr hg => (pss_dc (psd_if (pdt_ne hr.units (pd_mulA (pd_ix (pd_var 0) pd_int) (pd_ix (pd_var 1) pd_int)) (pd_mulA (pd_ix (pd_var 1) pd_int) (pd_ix (pd_var 0) pd_int))) (pss_d1 (psd_ret (pd_lt (pd_mulA (pd_ix (pd_var 0) pd_int) (pd_ix (pd_var 1) pd_int)) (pd_mulA (pd_ix (pd_var 1) pd_int) (pd_ix (pd_var 0) pd_int))))) pss_d0)
      (pss_d1 (psd_ret (pd_lt (pd_mulA (pd_ix (pd_var 0) pd_int) (pd_ix (pd_var 1) pd_int)) (pd_mulA (pd_ix (pd_var 1) pd_int) (pd_ix (pd_var 0) pd_int))))))) ?_
  rintro ds Qd _ ⟨a, b, c, d, e, g, k, rfl, h0, h1, h2, h3, h4, h5, h6, hk, h⟩
  simp only [dSeq, dNext, dRet, dIf, dDrop, dAsg, dgName, dgNil, dgCons, dgTup, dPar, dPar3, dOwn, dApp, dFrz, dVar, dC, dOp, dI, dI0, dB0, dNeg, dTup, dLst, dBoolT, dAndT, dOrT, dNotT, dAndV, dOrV, dNotV, dCall, dCall0, dB, dIsi, dRepr, dAbs, dInt1, dInt2, dAll, dstart, dwipe, clean, Sl.clean, List.map_cons, List.map_nil, List.length_cons, List.length_nil, List.replicate, List.cons_append, List.nil_append, List.set_cons_zero, List.set_cons_succ, List.getElem?_cons_zero, List.getElem?_cons_succ, Nat.reduceAdd, Nat.reduceSub, Nat.add_zero, Nat.zero_add, Nat.add_sub_cancel, Nat.sub_self, atI_0, atI_1, atI_2, atI_3, dLtI, dLeI, dGtI, dGeI, dSub, dFd, dMod, dPow, eAdd_i, eAdd_l, eMul_i, eMul_l, eIx_l, eIx_t, eLen_l, eLen_t, eInt_i, eInt_b, eEq_i, eNe_i, eEq_e, dRaise, dRetX, dTry, dGcd3, dIsB, dChain, dZip, dItT, dItL, dSl, dNoPart, dPart]
  refine ⟨cmb h1 h6 (by omega), cmb h4 h3 (by omega), ?_⟩
  by_cases z : a * g = d * c
  · refine ifF (by simp [z]) ⟨cmb h2 h6 (by omega), cmb h5 h3 (by omega), ?_⟩
    dsimp only at h
    have e0 : lessP a b c d e g = decide (b * g < e * c) := by unfold lessP; simp [z]
    rw [e0] at h; exact h
  · refine ifT (by simp [z]) ⟨cmb h1 h6 (by omega), cmb h4 h3 (by omega), ?_⟩
    dsimp only at h
    have e0 : lessP a b c d e g = decide (a * g < d * c) := by unfold lessP; simp [z]
    rw [e0] at h; exact h
theorem ok_l_places (T : Tx K mg base) : DefOk P w K mg base 2 "_law_places" ["_law_places_here"] spPlaces := by
  refine defOk T.f_l_places sc_l_places bn_l_places (fun f cdv A outer s H hr hg => (pss_dc (psd_set (i := 1) sc_l_places.nd rfl (Or.inl rfl) (pd_lst pda_nil))
      (pss_dc (psd_for PassesOwn.never rfl (pdi_list (pd_var 0)) (pdg_name (i := 2) sc_l_places.nd rfl (Or.inr rfl)) (pss_d1 (psd_if (pdt_notin hr.units2 (pd_var 2) (pd_var 1)) (pss_dc (psd_setLci (i := 3) (own := [("_law_q", 4)]) rfl sc_l_places.nd rfl rfl (sw_true rfl rfl rfl (by decide +kernel)) (pdi_list (pd_var 1)) (blk (N := N_l_places) (sc := defScope s_l_places) (by decide +kernel)) (fun _ _ _ _ _ => pg_name sc_l_places.nd rfl (Or.inl rfl)) (lg_name 4) (sets_name (by decide)) (fun _ _ _ _ _ => (pdt_val (pd_fn (ok_l_first T) hr (by decide) hg (pda_cons (pd_var 4) (pda_cons (pd_var 2) pda_nil))))) (fun _ _ _ _ _ => (pd_var 4)))
      (pss_d1 (psd_set (i := 1) sc_l_places.nd rfl (Or.inl rfl) (pd_addA (pd_addA (pd_var 3) (pd_lst (pda_cons (pd_var 2) pda_nil))) (pd_sl (pd_var 1) (pdo_some (pd_blt call_len lc_len rfl T.b_len (by decide +kernel) (pda_cons (pd_var 3) pda_nil))) pdo_none))))) pss_d0)))
      (pss_d1 (psd_ret (pd_var 1)))))) ?_
  rintro ds Qd _ ⟨ps, ⟨rfl, ⟨k, hk, hb⟩, hl⟩, h⟩
  show dSeq _ _ _ [.val (.list (ps.map pD)), .emp, .emp, .emp, .emp]
  refine dSeq_g (fun σ => σ = [.val (.list (ps.map pD)), .val (.list []), .emp, .emp, .emp]) ?_ ?_
  · intro N hN
    simp only [dSeq, dNext, dRet, dIf, dDrop, dAsg, dgName, dgNil, dgCons, dgTup, dPar, dPar3, dOwn, dApp, dFrz, dVar, dC, dOp, dI, dI0, dB0, dNeg, dTup, dLst, dBoolT, dAndT, dOrT, dNotT, dAndV, dOrV, dNotV, dCall, dCall0, dB, dIsi, dRepr, dAbs, dInt1, dInt2, dAll, dstart, dwipe, clean, Sl.clean, List.map_cons, List.map_nil, List.length_cons, List.length_nil, List.replicate, List.cons_append, List.nil_append, List.set_cons_zero, List.set_cons_succ, List.getElem?_cons_zero, List.getElem?_cons_succ, Nat.reduceAdd, Nat.reduceSub, Nat.add_zero, Nat.zero_add, Nat.add_sub_cancel, Nat.sub_self, atI_0, atI_1, atI_2, atI_3, dLtI, dLeI, dGtI, dGeI, dSub, dFd, dMod, dPow, eAdd_i, eAdd_l, eMul_i, eMul_l, eIx_l, eIx_t, eLen_l, eLen_t, eInt_i, eInt_b, eEq_i, eNe_i, eEq_e, dRaise, dRetX, dTry, dGcd3, dIsB, dChain, dZip, dItT, dItL, dSl, dNoPart, dPart, dChain, dgUnl, dParO, notN_no, notN_t, isN_no, dRev]
    exact hN _ rfl
  rintro σ2 rfl
  refine dFor_m ps pD (fun pre σ => ∃ x2 x3 : Sl, σ = [.val (.list (ps.map pD)), .val (.list ((ordT Pt.lt pre).map pD)), x2, x3, .emp]) ?_ ⟨_, _, rfl⟩ ?_ ?_
  · intro R hR
    simp only [dSeq, dNext, dRet, dIf, dDrop, dAsg, dgName, dgNil, dgCons, dgTup, dPar, dPar3, dOwn, dApp, dFrz, dVar, dC, dOp, dI, dI0, dB0, dNeg, dTup, dLst, dBoolT, dAndT, dOrT, dNotT, dAndV, dOrV, dNotV, dCall, dCall0, dB, dIsi, dRepr, dAbs, dInt1, dInt2, dAll, dstart, dwipe, clean, Sl.clean, List.map_cons, List.map_nil, List.length_cons, List.length_nil, List.replicate, List.cons_append, List.nil_append, List.set_cons_zero, List.set_cons_succ, List.getElem?_cons_zero, List.getElem?_cons_succ, Nat.reduceAdd, Nat.reduceSub, Nat.add_zero, Nat.zero_add, Nat.add_sub_cancel, Nat.sub_self, atI_0, atI_1, atI_2, atI_3, dLtI, dLeI, dGtI, dGeI, dSub, dFd, dMod, dPow, eAdd_i, eAdd_l, eMul_i, eMul_l, eIx_l, eIx_t, eLen_l, eLen_t, eInt_i, eInt_b, eEq_i, eNe_i, eEq_e, dRaise, dRetX, dTry, dGcd3, dIsB, dChain, dZip, dItT, dItL, dSl, dNoPart, dPart, dChain, dgUnl, dParO, notN_no, notN_t, isN_no, dRev, dItL]
    exact hR
  · rintro pre u post e σ' ⟨x2, x3, rfl⟩
    have hu : PB k u := hb u (by rw [e]; simp)
    have hpre : ∀ x ∈ ordT Pt.lt pre, PB k x := fun x hx => hb x (by rw [e]; simp [(pord_mem pre x).mp hx])
    have hpl : pre.length < ps.length := by rw [e]; simp
    have hol := pord_len pre
    rw [show ordT Pt.lt (pre ++ [u]) = insT Pt.lt (ordT Pt.lt pre) u by unfold ordT; rw [List.foldl_append]; rfl]
    generalize ordT Pt.lt pre = xs at hpre hol ⊢
    simp only [dSeq, dNext, dRet, dIf, dDrop, dAsg, dgName, dgNil, dgCons, dgTup, dPar, dPar3, dOwn, dApp, dFrz, dVar, dC, dOp, dI, dI0, dB0, dNeg, dTup, dLst, dBoolT, dAndT, dOrT, dNotT, dAndV, dOrV, dNotV, dCall, dCall0, dB, dIsi, dRepr, dAbs, dInt1, dInt2, dAll, dstart, dwipe, clean, Sl.clean, List.map_cons, List.map_nil, List.length_cons, List.length_nil, List.replicate, List.cons_append, List.nil_append, List.set_cons_zero, List.set_cons_succ, List.getElem?_cons_zero, List.getElem?_cons_succ, Nat.reduceAdd, Nat.reduceSub, Nat.add_zero, Nat.zero_add, Nat.add_sub_cancel, Nat.sub_self, atI_0, atI_1, atI_2, atI_3, dLtI, dLeI, dGtI, dGeI, dSub, dFd, dMod, dPow, eAdd_i, eAdd_l, eMul_i, eMul_l, eIx_l, eIx_t, eLen_l, eLen_t, eInt_i, eInt_b, eEq_i, eNe_i, eEq_e, dRaise, dRetX, dTry, dGcd3, dIsB, dChain, dZip, dItT, dItL, dSl, dNoPart, dPart, dChain, dgUnl, dParO, notN_no, notN_t, isN_no, dRev]
    refine dIn_pD (fun hin => ?_) (fun hin => ?_)
    · rw [show insT Pt.lt xs u = xs from if_pos hin]
      exact iteF ⟨_, _, rfl⟩
    · refine iteT ?_
      refine dLcc_mt xs pD (fun x => Pt.lt x u) pD (fun R hR => ?_) (by omega) ?_ ?_
      · simp only [dSeq, dNext, dRet, dIf, dDrop, dAsg, dgName, dgNil, dgCons, dgTup, dPar, dPar3, dOwn, dApp, dFrz, dVar, dC, dOp, dI, dI0, dB0, dNeg, dTup, dLst, dBoolT, dAndT, dOrT, dNotT, dAndV, dOrV, dNotV, dCall, dCall0, dB, dIsi, dRepr, dAbs, dInt1, dInt2, dAll, dstart, dwipe, clean, Sl.clean, List.map_cons, List.map_nil, List.length_cons, List.length_nil, List.replicate, List.cons_append, List.nil_append, List.set_cons_zero, List.set_cons_succ, List.getElem?_cons_zero, List.getElem?_cons_succ, Nat.reduceAdd, Nat.reduceSub, Nat.add_zero, Nat.zero_add, Nat.add_sub_cancel, Nat.sub_self, atI_0, atI_1, atI_2, atI_3, dLtI, dLeI, dGtI, dGeI, dSub, dFd, dMod, dPow, eAdd_i, eAdd_l, eMul_i, eMul_l, eIx_l, eIx_t, eLen_l, eLen_t, eInt_i, eInt_b, eEq_i, eNe_i, eEq_e, dRaise, dRetX, dTry, dGcd3, dIsB, dChain, dZip, dItT, dItL, dSl, dNoPart, dPart, dChain, dgUnl, dParO, notN_no, notN_t, isN_no, dRev, dItL]
        exact hR
      · intro x hx Q1 Q0 q1 q0
        simp only [dSeq, dNext, dRet, dIf, dDrop, dAsg, dgName, dgNil, dgCons, dgTup, dPar, dPar3, dOwn, dApp, dFrz, dVar, dC, dOp, dI, dI0, dB0, dNeg, dTup, dLst, dBoolT, dAndT, dOrT, dNotT, dAndV, dOrV, dNotV, dCall, dCall0, dB, dIsi, dRepr, dAbs, dInt1, dInt2, dAll, dstart, dwipe, clean, Sl.clean, List.map_cons, List.map_nil, List.length_cons, List.length_nil, List.replicate, List.cons_append, List.nil_append, List.set_cons_zero, List.set_cons_succ, List.getElem?_cons_zero, List.getElem?_cons_succ, Nat.reduceAdd, Nat.reduceSub, Nat.add_zero, Nat.zero_add, Nat.add_sub_cancel, Nat.sub_self, atI_0, atI_1, atI_2, atI_3, dLtI, dLeI, dGtI, dGeI, dSub, dFd, dMod, dPow, eAdd_i, eAdd_l, eMul_i, eMul_l, eIx_l, eIx_t, eLen_l, eLen_t, eInt_i, eInt_b, eEq_i, eNe_i, eEq_e, dRaise, dRetX, dTry, dGcd3, dIsB, dChain, dZip, dItT, dItL, dSl, dNoPart, dPart, dChain, dgUnl, dParO, notN_no, notN_t, isN_no, dRev]
        refine first_c (hpre x hx) hu hk ?_
        cases z : Pt.lt x u with
        | true => exact iteT (q1 z)
        | false => exact iteF (q0 z)
      · have lz : (xs.filter fun x => Pt.lt x u).length ≤ xs.length := List.length_filter_le _ _
        rw [show insT Pt.lt xs u = xs.filter (fun x => Pt.lt x u) ++ [u] ++ xs.drop (xs.filter fun x => Pt.lt x u).length from if_neg hin]
        generalize hz : xs.filter (fun x => Pt.lt x u) = zs at lz ⊢
        simp only [dSeq, dNext, dRet, dIf, dDrop, dAsg, dgName, dgNil, dgCons, dgTup, dPar, dPar3, dOwn, dApp, dFrz, dVar, dC, dOp, dI, dI0, dB0, dNeg, dTup, dLst, dBoolT, dAndT, dOrT, dNotT, dAndV, dOrV, dNotV, dCall, dCall0, dB, dIsi, dRepr, dAbs, dInt1, dInt2, dAll, dstart, dwipe, clean, Sl.clean, List.map_cons, List.map_nil, List.length_cons, List.length_nil, List.replicate, List.cons_append, List.nil_append, List.set_cons_zero, List.set_cons_succ, List.getElem?_cons_zero, List.getElem?_cons_succ, Nat.reduceAdd, Nat.reduceSub, Nat.add_zero, Nat.zero_add, Nat.add_sub_cancel, Nat.sub_self, atI_0, atI_1, atI_2, atI_3, dLtI, dLeI, dGtI, dGeI, dSub, dFd, dMod, dPow, eAdd_i, eAdd_l, eMul_i, eMul_l, eIx_l, eIx_t, eLen_l, eLen_t, eInt_i, eInt_b, eEq_i, eNe_i, eEq_e, dRaise, dRetX, dTry, dGcd3, dIsB, dChain, dZip, dItT, dItL, dSl, dNoPart, dPart, dChain, dgUnl, dParO, notN_no, notN_t, isN_no, dRev, dSlA]
        have cl := cutD_len (xs.map pD) (some (((zs.map pD).length : Nat) : Int)) none
        rw [List.length_map] at cl
        have eq : zs.map pD ++ [pD u] ++ cutD (xs.map pD) (some (((zs.map pD).length : Nat) : Int)) none = (zs ++ [u] ++ xs.drop zs.length).map pD := by
          rw [List.length_map, cutD_from (by rw [List.length_map]; omega), List.map_append, List.map_append, List.map_drop]
          rfl
        refine ⟨by rw [List.length_map]; omega, by simp only [List.length_append, List.length_map, List.length_cons, List.length_nil] at cl ⊢; omega, ?_⟩
        rw [← eq]
        exact ⟨_, _, rfl⟩
  rintro σ' ⟨x2, x3, rfl⟩
  simp only [dSeq, dNext, dRet, dIf, dDrop, dAsg, dgName, dgNil, dgCons, dgTup, dPar, dPar3, dOwn, dApp, dFrz, dVar, dC, dOp, dI, dI0, dB0, dNeg, dTup, dLst, dBoolT, dAndT, dOrT, dNotT, dAndV, dOrV, dNotV, dCall, dCall0, dB, dIsi, dRepr, dAbs, dInt1, dInt2, dAll, dstart, dwipe, clean, Sl.clean, List.map_cons, List.map_nil, List.length_cons, List.length_nil, List.replicate, List.cons_append, List.nil_append, List.set_cons_zero, List.set_cons_succ, List.getElem?_cons_zero, List.getElem?_cons_succ, Nat.reduceAdd, Nat.reduceSub, Nat.add_zero, Nat.zero_add, Nat.add_sub_cancel, Nat.sub_self, atI_0, atI_1, atI_2, atI_3, dLtI, dLeI, dGtI, dGeI, dSub, dFd, dMod, dPow, eAdd_i, eAdd_l, eMul_i, eMul_l, eIx_l, eIx_t, eLen_l, eLen_t, eInt_i, eInt_b, eEq_i, eNe_i, eEq_e, dRaise, dRetX, dTry, dGcd3, dIsB, dChain, dZip, dItT, dItL, dSl, dNoPart, dPart, dChain, dgUnl, dParO, notN_no, notN_t, isN_no, dRev]
  exact h
theorem ok_l_step (T : Tx K mg base) : DefOk P w K mg base 1 "_law_step" ["_law_p", "_law_q"] (spPl2 (fun _ _ _ _ _ _ => True) fun a b c d e g => .tuple [.int (stepX a c d g), .int (stepX b c e g)]) := by
  refine defOk T.f_l_step sc_l_step bn_l_step (fun f cdv A outer s H hr hg => (pss_d1 (psd_ret (pd_tup (pda_cons (pd_sub (pd_mulA (pd_ix (pd_var 1) pd_int) (pd_ix (pd_var 0) pd_int)) (pd_mulA (pd_ix (pd_var 0) pd_int) (pd_ix (pd_var 1) pd_int))) (pda_cons (pd_sub (pd_mulA (pd_ix (pd_var 1) pd_int) (pd_ix (pd_var 0) pd_int)) (pd_mulA (pd_ix (pd_var 0) pd_int) (pd_ix (pd_var 1) pd_int))) pda_nil)))))) ?_
  rintro ds Qd _ ⟨a, b, c, d, e, g, k, rfl, _, h1, h2, h3, h4, h5, h6, hk, h⟩
  simp only [dSeq, dNext, dRet, dIf, dDrop, dAsg, dgName, dgNil, dgCons, dgTup, dPar, dPar3, dOwn, dApp, dFrz, dVar, dC, dOp, dI, dI0, dB0, dNeg, dTup, dLst, dBoolT, dAndT, dOrT, dNotT, dAndV, dOrV, dNotV, dIfE, dCall, dCall0, dB, dIsi, dRepr, dAbs, dInt1, dInt2, dAll, dstart, dwipe, clean, Sl.clean, List.map_cons, List.map_nil, List.length_cons, List.length_nil, List.replicate, List.cons_append, List.nil_append, List.set_cons_zero, List.set_cons_succ, List.getElem?_cons_zero, List.getElem?_cons_succ, Nat.reduceAdd, Nat.reduceSub, Nat.add_zero, Nat.zero_add, Nat.add_sub_cancel, Nat.sub_self, atI_0, atI_1, atI_2, atI_3, dLtI, dLeI, dGtI, dGeI, dSub, dFd, dMod, dPow, eAdd_i, eAdd_l, eMul_i, eMul_l, eIx_l, eIx_t, eLen_l, eLen_t, eInt_i, eInt_b, eEq_i, eNe_i, eEq_e]
  exact ⟨cmb h4 h3 (by omega), cmb h1 h6 (by omega), cmb h5 h3 (by omega), cmb h2 h6 (by omega), h⟩
theorem ok_l_turn (T : Tx K mg base) : DefOk P w K mg base 2 "_law_turn" ["_law_p", "_law_q", "_law_r"] spTurnP := by
  refine defOk T.f_l_turn sc_l_turn bn_l_turn (fun f cdv A outer s H hr hg => (pss_dc (psd_par (i := 3) (j := 4) rfl sc_l_turn.nd rfl rfl (by decide) rfl rfl (pda_cons (pd_fn (ok_l_step T) hr (by decide) hg (pda_cons (pd_var 0) (pda_cons (pd_var 1) pda_nil))) (pda_cons (pd_fn (ok_l_step T) hr (by decide) hg (pda_cons (pd_var 0) (pda_cons (pd_var 2) pda_nil))) pda_nil)) rfl)
      (pss_dc (psd_set (i := 5) sc_l_turn.nd rfl (Or.inl rfl) (pd_sub (pd_mulA (pd_ix (pd_var 3) pd_int) (pd_ix (pd_var 4) pd_int)) (pd_mulA (pd_ix (pd_var 3) pd_int) (pd_ix (pd_var 4) pd_int))))
      (pss_d1 (psd_ret (pd_sub (pd_ty call_int1 lc_int rfl T.b_int (by decide +kernel) (pda_cons (pd_gt (pd_var 5) pd_int) pda_nil)) (pd_ty call_int1 lc_int rfl T.b_int (by decide +kernel) (pda_cons (pd_lt (pd_var 5) pd_int) pda_nil)))))))) ?_
  rintro ds Qd _ ⟨p, q, r, k, rfl, hp, hq, hr, hk, h⟩
  have sb : ∀ a b : Pt, PB k a → PB k b → Bd (2 * k + 1) (Pt.sx a b) ∧ Bd (2 * k + 1) (Pt.sy a b) := fun a b ha hb => ⟨(bd_sub2 (@bd_mul _ _ _ _ hb.1 ha.2.2) (@bd_mul _ _ _ _ ha.1 hb.2.2)).mono (by omega), (bd_sub2 (@bd_mul _ _ _ _ hb.2.1 ha.2.2) (@bd_mul _ _ _ _ ha.2.1 hb.2.2)).mono (by omega)⟩
  obtain ⟨b1, b2⟩ := sb p q hp hq
  obtain ⟨b3, b4⟩ := sb p r hp hr
  simp only [dSeq, dNext, dRet, dIf, dDrop, dAsg, dgName, dgNil, dgCons, dgTup, dPar, dPar3, dOwn, dApp, dFrz, dVar, dC, dOp, dI, dI0, dB0, dNeg, dTup, dLst, dBoolT, dAndT, dOrT, dNotT, dAndV, dOrV, dNotV, dCall, dCall0, dB, dIsi, dRepr, dAbs, dInt1, dInt2, dAll, dstart, dwipe, clean, Sl.clean, List.map_cons, List.map_nil, List.length_cons, List.length_nil, List.replicate, List.cons_append, List.nil_append, List.set_cons_zero, List.set_cons_succ, List.getElem?_cons_zero, List.getElem?_cons_succ, Nat.reduceAdd, Nat.reduceSub, Nat.add_zero, Nat.zero_add, Nat.add_sub_cancel, Nat.sub_self, atI_0, atI_1, atI_2, atI_3, dLtI, dLeI, dGtI, dGeI, dSub, dFd, dMod, dPow, eAdd_i, eAdd_l, eMul_i, eMul_l, eIx_l, eIx_t, eLen_l, eLen_t, eInt_i, eInt_b, eEq_i, eNe_i, eEq_e, dRaise, dRetX, dTry, dGcd3, dIsB, dChain, dZip, dItT, dItL, dSl, dNoPart, dPart, dChain, dgUnl, dParO, notN_no, notN_t, isN_no, dRev]
  refine step_c hp hq hk (step_c hp hr hk ?_)
  simp only [dSeq, dNext, dRet, dIf, dDrop, dAsg, dgName, dgNil, dgCons, dgTup, dPar, dPar3, dOwn, dApp, dFrz, dVar, dC, dOp, dI, dI0, dB0, dNeg, dTup, dLst, dBoolT, dAndT, dOrT, dNotT, dAndV, dOrV, dNotV, dCall, dCall0, dB, dIsi, dRepr, dAbs, dInt1, dInt2, dAll, dstart, dwipe, clean, Sl.clean, List.map_cons, List.map_nil, List.length_cons, List.length_nil, List.replicate, List.cons_append, List.nil_append, List.set_cons_zero, List.set_cons_succ, List.getElem?_cons_zero, List.getElem?_cons_succ, Nat.reduceAdd, Nat.reduceSub, Nat.add_zero, Nat.zero_add, Nat.add_sub_cancel, Nat.sub_self, atI_0, atI_1, atI_2, atI_3, dLtI, dLeI, dGtI, dGeI, dSub, dFd, dMod, dPow, eAdd_i, eAdd_l, eMul_i, eMul_l, eIx_l, eIx_t, eLen_l, eLen_t, eInt_i, eInt_b, eEq_i, eNe_i, eEq_e, dRaise, dRetX, dTry, dGcd3, dIsB, dChain, dZip, dItT, dItL, dSl, dNoPart, dPart, dChain, dgUnl, dParO, notN_no, notN_t, isN_no, dRev]
  refine ⟨cmb b1 b4 (by omega), cmb b2 b3 (by omega), ?_⟩
  rw [sign_eq, sign_turn]
  exact h
theorem ok_l_chain (T : Tx K mg base) : DefOk P w K mg base 3 "_law_chain" ["_law_places_here"] spChain := by
  refine defOk T.f_l_chain sc_l_chain bn_l_chain (fun f cdv A outer s H hr hg => (pss_dc (psd_set (i := 1) sc_l_chain.nd rfl (Or.inl rfl) (pd_lst pda_nil))
      (pss_dc (psd_for PassesOwn.never rfl (pdi_list (pd_var 0)) (pdg_name (i := 2) sc_l_chain.nd rfl (Or.inl rfl)) (pss_dc (psd_while PassesOwn.never (pdt_w (pdw_and (pdt_gt (pd_blt call_len lc_len rfl T.b_len (by decide +kernel) (pda_cons (pd_var 1) pda_nil)) pd_int) (pdw_and1 (pdt_lt (pd_fn (ok_l_turn T) hr (by decide) hg (pda_cons (pd_ix (pd_var 1) (pd_neg pd_int)) (pda_cons (pd_ix (pd_var 1) (pd_neg pd_int)) (pda_cons (pd_var 2) pda_nil)))) pd_int)))) (pss_d1 (psd_set (i := 1) sc_l_chain.nd rfl (Or.inl rfl) (pd_sl (pd_var 1) pdo_none (pdo_some (pd_neg pd_int))))))
      (pss_d1 (psd_set (i := 1) sc_l_chain.nd rfl (Or.inl rfl) (pd_addA (pd_var 1) (pd_lst (pda_cons (pd_var 2) pda_nil)))))))
      (pss_d1 (psd_ret (pd_sl (pd_var 1) pdo_none (pdo_some (pd_neg pd_int)))))))) ?_
  rintro ds Qd _ ⟨ps, ⟨rfl, ⟨k, hk, hb⟩, hl⟩, h⟩
  show dSeq _ _ _ [.val (.list (ps.map pD)), .emp, .emp]
  refine dSeq_g (fun σ => σ = [.val (.list (ps.map pD)), .val (.list []), .emp]) ?_ ?_
  · intro N hN
    simp only [dSeq, dNext, dRet, dIf, dDrop, dAsg, dgName, dgNil, dgCons, dgTup, dPar, dPar3, dOwn, dApp, dFrz, dVar, dC, dOp, dI, dI0, dB0, dNeg, dTup, dLst, dBoolT, dAndT, dOrT, dNotT, dAndV, dOrV, dNotV, dCall, dCall0, dB, dIsi, dRepr, dAbs, dInt1, dInt2, dAll, dstart, dwipe, clean, Sl.clean, List.map_cons, List.map_nil, List.length_cons, List.length_nil, List.replicate, List.cons_append, List.nil_append, List.set_cons_zero, List.set_cons_succ, List.getElem?_cons_zero, List.getElem?_cons_succ, Nat.reduceAdd, Nat.reduceSub, Nat.add_zero, Nat.zero_add, Nat.add_sub_cancel, Nat.sub_self, atI_0, atI_1, atI_2, atI_3, dLtI, dLeI, dGtI, dGeI, dSub, dFd, dMod, dPow, eAdd_i, eAdd_l, eMul_i, eMul_l, eIx_l, eIx_t, eLen_l, eLen_t, eInt_i, eInt_b, eEq_i, eNe_i, eEq_e, dRaise, dRetX, dTry, dGcd3, dIsB, dChain, dZip, dItT, dItL, dSl, dNoPart, dPart, dChain, dgUnl, dParO, notN_no, notN_t, isN_no, dRev]
    exact hN _ rfl
  rintro σ2 rfl
  refine dFor_m ps pD (fun pre σ => ∃ x2 : Sl, (∀ x ∈ chainR Pt.o pre, x ∈ pre) ∧ σ = [.val (.list (ps.map pD)), .val (.list ((chainR Pt.o pre).reverse.map pD)), x2]) ?_ ⟨_, by simp [chainR], rfl⟩ ?_ ?_
  · intro R hR
    simp only [dSeq, dNext, dRet, dIf, dDrop, dAsg, dgName, dgNil, dgCons, dgTup, dPar, dPar3, dOwn, dApp, dFrz, dVar, dC, dOp, dI, dI0, dB0, dNeg, dTup, dLst, dBoolT, dAndT, dOrT, dNotT, dAndV, dOrV, dNotV, dCall, dCall0, dB, dIsi, dRepr, dAbs, dInt1, dInt2, dAll, dstart, dwipe, clean, Sl.clean, List.map_cons, List.map_nil, List.length_cons, List.length_nil, List.replicate, List.cons_append, List.nil_append, List.set_cons_zero, List.set_cons_succ, List.getElem?_cons_zero, List.getElem?_cons_succ, Nat.reduceAdd, Nat.reduceSub, Nat.add_zero, Nat.zero_add, Nat.add_sub_cancel, Nat.sub_self, atI_0, atI_1, atI_2, atI_3, dLtI, dLeI, dGtI, dGeI, dSub, dFd, dMod, dPow, eAdd_i, eAdd_l, eMul_i, eMul_l, eIx_l, eIx_t, eLen_l, eLen_t, eInt_i, eInt_b, eEq_i, eNe_i, eEq_e, dRaise, dRetX, dTry, dGcd3, dIsB, dChain, dZip, dItT, dItL, dSl, dNoPart, dPart, dChain, dgUnl, dParO, notN_no, notN_t, isN_no, dRev, dItL]
    exact hR
  · rintro pre u post e σ' ⟨x2, hm, rfl⟩
    have hu : PB k u := hb u (by rw [e]; simp)
    have hpl : pre.length < ps.length := by rw [e]; simp
    have hcl := chain_len Pt.o pre
    have hst : ∀ x ∈ chainR Pt.o pre, x ∈ pre ∧ PB k x := fun x hx => ⟨hm x hx, hb x (by rw [e]; simp [hm x hx])⟩
    rw [chain_step]
    have fin : (∀ x ∈ push Pt.o u (chainR Pt.o pre), x ∈ pre ++ [u]) := fun x hx => by
      rcases push_mem _ _ hx with rfl | y
      · simp
      · exact List.mem_append.mpr (.inl (hm x y))
    generalize chainR Pt.o pre = st0 at hst hcl fin ⊢
    show dSeq _ _ _ _
    simp only [dgName, List.set_cons_zero, List.set_cons_succ]
    refine dSeq_g (fun σ => ∃ st : List Pt, push Pt.o u st0 = u :: st ∧ st.length ≤ st0.length ∧ σ = [.val (.list (ps.map pD)), .val (.list (st.reverse.map pD)), .val (pD u)]) ?_ ?_
    · intro N hN
      refine ⟨fun n σ => ∃ st : List Pt, n = st.length ∧ push Pt.o u st0 = push Pt.o u st ∧ (∀ x ∈ st, PB k x) ∧ st.length ≤ st0.length ∧ σ = [.val (.list (ps.map pD)), .val (.list (st.reverse.map pD)), .val (pD u)], ⟨_, st0, rfl, rfl, fun x hx => (hst x hx).2, Nat.le_refl _, rfl⟩, ?_⟩
      rintro n σ' ⟨st, rfl, hp, hs, hsl, rfl⟩
      match st, hp, hs, hsl with
      | [], hp, hs, hsl =>
        simp only [dSeq, dNext, dRet, dIf, dDrop, dAsg, dgName, dgNil, dgCons, dgTup, dPar, dPar3, dOwn, dApp, dFrz, dVar, dC, dOp, dI, dI0, dB0, dNeg, dTup, dLst, dBoolT, dAndT, dOrT, dNotT, dAndV, dOrV, dNotV, dCall, dCall0, dB, dIsi, dRepr, dAbs, dInt1, dInt2, dAll, dstart, dwipe, clean, Sl.clean, List.map_cons, List.map_nil, List.length_cons, List.length_nil, List.replicate, List.cons_append, List.nil_append, List.set_cons_zero, List.set_cons_succ, List.getElem?_cons_zero, List.getElem?_cons_succ, Nat.reduceAdd, Nat.reduceSub, Nat.add_zero, Nat.zero_add, Nat.add_sub_cancel, Nat.sub_self, atI_0, atI_1, atI_2, atI_3, dLtI, dLeI, dGtI, dGeI, dSub, dFd, dMod, dPow, eAdd_i, eAdd_l, eMul_i, eMul_l, eIx_l, eIx_t, eLen_l, eLen_t, eInt_i, eInt_b, eEq_i, eNe_i, eEq_e, dRaise, dRetX, dTry, dGcd3, dIsB, dChain, dZip, dItT, dItL, dSl, dNoPart, dPart, dChain, dgUnl, dParO, notN_no, notN_t, isN_no, dRev]
        refine iteF (hN _ ⟨[], by rw [hp]; rfl, hsl, rfl⟩)
      | [b], hp, hs, hsl =>
        simp only [dSeq, dNext, dRet, dIf, dDrop, dAsg, dgName, dgNil, dgCons, dgTup, dPar, dPar3, dOwn, dApp, dFrz, dVar, dC, dOp, dI, dI0, dB0, dNeg, dTup, dLst, dBoolT, dAndT, dOrT, dNotT, dAndV, dOrV, dNotV, dCall, dCall0, dB, dIsi, dRepr, dAbs, dInt1, dInt2, dAll, dstart, dwipe, clean, Sl.clean, List.map_cons, List.map_nil, List.length_cons, List.length_nil, List.replicate, List.cons_append, List.nil_append, List.set_cons_zero, List.set_cons_succ, List.getElem?_cons_zero, List.getElem?_cons_succ, Nat.reduceAdd, Nat.reduceSub, Nat.add_zero, Nat.zero_add, Nat.add_sub_cancel, Nat.sub_self, atI_0, atI_1, atI_2, atI_3, dLtI, dLeI, dGtI, dGeI, dSub, dFd, dMod, dPow, eAdd_i, eAdd_l, eMul_i, eMul_l, eIx_l, eIx_t, eLen_l, eLen_t, eInt_i, eInt_b, eEq_i, eNe_i, eEq_e, dRaise, dRetX, dTry, dGcd3, dIsB, dChain, dZip, dItT, dItL, dSl, dNoPart, dPart, dChain, dgUnl, dParO, notN_no, notN_t, isN_no, dRev]
        refine ifF (by simp) (hN _ ⟨[b], by rw [hp]; rfl, hsl, rfl⟩)
      | b :: a :: r, hp, hs, hsl =>
        have er : (b :: a :: r).reverse.map pD = r.reverse.map pD ++ [pD a, pD b] := by simp
        have er2 : (b :: a :: r).reverse.map pD = (r.reverse.map pD ++ [pD a]) ++ [pD b] := by simp
        have a1 : L2.atI ((b :: a :: r).reverse.map pD) (-2) = some (pD a) := by rw [er]; exact atI_m2 _ _ _
        have a2 : L2.atI ((b :: a :: r).reverse.map pD) (-1) = some (pD b) := by rw [er2]; exact atI_m1 _ _
        have ln : 1 < (((b :: a :: r).reverse.map pD).length : Int) := by simp; omega
        have ct : cutD ((b :: a :: r).reverse.map pD) none (some (-1)) = (a :: r).reverse.map pD := by rw [cut_init, List.reverse_cons, List.dropLast_concat]
        generalize hL : (b :: a :: r).reverse.map pD = L at a1 a2 ln ct ⊢
        simp only [dSeq, dNext, dRet, dIf, dDrop, dAsg, dgName, dgNil, dgCons, dgTup, dPar, dPar3, dOwn, dApp, dFrz, dVar, dC, dOp, dI, dI0, dB0, dNeg, dTup, dLst, dBoolT, dAndT, dOrT, dNotT, dAndV, dOrV, dNotV, dCall, dCall0, dB, dIsi, dRepr, dAbs, dInt1, dInt2, dAll, dstart, dwipe, clean, Sl.clean, List.map_cons, List.map_nil, List.length_cons, List.length_nil, List.replicate, List.cons_append, List.nil_append, List.set_cons_zero, List.set_cons_succ, List.getElem?_cons_zero, List.getElem?_cons_succ, Nat.reduceAdd, Nat.reduceSub, Nat.add_zero, Nat.zero_add, Nat.add_sub_cancel, Nat.sub_self, atI_0, atI_1, atI_2, atI_3, dLtI, dLeI, dGtI, dGeI, dSub, dFd, dMod, dPow, eAdd_i, eAdd_l, eMul_i, eMul_l, eIx_l, eIx_t, eLen_l, eLen_t, eInt_i, eInt_b, eEq_i, eNe_i, eEq_e, dRaise, dRetX, dTry, dGcd3, dIsB, dChain, dZip, dItT, dItL, dSl, dNoPart, dPart, dChain, dgUnl, dParO, notN_no, notN_t, isN_no, dRev]
        refine ifT (decide_eq_true (by omega)) ?_
        rw [a1, a2]
        dsimp only
        refine turn_c (hs a (by simp)) (hs b (by simp)) hu hk ?_
        dsimp only
        have eqp : push Pt.o u (b :: a :: r) = if Pt.o a b u < 1 then push Pt.o u (a :: r) else u :: b :: a :: r := rfl
        by_cases z : Pt.o a b u < 1
        · have sz : Int.sign (Pt.o a b u) < 1 := by
            rcases Int.lt_trichotomy (Pt.o a b u) 0 with y | y | y
            · rw [Int.sign_eq_neg_one_of_neg y]; decide
            · rw [y]; decide
            · omega
          refine ifT (decide_eq_true sz) ?_
          simp only [dSeq, dNext, dRet, dIf, dDrop, dAsg, dgName, dgNil, dgCons, dgTup, dPar, dPar3, dOwn, dApp, dFrz, dVar, dC, dOp, dI, dI0, dB0, dNeg, dTup, dLst, dBoolT, dAndT, dOrT, dNotT, dAndV, dOrV, dNotV, dCall, dCall0, dB, dIsi, dRepr, dAbs, dInt1, dInt2, dAll, dstart, dwipe, clean, Sl.clean, List.map_cons, List.map_nil, List.length_cons, List.length_nil, List.replicate, List.cons_append, List.nil_append, List.set_cons_zero, List.set_cons_succ, List.getElem?_cons_zero, List.getElem?_cons_succ, Nat.reduceAdd, Nat.reduceSub, Nat.add_zero, Nat.zero_add, Nat.add_sub_cancel, Nat.sub_self, atI_0, atI_1, atI_2, atI_3, dLtI, dLeI, dGtI, dGeI, dSub, dFd, dMod, dPow, eAdd_i, eAdd_l, eMul_i, eMul_l, eIx_l, eIx_t, eLen_l, eLen_t, eInt_i, eInt_b, eEq_i, eNe_i, eEq_e, dRaise, dRetX, dTry, dGcd3, dIsB, dChain, dZip, dItT, dItL, dSl, dNoPart, dPart, dChain, dgUnl, dParO, notN_no, notN_t, isN_no, dRev, dSlA]
          rw [ct]
          exact ⟨_, by simp, a :: r, rfl, by rw [hp, eqp, if_pos z], fun x hx => hs x (by simp [hx]), by simp at hsl ⊢; omega, rfl⟩
        · have sz : Int.sign (Pt.o a b u) = 1 := Int.sign_eq_one_of_pos (by omega)
          refine ifF (decide_eq_false (by rw [sz]; decide)) ?_
          exact hN _ ⟨b :: a :: r, by rw [hp, eqp, if_neg z], hsl, by rw [hL]⟩
    rintro σ2 ⟨st, hp, hsl, rfl⟩
    simp only [dSeq, dNext, dRet, dIf, dDrop, dAsg, dgName, dgNil, dgCons, dgTup, dPar, dPar3, dOwn, dApp, dFrz, dVar, dC, dOp, dI, dI0, dB0, dNeg, dTup, dLst, dBoolT, dAndT, dOrT, dNotT, dAndV, dOrV, dNotV, dCall, dCall0, dB, dIsi, dRepr, dAbs, dInt1, dInt2, dAll, dstart, dwipe, clean, Sl.clean, List.map_cons, List.map_nil, List.length_cons, List.length_nil, List.replicate, List.cons_append, List.nil_append, List.set_cons_zero, List.set_cons_succ, List.getElem?_cons_zero, List.getElem?_cons_succ, Nat.reduceAdd, Nat.reduceSub, Nat.add_zero, Nat.zero_add, Nat.add_sub_cancel, Nat.sub_self, atI_0, atI_1, atI_2, atI_3, dLtI, dLeI, dGtI, dGeI, dSub, dFd, dMod, dPow, eAdd_i, eAdd_l, eMul_i, eMul_l, eIx_l, eIx_t, eLen_l, eLen_t, eInt_i, eInt_b, eEq_i, eNe_i, eEq_e, dRaise, dRetX, dTry, dGcd3, dIsB, dChain, dZip, dItT, dItL, dSl, dNoPart, dPart, dChain, dgUnl, dParO, notN_no, notN_t, isN_no, dRev]
    have eq : st.reverse.map pD ++ [pD u] = (push Pt.o u st0).reverse.map pD := by rw [hp]; simp
    refine ⟨by simp; omega, ?_⟩
    rw [eq]
    exact ⟨_, fin, rfl⟩
  rintro σ' ⟨x2, hm, rfl⟩
  simp only [dSeq, dNext, dRet, dIf, dDrop, dAsg, dgName, dgNil, dgCons, dgTup, dPar, dPar3, dOwn, dApp, dFrz, dVar, dC, dOp, dI, dI0, dB0, dNeg, dTup, dLst, dBoolT, dAndT, dOrT, dNotT, dAndV, dOrV, dNotV, dCall, dCall0, dB, dIsi, dRepr, dAbs, dInt1, dInt2, dAll, dstart, dwipe, clean, Sl.clean, List.map_cons, List.map_nil, List.length_cons, List.length_nil, List.replicate, List.cons_append, List.nil_append, List.set_cons_zero, List.set_cons_succ, List.getElem?_cons_zero, List.getElem?_cons_succ, Nat.reduceAdd, Nat.reduceSub, Nat.add_zero, Nat.zero_add, Nat.add_sub_cancel, Nat.sub_self, atI_0, atI_1, atI_2, atI_3, dLtI, dLeI, dGtI, dGeI, dSub, dFd, dMod, dPow, eAdd_i, eAdd_l, eMul_i, eMul_l, eIx_l, eIx_t, eLen_l, eLen_t, eInt_i, eInt_b, eEq_i, eNe_i, eEq_e, dRaise, dRetX, dTry, dGcd3, dIsB, dChain, dZip, dItT, dItL, dSl, dNoPart, dPart, dChain, dgUnl, dParO, notN_no, notN_t, isN_no, dRev, dSlA]
  rw [cut_init]
  exact h
theorem ok_l_hull (T : Tx K mg base) : DefOk P w K mg base 4 "_law_hull" ["_law_places_here"] spHull := by
  refine defOk T.f_l_hull sc_l_hull bn_l_hull (fun f cdv A outer s H hr hg => (pss_dc (psd_set (i := 1) sc_l_hull.nd rfl (Or.inl rfl) (pd_fn (ok_l_places T) hr (by decide) hg (pda_cons (pd_var 0) pda_nil)))
      (pss_dc (psd_if (pdt_lt (pd_blt call_len lc_len rfl T.b_len (by decide +kernel) (pda_cons (pd_var 1) pda_nil)) pd_int) (pss_d1 (psd_ret (pd_ty call_tuple_of lc_tupOf rfl T.b_tuple (by decide +kernel) (pda_cons (pd_var 1) pda_nil)))) pss_d0)
      (pss_d1 (psd_ret (pd_ty call_tuple_of lc_tupOf rfl T.b_tuple (by decide +kernel) (pda_cons (pd_addA (pd_fn (ok_l_chain T) hr (by decide) hg (pda_cons (pd_var 1) pda_nil)) (pd_fn (ok_l_chain T) hr (by decide) hg (pda_cons (pd_rev (pd_var 1)) pda_nil))) pda_nil))))))) ?_
  rintro ds Qd _ ⟨ps, ⟨rfl, ⟨k, hk, hb⟩, hl⟩, h⟩
  have ml := pord_len ps
  have mm := pord_mem ps
  show dSeq _ _ _ [.val (.list (ps.map pD)), .emp]
  refine dSeq_g (fun σ => σ = [.val (.list (ps.map pD)), .val (.list ((ordT Pt.lt ps).map pD))]) ?_ ?_
  · intro N hN
    simp only [dSeq, dNext, dRet, dIf, dDrop, dAsg, dgName, dgNil, dgCons, dgTup, dPar, dPar3, dOwn, dApp, dFrz, dVar, dC, dOp, dI, dI0, dB0, dNeg, dTup, dLst, dBoolT, dAndT, dOrT, dNotT, dAndV, dOrV, dNotV, dCall, dCall0, dB, dIsi, dRepr, dAbs, dInt1, dInt2, dAll, dstart, dwipe, clean, Sl.clean, List.map_cons, List.map_nil, List.length_cons, List.length_nil, List.replicate, List.cons_append, List.nil_append, List.set_cons_zero, List.set_cons_succ, List.getElem?_cons_zero, List.getElem?_cons_succ, Nat.reduceAdd, Nat.reduceSub, Nat.add_zero, Nat.zero_add, Nat.add_sub_cancel, Nat.sub_self, atI_0, atI_1, atI_2, atI_3, dLtI, dLeI, dGtI, dGeI, dSub, dFd, dMod, dPow, eAdd_i, eAdd_l, eMul_i, eMul_l, eIx_l, eIx_t, eLen_l, eLen_t, eInt_i, eInt_b, eEq_i, eNe_i, eEq_e, dRaise, dRetX, dTry, dGcd3, dIsB, dChain, dZip, dItT, dItL, dSl, dNoPart, dPart, dChain, dgUnl, dParO, notN_no, notN_t, isN_no, dRev]
    exact ⟨ps, ⟨rfl, ⟨k, hk, hb⟩, hl⟩, hN _ rfl⟩
  rintro σ2 rfl
  unfold hullP at h
  have hb' : ∀ x ∈ ordT Pt.lt ps, PB k x := fun x hx => hb x ((mm x).mp hx)
  generalize ordT Pt.lt ps = qs at ml hb' h ⊢
  simp only [dSeq, dNext, dRet, dIf, dDrop, dAsg, dgName, dgNil, dgCons, dgTup, dPar, dPar3, dOwn, dApp, dFrz, dVar, dC, dOp, dI, dI0, dB0, dNeg, dTup, dLst, dBoolT, dAndT, dOrT, dNotT, dAndV, dOrV, dNotV, dCall, dCall0, dB, dIsi, dRepr, dAbs, dInt1, dInt2, dAll, dstart, dwipe, clean, Sl.clean, List.map_cons, List.map_nil, List.length_cons, List.length_nil, List.replicate, List.cons_append, List.nil_append, List.set_cons_zero, List.set_cons_succ, List.getElem?_cons_zero, List.getElem?_cons_succ, Nat.reduceAdd, Nat.reduceSub, Nat.add_zero, Nat.zero_add, Nat.add_sub_cancel, Nat.sub_self, atI_0, atI_1, atI_2, atI_3, dLtI, dLeI, dGtI, dGeI, dSub, dFd, dMod, dPow, eAdd_i, eAdd_l, eMul_i, eMul_l, eIx_l, eIx_t, eLen_l, eLen_t, eInt_i, eInt_b, eEq_i, eNe_i, eEq_e, dRaise, dRetX, dTry, dGcd3, dIsB, dChain, dZip, dItT, dItL, dSl, dNoPart, dPart, dChain, dgUnl, dParO, notN_no, notN_t, isN_no, dRev]
  by_cases z : qs.length < 2
  · rw [if_pos z] at h
    exact ifT (by simp; omega) h
  · rw [if_neg z] at h
    have c1 := chain_len Pt.o qs
    have c2 := chain_len Pt.o qs.reverse
    rw [List.length_reverse] at c2
    refine ifF (by simp; omega) ⟨qs, ⟨rfl, ⟨k, hk, hb'⟩, by omega⟩, qs.reverse, ⟨by rw [List.map_reverse], ⟨k, hk, fun x hx => hb' x (List.mem_reverse.mp hx)⟩, by rw [List.length_reverse]; omega⟩, ?_⟩
    refine ⟨?_, ?_⟩
    · simp only [chainL, List.length_map, List.length_dropLast, List.length_reverse]; omega
    unfold hullL at h
    rw [List.map_append] at h
    exact h
theorem ok_l_has (T : Tx K mg base) : DefOk P w K mg base 3 "_law_has" ["_law_plate", "_law_p"] spHas := by
  refine defOk T.f_l_has sc_l_has bn_l_has (fun f cdv A outer s H hr hg => (pss_dc (psd_if (pdt_eq hr.units (pd_blt call_len lc_len rfl T.b_len (by decide +kernel) (pda_cons (pd_var 0) pda_nil)) pd_int) (pss_d1 (psd_ret (pd_eq hr.units (pd_ix (pd_var 0) pd_int) (pd_var 1)))) pss_d0)
      (pss_dc (psd_if (pdt_eq hr.units (pd_blt call_len lc_len rfl T.b_len (by decide +kernel) (pda_cons (pd_var 0) pda_nil)) pd_int) (pss_dc (psd_par (i := 2) (j := 3) rfl sc_l_has.nd rfl rfl (by decide) rfl rfl (pda_cons (pd_fn (ok_l_step T) hr (by decide) hg (pda_cons (pd_var 1) (pda_cons (pd_ix (pd_var 0) pd_int) pda_nil))) (pda_cons (pd_fn (ok_l_step T) hr (by decide) hg (pda_cons (pd_var 1) (pda_cons (pd_ix (pd_var 0) pd_int) pda_nil))) pda_nil)) rfl)
      (pss_dc (psd_set (i := 4) sc_l_has.nd rfl (Or.inl rfl) (pd_le (pd_addA (pd_mulA (pd_ix (pd_var 2) pd_int) (pd_ix (pd_var 3) pd_int)) (pd_mulA (pd_ix (pd_var 2) pd_int) (pd_ix (pd_var 3) pd_int))) pd_int))
      (pss_d1 (psd_ret (pd_and (pd_eq hr.units (pd_fn (ok_l_turn T) hr (by decide) hg (pda_cons (pd_ix (pd_var 0) pd_int) (pda_cons (pd_ix (pd_var 0) pd_int) (pda_cons (pd_var 1) pda_nil)))) pd_int) (pd_one (pd_var 4))))))) pss_d0)
      (pss_d1 (psd_ret (pd_not (pd_blt (cr_any rfl) lc_any rfl T.b_any (by decide +kernel) (pda_cons (pd_new (pdn_lc (own := [("_law_k", 5)]) rfl sc_l_has.nd (pdi_rng1 rfl T.b_range (pda_cons (pd_blt call_len lc_len rfl T.b_len (by decide +kernel) (pda_cons (pd_var 0) pda_nil)) pda_nil)) (blk (N := N_l_has) (sc := defScope s_l_has) (by decide +kernel)) (fun _ _ _ _ _ => pg_name sc_l_has.nd rfl (Or.inl rfl)) (lg_name 5) (sets_name (by decide)) (fun _ _ _ _ _ => (pd_lt (pd_fn (ok_l_turn T) hr (by decide) hg (pda_cons (pd_ix (pd_var 0) (pd_sub (pd_var 5) pd_int)) (pda_cons (pd_ix (pd_var 0) (pd_var 5)) (pda_cons (pd_var 1) pda_nil)))) pd_int)))) pda_nil)))))))) ?_
  rintro ds Qd _ ⟨H, p, k, rfl, hH, hb, hp, hk, hl, h⟩
  show dSeq _ _ _ [.val (.tuple (H.map pD)), .val (pD p), .emp, .emp, .emp, .emp]
  have ne := hH.ne
  match H, ne, hH, hb, hl, h with
  | [a], ne, hH, hb, hl, h =>
    simp only [dSeq, dNext, dRet, dIf, dDrop, dAsg, dgName, dgNil, dgCons, dgTup, dPar, dPar3, dOwn, dApp, dFrz, dVar, dC, dOp, dI, dI0, dB0, dNeg, dTup, dLst, dBoolT, dAndT, dOrT, dNotT, dAndV, dOrV, dNotV, dCall, dCall0, dB, dIsi, dRepr, dAbs, dInt1, dInt2, dAll, dstart, dwipe, clean, Sl.clean, List.map_cons, List.map_nil, List.length_cons, List.length_nil, List.replicate, List.cons_append, List.nil_append, List.set_cons_zero, List.set_cons_succ, List.getElem?_cons_zero, List.getElem?_cons_succ, Nat.reduceAdd, Nat.reduceSub, Nat.add_zero, Nat.zero_add, Nat.add_sub_cancel, Nat.sub_self, atI_0, atI_1, atI_2, atI_3, dLtI, dLeI, dGtI, dGeI, dSub, dFd, dMod, dPow, eAdd_i, eAdd_l, eMul_i, eMul_l, eIx_l, eIx_t, eLen_l, eLen_t, eInt_i, eInt_b, eEq_i, eNe_i, eEq_e, dRaise, dRetX, dTry, dGcd3, dIsB, dChain, dZip, dItT, dItL, dSl, dNoPart, dPart, dChain, dgUnl, dParO, notN_no, notN_t, isN_no, dRev]
    refine iteT ?_
    exact dEq_pD h
  | [a, b], ne, hH, hb, hl, h =>
    have hba := hb a (by simp)
    have hbb := hb b (by simp)
    have ab := hH.two
    have sb : ∀ a b : Pt, PB k a → PB k b → Bd (2 * k + 1) (Pt.sx a b) ∧ Bd (2 * k + 1) (Pt.sy a b) := fun a b ha hb => ⟨(bd_sub2 (@bd_mul _ _ _ _ hb.1 ha.2.2) (@bd_mul _ _ _ _ ha.1 hb.2.2)).mono (by omega), (bd_sub2 (@bd_mul _ _ _ _ hb.2.1 ha.2.2) (@bd_mul _ _ _ _ ha.2.1 hb.2.2)).mono (by omega)⟩
    obtain ⟨b1, b2⟩ := sb p a hp hba
    obtain ⟨b3, b4⟩ := sb p b hp hbb
    rw [hasB_2] at h
    refine dIf_no ?_ ?_
    · intro R hR
      simp only [dSeq, dNext, dRet, dIf, dDrop, dAsg, dgName, dgNil, dgCons, dgTup, dPar, dPar3, dOwn, dApp, dFrz, dVar, dC, dOp, dI, dI0, dB0, dNeg, dTup, dLst, dBoolT, dAndT, dOrT, dNotT, dAndV, dOrV, dNotV, dCall, dCall0, dB, dIsi, dRepr, dAbs, dInt1, dInt2, dAll, dstart, dwipe, clean, Sl.clean, List.map_cons, List.map_nil, List.length_cons, List.length_nil, List.replicate, List.cons_append, List.nil_append, List.set_cons_zero, List.set_cons_succ, List.getElem?_cons_zero, List.getElem?_cons_succ, Nat.reduceAdd, Nat.reduceSub, Nat.add_zero, Nat.zero_add, Nat.add_sub_cancel, Nat.sub_self, atI_0, atI_1, atI_2, atI_3, dLtI, dLeI, dGtI, dGeI, dSub, dFd, dMod, dPow, eAdd_i, eAdd_l, eMul_i, eMul_l, eIx_l, eIx_t, eLen_l, eLen_t, eInt_i, eInt_b, eEq_i, eNe_i, eEq_e, dRaise, dRetX, dTry, dGcd3, dIsB, dChain, dZip, dItT, dItL, dSl, dNoPart, dPart, dChain, dgUnl, dParO, notN_no, notN_t, isN_no, dRev]
      rw [decide_eq_false (by simp)]
      exact hR
    simp only [dSeq, dNext, dRet, dIf, dDrop, dAsg, dgName, dgNil, dgCons, dgTup, dPar, dPar3, dOwn, dApp, dFrz, dVar, dC, dOp, dI, dI0, dB0, dNeg, dTup, dLst, dBoolT, dAndT, dOrT, dNotT, dAndV, dOrV, dNotV, dCall, dCall0, dB, dIsi, dRepr, dAbs, dInt1, dInt2, dAll, dstart, dwipe, clean, Sl.clean, List.map_cons, List.map_nil, List.length_cons, List.length_nil, List.replicate, List.cons_append, List.nil_append, List.set_cons_zero, List.set_cons_succ, List.getElem?_cons_zero, List.getElem?_cons_succ, Nat.reduceAdd, Nat.reduceSub, Nat.add_zero, Nat.zero_add, Nat.add_sub_cancel, Nat.sub_self, atI_0, atI_1, atI_2, atI_3, dLtI, dLeI, dGtI, dGeI, dSub, dFd, dMod, dPow, eAdd_i, eAdd_l, eMul_i, eMul_l, eIx_l, eIx_t, eLen_l, eLen_t, eInt_i, eInt_b, eEq_i, eNe_i, eEq_e, dRaise, dRetX, dTry, dGcd3, dIsB, dChain, dZip, dItT, dItL, dSl, dNoPart, dPart, dChain, dgUnl, dParO, notN_no, notN_t, isN_no, dRev]
    refine iteT ?_
    refine step_c hp hba hk (step_c hp hbb hk ?_)
    simp only [dSeq, dNext, dRet, dIf, dDrop, dAsg, dgName, dgNil, dgCons, dgTup, dPar, dPar3, dOwn, dApp, dFrz, dVar, dC, dOp, dI, dI0, dB0, dNeg, dTup, dLst, dBoolT, dAndT, dOrT, dNotT, dAndV, dOrV, dNotV, dCall, dCall0, dB, dIsi, dRepr, dAbs, dInt1, dInt2, dAll, dstart, dwipe, clean, Sl.clean, List.map_cons, List.map_nil, List.length_cons, List.length_nil, List.replicate, List.cons_append, List.nil_append, List.set_cons_zero, List.set_cons_succ, List.getElem?_cons_zero, List.getElem?_cons_succ, Nat.reduceAdd, Nat.reduceSub, Nat.add_zero, Nat.zero_add, Nat.add_sub_cancel, Nat.sub_self, atI_0, atI_1, atI_2, atI_3, dLtI, dLeI, dGtI, dGeI, dSub, dFd, dMod, dPow, eAdd_i, eAdd_l, eMul_i, eMul_l, eIx_l, eIx_t, eLen_l, eLen_t, eInt_i, eInt_b, eEq_i, eNe_i, eEq_e, dRaise, dRetX, dTry, dGcd3, dIsB, dChain, dZip, dItT, dItL, dSl, dNoPart, dPart, dChain, dgUnl, dParO, notN_no, notN_t, isN_no, dRev]
    refine ⟨cmb b1 b3 (by omega), cmb b2 b4 (by omega), ?_⟩
    refine turn_c hba hbb hp hk ?_
    try dsimp only
    rw [eEq_i]
    by_cases z : Pt.o a b p = 0
    · rw [decide_eq_true z, Bool.true_and, ← seg_has ab z] at h
      refine ifT (by rw [z]; decide) ?_
      exact h
    · rw [decide_eq_false z, Bool.false_and] at h
      refine ifF (decide_eq_false fun y => z (Int.sign_eq_zero_iff_zero.mp y)) ?_
      exact h
  | a :: b :: c :: r, ne, hH, hb, hl, h =>
    refine dIf_no ?_ ?_
    · intro R hR
      simp only [dSeq, dNext, dRet, dIf, dDrop, dAsg, dgName, dgNil, dgCons, dgTup, dPar, dPar3, dOwn, dApp, dFrz, dVar, dC, dOp, dI, dI0, dB0, dNeg, dTup, dLst, dBoolT, dAndT, dOrT, dNotT, dAndV, dOrV, dNotV, dCall, dCall0, dB, dIsi, dRepr, dAbs, dInt1, dInt2, dAll, dstart, dwipe, clean, Sl.clean, List.map_cons, List.map_nil, List.length_cons, List.length_nil, List.replicate, List.cons_append, List.nil_append, List.set_cons_zero, List.set_cons_succ, List.getElem?_cons_zero, List.getElem?_cons_succ, Nat.reduceAdd, Nat.reduceSub, Nat.add_zero, Nat.zero_add, Nat.add_sub_cancel, Nat.sub_self, atI_0, atI_1, atI_2, atI_3, dLtI, dLeI, dGtI, dGeI, dSub, dFd, dMod, dPow, eAdd_i, eAdd_l, eMul_i, eMul_l, eIx_l, eIx_t, eLen_l, eLen_t, eInt_i, eInt_b, eEq_i, eNe_i, eEq_e, dRaise, dRetX, dTry, dGcd3, dIsB, dChain, dZip, dItT, dItL, dSl, dNoPart, dPart, dChain, dgUnl, dParO, notN_no, notN_t, isN_no, dRev]
      rw [decide_eq_false (by simp; omega)]
      exact hR
    refine dIf_no ?_ ?_
    · intro R hR
      simp only [dSeq, dNext, dRet, dIf, dDrop, dAsg, dgName, dgNil, dgCons, dgTup, dPar, dPar3, dOwn, dApp, dFrz, dVar, dC, dOp, dI, dI0, dB0, dNeg, dTup, dLst, dBoolT, dAndT, dOrT, dNotT, dAndV, dOrV, dNotV, dCall, dCall0, dB, dIsi, dRepr, dAbs, dInt1, dInt2, dAll, dstart, dwipe, clean, Sl.clean, List.map_cons, List.map_nil, List.length_cons, List.length_nil, List.replicate, List.cons_append, List.nil_append, List.set_cons_zero, List.set_cons_succ, List.getElem?_cons_zero, List.getElem?_cons_succ, Nat.reduceAdd, Nat.reduceSub, Nat.add_zero, Nat.zero_add, Nat.add_sub_cancel, Nat.sub_self, atI_0, atI_1, atI_2, atI_3, dLtI, dLeI, dGtI, dGeI, dSub, dFd, dMod, dPow, eAdd_i, eAdd_l, eMul_i, eMul_l, eIx_l, eIx_t, eLen_l, eLen_t, eInt_i, eInt_b, eEq_i, eNe_i, eEq_e, dRaise, dRetX, dTry, dGcd3, dIsB, dChain, dZip, dItT, dItL, dSl, dNoPart, dPart, dChain, dgUnl, dParO, notN_no, notN_t, isN_no, dRev]
      rw [decide_eq_false (by simp; omega)]
      exact hR
    have key := has_rot a b c r p
    have idx := rot_ix (a :: b :: c :: r) (by simp)
    have rl := rot_len (a :: b :: c :: r) (by simp)
    have rm := rot_mem (a :: b :: c :: r)
    rw [← key] at h
    generalize hG : a :: b :: c :: r = G at *
    simp only [dSeq, dNext, dRet, dIf, dDrop, dAsg, dgName, dgNil, dgCons, dgTup, dPar, dPar3, dOwn, dApp, dFrz, dVar, dC, dOp, dI, dI0, dB0, dNeg, dTup, dLst, dBoolT, dAndT, dOrT, dNotT, dAndV, dOrV, dNotV, dCall, dCall0, dB, dIsi, dRepr, dAbs, dInt1, dInt2, dAll, dstart, dwipe, clean, Sl.clean, List.map_cons, List.map_nil, List.length_cons, List.length_nil, List.replicate, List.cons_append, List.nil_append, List.set_cons_zero, List.set_cons_succ, List.getElem?_cons_zero, List.getElem?_cons_succ, Nat.reduceAdd, Nat.reduceSub, Nat.add_zero, Nat.zero_add, Nat.add_sub_cancel, Nat.sub_self, atI_0, atI_1, atI_2, atI_3, dLtI, dLeI, dGtI, dGeI, dSub, dFd, dMod, dPow, eAdd_i, eAdd_l, eMul_i, eMul_l, eIx_l, eIx_t, eLen_l, eLen_t, eInt_i, eInt_b, eEq_i, eNe_i, eEq_e, dRaise, dRetX, dTry, dGcd3, dIsB, dChain, dZip, dItT, dItL, dSl, dNoPart, dPart, dChain, dgUnl, dParO, notN_no, notN_t, isN_no, dRev]
    refine dLcc_m ((List.range G.length).zip (rot G)) (fun q : Nat × (Pt × Pt) => .int ((0 : Int) + (q.1 : Int))) (fun q => .bool (decide (Int.sign (Pt.o q.2.1 q.2.2 p) < 0))) (fun R hR => ?_) (by rw [List.length_zip, List.length_range]; omega) ?_ ?_
    · simp only [dSeq, dNext, dRet, dIf, dDrop, dAsg, dgName, dgNil, dgCons, dgTup, dPar, dPar3, dOwn, dApp, dFrz, dVar, dC, dOp, dI, dI0, dB0, dNeg, dTup, dLst, dBoolT, dAndT, dOrT, dNotT, dAndV, dOrV, dNotV, dCall, dCall0, dB, dIsi, dRepr, dAbs, dInt1, dInt2, dAll, dstart, dwipe, clean, Sl.clean, List.map_cons, List.map_nil, List.length_cons, List.length_nil, List.replicate, List.cons_append, List.nil_append, List.set_cons_zero, List.set_cons_succ, List.getElem?_cons_zero, List.getElem?_cons_succ, Nat.reduceAdd, Nat.reduceSub, Nat.add_zero, Nat.zero_add, Nat.add_sub_cancel, Nat.sub_self, atI_0, atI_1, atI_2, atI_3, dLtI, dLeI, dGtI, dGeI, dSub, dFd, dMod, dPow, eAdd_i, eAdd_l, eMul_i, eMul_l, eIx_l, eIx_t, eLen_l, eLen_t, eInt_i, eInt_b, eEq_i, eNe_i, eEq_e, dRaise, dRetX, dTry, dGcd3, dIsB, dChain, dZip, dItT, dItL, dSl, dNoPart, dPart, dChain, dgUnl, dParO, notN_no, notN_t, isN_no, dRev, dRng1]
      refine ⟨by rw [List.length_map]; omega, ?_⟩
      have e1 : intsD 0 (((G.map pD).length : Nat) : Int).toNat = ((List.range G.length).zip (rot G)).map fun q : Nat × (Pt × Pt) => PyData.int ((0 : Int) + (q.1 : Int)) := by
        rw [Int.toNat_natCast, List.length_map, zip_fst (fun i : Nat => PyData.int ((0 : Int) + (i : Int))) _ _ (by rw [List.length_range, rl])]; rfl
      rw [e1]; exact hR
    · rintro ⟨k, u, v⟩ hq Q hQ
      obtain ⟨i1, i2⟩ := idx k (u, v) (zip_range hq)
      have mm := rm (u, v) (List.of_mem_zip hq).2
      simp only [dSeq, dNext, dRet, dIf, dDrop, dAsg, dgName, dgNil, dgCons, dgTup, dPar, dPar3, dOwn, dApp, dFrz, dVar, dC, dOp, dI, dI0, dB0, dNeg, dTup, dLst, dBoolT, dAndT, dOrT, dNotT, dAndV, dOrV, dNotV, dCall, dCall0, dB, dIsi, dRepr, dAbs, dInt1, dInt2, dAll, dstart, dwipe, clean, Sl.clean, List.map_cons, List.map_nil, List.length_cons, List.length_nil, List.replicate, List.cons_append, List.nil_append, List.set_cons_zero, List.set_cons_succ, List.getElem?_cons_zero, List.getElem?_cons_succ, Nat.reduceAdd, Nat.reduceSub, Nat.add_zero, Nat.zero_add, Nat.add_sub_cancel, Nat.sub_self, atI_0, atI_1, atI_2, atI_3, dLtI, dLeI, dGtI, dGeI, dSub, dFd, dMod, dPow, eAdd_i, eAdd_l, eMul_i, eMul_l, eIx_l, eIx_t, eLen_l, eLen_t, eInt_i, eInt_b, eEq_i, eNe_i, eEq_e, dRaise, dRetX, dTry, dGcd3, dIsB, dChain, dZip, dItT, dItL, dSl, dNoPart, dPart, dChain, dgUnl, dParO, notN_no, notN_t, isN_no, dRev]
      rw [show (0 : Int) + (k : Int) - 1 = (k : Int) - 1 by omega, show (0 : Int) + (k : Int) = (k : Int) by omega, i1, i2]
      dsimp only
      exact turn_c (hb u mm.1) (hb v mm.2) hp hk hQ
    refine any_map ?_
    rw [show (((List.range G.length).zip (rot G)).any fun q => decide (Int.sign (Pt.o q.2.1 q.2.2 p) < 0)) = (rot G).any fun e => decide (Int.sign (Pt.o e.1 e.2 p) < 0) from zip_any (fun e : Pt × Pt => decide (Int.sign (Pt.o e.1 e.2 p) < 0)) (List.range G.length) (rot G) (by rw [List.length_range, rl])]
    exact h
theorem ok_l_look (T : Tx K mg base) : DefOk P w K mg base 4 "_law_look" ["_law_rows", "_law_p"] spLook := by
  refine defOk T.f_l_look sc_l_look bn_l_look (fun f cdv A outer s H hr hg => (pss_d1 (psd_ret (pd_blt (cr_sum rfl) lc_sum rfl T.b_sum (by decide +kernel) (pda_cons (pd_new (pdn_lci (own := [("_law_plate", 2), ("_law_weight", 3)]) rfl sc_l_look.nd (pdi_list (pd_var 0)) (blk (N := N_l_look) (sc := defScope s_l_look) (by decide +kernel)) (fun _ _ _ _ _ => pg_tup rfl (pgs_cons (pg_name (i := 2) sc_l_look.nd rfl (Or.inl rfl)) (pgs_cons (pg_name (i := 3) sc_l_look.nd rfl (Or.inl rfl)) pgs_nil))) (lg_tup (lgs_cons (lgs_cons lgs_nil)) (dgl_cons (dgl_cons dgl_nil))) (sets_tup (sets_cons (by decide) (sets_cons (by decide) sets_nil))) (fun _ _ _ _ _ => (pdt_val (pd_fn (ok_l_has T) hr (by decide) hg (pda_cons (pd_var 2) (pda_cons (pd_var 1) pda_nil))))) (fun _ _ _ _ _ => (pd_var 3)))) pda_nil))))) ?_
  rintro ds Qd _ ⟨rows, p, k, rfl, hr, hp, hk, hl, h⟩
  simp only [dSeq, dNext, dRet, dIf, dDrop, dAsg, dgName, dgNil, dgCons, dgTup, dPar, dPar3, dOwn, dApp, dFrz, dVar, dC, dOp, dI, dI0, dB0, dNeg, dTup, dLst, dBoolT, dAndT, dOrT, dNotT, dAndV, dOrV, dNotV, dCall, dCall0, dB, dIsi, dRepr, dAbs, dInt1, dInt2, dAll, dstart, dwipe, clean, Sl.clean, List.map_cons, List.map_nil, List.length_cons, List.length_nil, List.replicate, List.cons_append, List.nil_append, List.set_cons_zero, List.set_cons_succ, List.getElem?_cons_zero, List.getElem?_cons_succ, Nat.reduceAdd, Nat.reduceSub, Nat.add_zero, Nat.zero_add, Nat.add_sub_cancel, Nat.sub_self, atI_0, atI_1, atI_2, atI_3, dLtI, dLeI, dGtI, dGeI, dSub, dFd, dMod, dPow, eAdd_i, eAdd_l, eMul_i, eMul_l, eIx_l, eIx_t, eLen_l, eLen_t, eInt_i, eInt_b, eEq_i, eNe_i, eEq_e, dRaise, dRetX, dTry, dGcd3, dIsB, dChain, dZip, dItT, dItL, dSl, dNoPart, dPart, dChain, dgUnl, dParO, notN_no, notN_t, isN_no, dRev, dParC, dOwnC, dMaxD, dEnum, capD, dLstN, dSum]
  refine dLcc_mt rows rowD (fun r => hasB r.1 p) (fun r => .int r.2) (fun R hR => ?_) (by omega) ?_ ?_
  · simp only [dSeq, dNext, dRet, dIf, dDrop, dAsg, dgName, dgNil, dgCons, dgTup, dPar, dPar3, dOwn, dApp, dFrz, dVar, dC, dOp, dI, dI0, dB0, dNeg, dTup, dLst, dBoolT, dAndT, dOrT, dNotT, dAndV, dOrV, dNotV, dCall, dCall0, dB, dIsi, dRepr, dAbs, dInt1, dInt2, dAll, dstart, dwipe, clean, Sl.clean, List.map_cons, List.map_nil, List.length_cons, List.length_nil, List.replicate, List.cons_append, List.nil_append, List.set_cons_zero, List.set_cons_succ, List.getElem?_cons_zero, List.getElem?_cons_succ, Nat.reduceAdd, Nat.reduceSub, Nat.add_zero, Nat.zero_add, Nat.add_sub_cancel, Nat.sub_self, atI_0, atI_1, atI_2, atI_3, dLtI, dLeI, dGtI, dGeI, dSub, dFd, dMod, dPow, eAdd_i, eAdd_l, eMul_i, eMul_l, eIx_l, eIx_t, eLen_l, eLen_t, eInt_i, eInt_b, eEq_i, eNe_i, eEq_e, dRaise, dRetX, dTry, dGcd3, dIsB, dChain, dZip, dItT, dItL, dSl, dNoPart, dPart, dChain, dgUnl, dParO, notN_no, notN_t, isN_no, dRev, dParC, dOwnC, dMaxD, dEnum, capD, dLstN, dItL]
    exact hR
  · intro r mr Q1 Q0 q1 q0
    obtain ⟨g1, g2, g3⟩ := hr r mr
    simp only [dSeq, dNext, dRet, dIf, dDrop, dAsg, dgName, dgNil, dgCons, dgTup, dPar, dPar3, dOwn, dApp, dFrz, dVar, dC, dOp, dI, dI0, dB0, dNeg, dTup, dLst, dBoolT, dAndT, dOrT, dNotT, dAndV, dOrV, dNotV, dCall, dCall0, dB, dIsi, dRepr, dAbs, dInt1, dInt2, dAll, dstart, dwipe, clean, Sl.clean, List.map_cons, List.map_nil, List.length_cons, List.length_nil, List.replicate, List.cons_append, List.nil_append, List.set_cons_zero, List.set_cons_succ, List.getElem?_cons_zero, List.getElem?_cons_succ, Nat.reduceAdd, Nat.reduceSub, Nat.add_zero, Nat.zero_add, Nat.add_sub_cancel, Nat.sub_self, atI_0, atI_1, atI_2, atI_3, dLtI, dLeI, dGtI, dGeI, dSub, dFd, dMod, dPow, eAdd_i, eAdd_l, eMul_i, eMul_l, eIx_l, eIx_t, eLen_l, eLen_t, eInt_i, eInt_b, eEq_i, eNe_i, eEq_e, dRaise, dRetX, dTry, dGcd3, dIsB, dChain, dZip, dItT, dItL, dSl, dNoPart, dPart, dChain, dgUnl, dParO, notN_no, notN_t, isN_no, dRev, dParC, dOwnC, dMaxD, dEnum, capD, dLstN]
    refine ⟨r.1, p, k, rfl, g1, g2, hp, hk, g3, ?_⟩
    cases z : hasB r.1 p with
    | true => exact iteT (q1 z)
    | false => exact iteF (q0 z)
  · exact dSum_m (f := fun r : List Pt × Int => r.2) h
theorem ok_l_middle (T : Tx K mg base) : DefOk P w K mg base 3 "_law_middle" ["_law_p", "_law_q"] spMiddle := by
  refine defOk T.f_l_middle sc_l_middle bn_l_middle (fun f cdv A outer s H hr hg => (pss_d1 (psd_ret (pd_fn (ok_l_place T) hr (by decide) hg (pda_cons (pd_addA (pd_mulA (pd_ix (pd_var 0) pd_int) (pd_ix (pd_var 1) pd_int)) (pd_mulA (pd_ix (pd_var 1) pd_int) (pd_ix (pd_var 0) pd_int))) (pda_cons (pd_addA (pd_mulA (pd_ix (pd_var 0) pd_int) (pd_ix (pd_var 1) pd_int)) (pd_mulA (pd_ix (pd_var 1) pd_int) (pd_ix (pd_var 0) pd_int))) (pda_cons (pd_mulA (pd_mulA pd_int (pd_ix (pd_var 0) pd_int)) (pd_ix (pd_var 1) pd_int)) pda_nil))))))) ?_
  rintro ds Qd _ ⟨p, q, j, k, rfl, hp, hq, hk, h⟩
  have b2 : Bd 2 (2 : Int) := ⟨by decide⟩
  have p1 : Bd (j + k) (p.x * q.d) := (@bd_mul _ _ _ _ hp.1 hq.2.2).mono (by omega)
  have p2 : Bd (j + k) (q.x * p.d) := (@bd_mul _ _ _ _ hq.1 hp.2.2).mono (by omega)
  have p3 : Bd (j + k) (p.y * q.d) := (@bd_mul _ _ _ _ hp.2.1 hq.2.2).mono (by omega)
  have p4 : Bd (j + k) (q.y * p.d) := (@bd_mul _ _ _ _ hq.2.1 hp.2.2).mono (by omega)
  have p5 : Bd (2 + j) (2 * p.d) := @bd_mul _ _ _ _ b2 hp.2.2
  have p6 : Bd (j + k + 2) (2 * p.d * q.d) := (@bd_mul _ _ _ _ p5 hq.2.2).mono (by omega)
  have q1 := p.pos
  have q2 := q.pos
  have ne : 2 * p.d * q.d ≠ 0 := Int.mul_ne_zero (by omega) (by omega)
  obtain ⟨m, e, hm, c1, c2⟩ := pt_of ne ((bd_add2 p1 p2).mono (show j + k + 1 ≤ j + k + 2 by omega)) ((bd_add2 p3 p4).mono (show j + k + 1 ≤ j + k + 2 by omega)) p6
  simp only [dSeq, dNext, dRet, dIf, dDrop, dAsg, dgName, dgNil, dgCons, dgTup, dPar, dPar3, dOwn, dApp, dFrz, dVar, dC, dOp, dI, dI0, dB0, dNeg, dTup, dLst, dBoolT, dAndT, dOrT, dNotT, dAndV, dOrV, dNotV, dCall, dCall0, dB, dIsi, dRepr, dAbs, dInt1, dInt2, dAll, dstart, dwipe, clean, Sl.clean, List.map_cons, List.map_nil, List.length_cons, List.length_nil, List.replicate, List.cons_append, List.nil_append, List.set_cons_zero, List.set_cons_succ, List.getElem?_cons_zero, List.getElem?_cons_succ, Nat.reduceAdd, Nat.reduceSub, Nat.add_zero, Nat.zero_add, Nat.add_sub_cancel, Nat.sub_self, atI_0, atI_1, atI_2, atI_3, dLtI, dLeI, dGtI, dGeI, dSub, dFd, dMod, dPow, eAdd_i, eAdd_l, eMul_i, eMul_l, eIx_l, eIx_t, eLen_l, eLen_t, eInt_i, eInt_b, eEq_i, eNe_i, eEq_e, dRaise, dRetX, dTry, dGcd3, dIsB, dChain, dZip, dItT, dItL, dSl, dNoPart, dPart, dChain, dgUnl, dParO, notN_no, notN_t, isN_no, dRev]
  refine ⟨cmb hp.1 hq.2.2 (by omega), cmb hq.1 hp.2.2 (by omega), cmb hp.2.1 hq.2.2 (by omega), cmb hq.2.1 hp.2.2 (by omega), cmb b2 hp.2.2 (by omega), cmb p5 hq.2.2 (by omega), ?_⟩
  exact spPlc_c ((bd_add2 p1 p2).mono (show j + k + 1 ≤ j + k + 2 by omega)) ((bd_add2 p3 p4).mono (show j + k + 1 ≤ j + k + 2 by omega)) p6 ne (by omega) e (h m hm c1 c2)
theorem ok_l_draw_place (T : Tx K mg base) : DefOk P w K mg base 3 "_law_draw_place" ["_law_source", "_law_wide"] spDrawPlace := by
  refine defOk T.f_l_draw_place sc_l_draw_place bn_l_draw_place (fun f cdv A outer s H hr hg => (pss_dc (psd_set (i := 2) sc_l_draw_place.nd rfl (Or.inl rfl) (pd_ix (pd_lst (pda_cons pd_int (pda_cons pd_int (pda_cons pd_int (pda_cons pd_int (pda_cons pd_int pda_nil)))))) (pd_fn (ok_l_pick T) hr (by decide) hg (pda_cons (pd_var 0) (pda_cons pd_int pda_nil)))))
      (pss_d1 (psd_ret (pd_fn (ok_l_place T) hr (by decide) hg (pda_cons (pd_fn (ok_l_pick T) hr (by decide) hg (pda_cons (pd_var 0) (pda_cons (pd_addA (pd_mulA (pd_var 1) (pd_var 2)) pd_int) pda_nil))) (pda_cons (pd_fn (ok_l_pick T) hr (by decide) hg (pda_cons (pd_var 0) (pda_cons (pd_addA (pd_mulA (pd_var 1) (pd_var 2)) pd_int) pda_nil))) (pda_cons (pd_var 2) pda_nil)))))))) ?_
  rintro ds Qd _ ⟨w0, rfl, hw0, hw, h⟩
  simp only [dSeq, dNext, dRet, dIf, dDrop, dAsg, dgName, dgNil, dgCons, dgTup, dPar, dPar3, dOwn, dApp, dFrz, dVar, dC, dOp, dI, dI0, dB0, dNeg, dTup, dLst, dBoolT, dAndT, dOrT, dNotT, dAndV, dOrV, dNotV, dIfE, dCall, dCall0, dB, dIsi, dRepr, dAbs, dInt1, dInt2, dAll, dstart, dwipe, clean, Sl.clean, List.map_cons, List.map_nil, List.length_cons, List.length_nil, List.replicate, List.cons_append, List.nil_append, List.set_cons_zero, List.set_cons_succ, List.getElem?_cons_zero, List.getElem?_cons_succ, Nat.reduceAdd, Nat.reduceSub, Nat.add_zero, Nat.zero_add, Nat.add_sub_cancel, Nat.sub_self, atI_0, atI_1, atI_2, atI_3, dLtI, dLeI, dGtI, dGeI, dSub, dFd, dMod, dPow, eAdd_i, eAdd_l, eMul_i, eMul_l, eIx_l, eIx_t, eLen_l, eLen_t, eInt_i, eInt_b, eEq_i, eNe_i, eEq_e]
  have fin : ∀ d : Int, 0 < d → d ≤ 3 → CMB w0 d ∧ spPick [SRC, .int (w0 * d + 1)] fun z => CMB w0 d ∧ spPick [SRC, .int (w0 * d + 1)] fun z2 => spPlc [z, z2, .int d] Qd := fun d h0 h3 => by
    have hm : w0 * d ≤ w0 * 3 := Int.mul_le_mul_of_nonneg_left h3 hw0
    have hm0 : 0 ≤ w0 * d := Int.mul_nonneg hw0 (by omega)
    have bw : Bd 20 w0 := ⟨by omega⟩
    have bd : Bd 2 d := ⟨by omega⟩
    refine ⟨cmb bw bd (by decide), pick (by omega) (by omega) fun i i0 i1 => ⟨cmb bw bd (by decide), pick (by omega) (by omega) fun j j0 j1 => ?_⟩⟩
    obtain ⟨u, v, r, e, hr, hg, l1, l2, l3⟩ := plc_spec (x := i) (y := j) (d := d) (by omega)
    exact spPlc_c (a := 30) ⟨by omega⟩ ⟨by omega⟩ ⟨by omega⟩ (by omega) (by decide) e (h u v r (by omega) (by omega) hr (by omega) hg)
  refine pick (by decide) (by decide) fun k h0 h5 => ?_
  obtain rfl | rfl | rfl | rfl | rfl : k = 0 ∨ k = 1 ∨ k = 2 ∨ k = 3 ∨ k = 4 := by omega
  · rw [eIx_l]; simp only [atI_0]; exact fin 1 (by decide) (by decide)
  · rw [eIx_l]; simp only [atI_1]; exact fin 1 (by decide) (by decide)
  · rw [eIx_l]; simp only [atI_2]; exact fin 2 (by decide) (by decide)
  · rw [eIx_l]; simp only [atI_3]; exact fin 1 (by decide) (by decide)
  · rw [eIx_l]; simp only [atI_4]; exact fin 3 (by decide) (by decide)
theorem ok_l_draw_pool (T : Tx K mg base) : DefOk P w K mg base 4 "_law_draw_pool" ["_law_source", "_law_many", "_law_wide"] spPool := by
  refine defOk T.f_l_draw_pool sc_l_draw_pool bn_l_draw_pool (fun f cdv A outer s H hr hg => (pss_d1 (psd_ret (pd_new (pdn_lc (own := [("_law_lap", 3)]) rfl sc_l_draw_pool.nd (pdi_rng1 rfl T.b_range (pda_cons (pd_var 1) pda_nil)) (blk (N := N_l_draw_pool) (sc := defScope s_l_draw_pool) (by decide +kernel)) (fun _ _ _ _ _ => pg_name sc_l_draw_pool.nd rfl (Or.inl rfl)) (lg_name 3) (sets_name (by decide)) (fun _ _ _ _ _ => (pd_fn (ok_l_draw_place T) hr (by decide) hg (pda_cons (pd_var 0) (pda_cons (pd_var 2) pda_nil))))))))) ?_
  rintro ds Qd _ ⟨n, w, rfl, n1, n2, w0, w4, h⟩
  simp only [dSeq, dNext, dRet, dIf, dDrop, dAsg, dgName, dgNil, dgCons, dgTup, dPar, dPar3, dOwn, dApp, dFrz, dVar, dC, dOp, dI, dI0, dB0, dNeg, dTup, dLst, dBoolT, dAndT, dOrT, dNotT, dAndV, dOrV, dNotV, dCall, dCall0, dB, dIsi, dRepr, dAbs, dInt1, dInt2, dAll, dstart, dwipe, clean, Sl.clean, List.map_cons, List.map_nil, List.length_cons, List.length_nil, List.replicate, List.cons_append, List.nil_append, List.set_cons_zero, List.set_cons_succ, List.getElem?_cons_zero, List.getElem?_cons_succ, Nat.reduceAdd, Nat.reduceSub, Nat.add_zero, Nat.zero_add, Nat.add_sub_cancel, Nat.sub_self, atI_0, atI_1, atI_2, atI_3, dLtI, dLeI, dGtI, dGeI, dSub, dFd, dMod, dPow, eAdd_i, eAdd_l, eMul_i, eMul_l, eIx_l, eIx_t, eLen_l, eLen_t, eInt_i, eInt_b, eEq_i, eNe_i, eEq_e, dRaise, dRetX, dTry, dGcd3, dIsB, dChain, dZip, dItT, dItL, dSl, dNoPart, dPart, dChain, dgUnl, dParO, notN_no, notN_t, isN_no, dRev]
  refine dLcc_n (List.range n.toNat) (fun i : Nat => .int ((0 : Int) + (i : Int))) pD (fun _ p => PBd 4 2 p) (fun R hR => ?_) (by simp; omega) ?_ ?_
  · simp only [dSeq, dNext, dRet, dIf, dDrop, dAsg, dgName, dgNil, dgCons, dgTup, dPar, dPar3, dOwn, dApp, dFrz, dVar, dC, dOp, dI, dI0, dB0, dNeg, dTup, dLst, dBoolT, dAndT, dOrT, dNotT, dAndV, dOrV, dNotV, dCall, dCall0, dB, dIsi, dRepr, dAbs, dInt1, dInt2, dAll, dstart, dwipe, clean, Sl.clean, List.map_cons, List.map_nil, List.length_cons, List.length_nil, List.replicate, List.cons_append, List.nil_append, List.set_cons_zero, List.set_cons_succ, List.getElem?_cons_zero, List.getElem?_cons_succ, Nat.reduceAdd, Nat.reduceSub, Nat.add_zero, Nat.zero_add, Nat.add_sub_cancel, Nat.sub_self, atI_0, atI_1, atI_2, atI_3, dLtI, dLeI, dGtI, dGeI, dSub, dFd, dMod, dPow, eAdd_i, eAdd_l, eMul_i, eMul_l, eIx_l, eIx_t, eLen_l, eLen_t, eInt_i, eInt_b, eEq_i, eNe_i, eEq_e, dRaise, dRetX, dTry, dGcd3, dIsB, dChain, dZip, dItT, dItL, dSl, dNoPart, dPart, dChain, dgUnl, dParO, notN_no, notN_t, isN_no, dRev, dRng1]
    exact ⟨by omega, hR⟩
  · intro x hx Q hQ
    simp only [dSeq, dNext, dRet, dIf, dDrop, dAsg, dgName, dgNil, dgCons, dgTup, dPar, dPar3, dOwn, dApp, dFrz, dVar, dC, dOp, dI, dI0, dB0, dNeg, dTup, dLst, dBoolT, dAndT, dOrT, dNotT, dAndV, dOrV, dNotV, dCall, dCall0, dB, dIsi, dRepr, dAbs, dInt1, dInt2, dAll, dstart, dwipe, clean, Sl.clean, List.map_cons, List.map_nil, List.length_cons, List.length_nil, List.replicate, List.cons_append, List.nil_append, List.set_cons_zero, List.set_cons_succ, List.getElem?_cons_zero, List.getElem?_cons_succ, Nat.reduceAdd, Nat.reduceSub, Nat.add_zero, Nat.zero_add, Nat.add_sub_cancel, Nat.sub_self, atI_0, atI_1, atI_2, atI_3, dLtI, dLeI, dGtI, dGeI, dSub, dFd, dMod, dPow, eAdd_i, eAdd_l, eMul_i, eMul_l, eIx_l, eIx_t, eLen_l, eLen_t, eInt_i, eInt_b, eEq_i, eNe_i, eEq_e, dRaise, dRetX, dTry, dGcd3, dIsB, dChain, dZip, dItT, dItL, dSl, dNoPart, dPart, dChain, dgUnl, dParO, notN_no, notN_t, isN_no, dRev]
    refine ⟨w, rfl, w0, by omega, fun x y d hx hy hd hd3 hg => hQ ⟨x, y, d, hd, hg⟩ ⟨⟨?_⟩, ⟨?_⟩, ⟨?_⟩⟩⟩
    · show x.natAbs < 16; omega
    · show y.natAbs < 16; omega
    · show d.natAbs < 4; omega
  · intro bs F
    have l := F.len
    rw [List.length_range] at l
    exact h bs l.symm (F.all (R := fun p => PBd 4 2 p) fun _ _ z => z)
theorem ok_l_draw_plate (T : Tx K mg base) : DefOk P w K mg base 5 "_law_draw_plate" ["_law_source", "_law_pool"] spPlateW := by
  refine defOk T.f_l_draw_plate sc_l_draw_plate bn_l_draw_plate (fun f cdv A outer s H hr hg => (pss_d1 (psd_ret (pd_fn (ok_l_hull T) hr (by decide) hg (pda_cons (pd_new (pdn_lc (own := [("_law_lap", 2)]) rfl sc_l_draw_plate.nd (pdi_rng1 rfl T.b_range (pda_cons (pd_addA pd_int (pd_fn (ok_l_pick T) hr (by decide) hg (pda_cons (pd_var 0) (pda_cons pd_int pda_nil)))) pda_nil)) (blk (N := N_l_draw_plate) (sc := defScope s_l_draw_plate) (by decide +kernel)) (fun _ _ _ _ _ => pg_name sc_l_draw_plate.nd rfl (Or.inl rfl)) (lg_name 2) (sets_name (by decide)) (fun _ _ _ _ _ => (pd_ix (pd_var 1) (pd_fn (ok_l_pick T) hr (by decide) hg (pda_cons (pd_var 0) (pda_cons (pd_blt call_len lc_len rfl T.b_len (by decide +kernel) (pda_cons (pd_var 1) pda_nil)) pda_nil))))))) pda_nil))))) ?_
  rintro ds Qd _ ⟨ps, rfl, ne, hl, hb, h⟩
  have pos : 0 < ps.length := List.length_pos_iff.mpr ne
  simp only [dSeq, dNext, dRet, dIf, dDrop, dAsg, dgName, dgNil, dgCons, dgTup, dPar, dPar3, dOwn, dApp, dFrz, dVar, dC, dOp, dI, dI0, dB0, dNeg, dTup, dLst, dBoolT, dAndT, dOrT, dNotT, dAndV, dOrV, dNotV, dCall, dCall0, dB, dIsi, dRepr, dAbs, dInt1, dInt2, dAll, dstart, dwipe, clean, Sl.clean, List.map_cons, List.map_nil, List.length_cons, List.length_nil, List.replicate, List.cons_append, List.nil_append, List.set_cons_zero, List.set_cons_succ, List.getElem?_cons_zero, List.getElem?_cons_succ, Nat.reduceAdd, Nat.reduceSub, Nat.add_zero, Nat.zero_add, Nat.add_sub_cancel, Nat.sub_self, atI_0, atI_1, atI_2, atI_3, dLtI, dLeI, dGtI, dGeI, dSub, dFd, dMod, dPow, eAdd_i, eAdd_l, eMul_i, eMul_l, eIx_l, eIx_t, eLen_l, eLen_t, eInt_i, eInt_b, eEq_i, eNe_i, eEq_e, dRaise, dRetX, dTry, dGcd3, dIsB, dChain, dZip, dItT, dItL, dSl, dNoPart, dPart, dChain, dgUnl, dParO, notN_no, notN_t, isN_no, dRev]
  refine dLcc_x (fun k : Int => 0 ≤ k ∧ k < 4) (fun k => (List.range (1 + k).toNat).map fun i : Nat => PyData.int ((0 : Int) + (i : Int))) (fun R hR => ?_) ?_
  · simp only [dSeq, dNext, dRet, dIf, dDrop, dAsg, dgName, dgNil, dgCons, dgTup, dPar, dPar3, dOwn, dApp, dFrz, dVar, dC, dOp, dI, dI0, dB0, dNeg, dTup, dLst, dBoolT, dAndT, dOrT, dNotT, dAndV, dOrV, dNotV, dCall, dCall0, dB, dIsi, dRepr, dAbs, dInt1, dInt2, dAll, dstart, dwipe, clean, Sl.clean, List.map_cons, List.map_nil, List.length_cons, List.length_nil, List.replicate, List.cons_append, List.nil_append, List.set_cons_zero, List.set_cons_succ, List.getElem?_cons_zero, List.getElem?_cons_succ, Nat.reduceAdd, Nat.reduceSub, Nat.add_zero, Nat.zero_add, Nat.add_sub_cancel, Nat.sub_self, atI_0, atI_1, atI_2, atI_3, dLtI, dLeI, dGtI, dGeI, dSub, dFd, dMod, dPow, eAdd_i, eAdd_l, eMul_i, eMul_l, eIx_l, eIx_t, eLen_l, eLen_t, eInt_i, eInt_b, eEq_i, eNe_i, eEq_e, dRaise, dRetX, dTry, dGcd3, dIsB, dChain, dZip, dItT, dItL, dSl, dNoPart, dPart, dChain, dgUnl, dParO, notN_no, notN_t, isN_no, dRev, dRng1]
    exact pick (by decide) (by decide) fun k k0 k4 => ⟨by omega, hR k ⟨k0, k4⟩⟩
  rintro k ⟨k0, k4⟩
  refine dLcc_n (List.range (1 + k).toNat) (fun i : Nat => .int ((0 : Int) + (i : Int))) pD (fun _ p => p ∈ ps) (fun R hR => hR) (by simp; omega) ?_ ?_
  · intro x hx Q hQ
    simp only [dSeq, dNext, dRet, dIf, dDrop, dAsg, dgName, dgNil, dgCons, dgTup, dPar, dPar3, dOwn, dApp, dFrz, dVar, dC, dOp, dI, dI0, dB0, dNeg, dTup, dLst, dBoolT, dAndT, dOrT, dNotT, dAndV, dOrV, dNotV, dCall, dCall0, dB, dIsi, dRepr, dAbs, dInt1, dInt2, dAll, dstart, dwipe, clean, Sl.clean, List.map_cons, List.map_nil, List.length_cons, List.length_nil, List.replicate, List.cons_append, List.nil_append, List.set_cons_zero, List.set_cons_succ, List.getElem?_cons_zero, List.getElem?_cons_succ, Nat.reduceAdd, Nat.reduceSub, Nat.add_zero, Nat.zero_add, Nat.add_sub_cancel, Nat.sub_self, atI_0, atI_1, atI_2, atI_3, dLtI, dLeI, dGtI, dGeI, dSub, dFd, dMod, dPow, eAdd_i, eAdd_l, eMul_i, eMul_l, eIx_l, eIx_t, eLen_l, eLen_t, eInt_i, eInt_b, eEq_i, eNe_i, eEq_e, dRaise, dRetX, dTry, dGcd3, dIsB, dChain, dZip, dItT, dItL, dSl, dNoPart, dPart, dChain, dgUnl, dParO, notN_no, notN_t, isN_no, dRev]
    refine pick (by rw [List.length_map]; omega) (by rw [List.length_map]; omega) fun j j0 j1 => ?_
    obtain ⟨v, e, hv⟩ := atI_ok (xs := ps.map pD) j0 j1
    obtain ⟨p, hp, rfl⟩ := List.mem_map.mp hv
    rw [eIx_l, e]
    exact hQ p hp
  · intro bs F
    have l := F.len
    rw [List.length_range] at l
    have hm := F.all (R := fun p => p ∈ ps) fun _ _ z => z
    have bne : bs ≠ [] := fun z => by rw [z] at l; simp at l; omega
    obtain ⟨P1, P2, P3⟩ := plate_ok bne
    refine ⟨bs, ⟨rfl, ⟨24, by decide, fun p hp => (hb p (hm p hp)).pb (by decide)⟩, by omega⟩, ?_⟩
    exact h _ ⟨bs, bne, rfl⟩ (fun p hp => hb p (hm p (P2 p hp))) (by omega)
theorem ok_l_due (T : Tx K mg base) : DefOk P w K mg base 5 "_law_due" ["_law_plate"] spInside := by
  refine defOk T.f_l_due sc_l_due bn_l_due (fun f cdv A outer s H hr hg => (pss_dc (psd_own (i := 1) sc_l_due.nd rfl (Or.inl rfl) (pdn_lst (pda_cons (pd_tup (pda_cons (pd_var 0) (pda_cons pd_int pda_nil))) pda_nil)))
      (pss_dc (psd_if (pdt_gt (pd_blt call_len lc_len rfl T.b_len (by decide +kernel) (pda_cons (pd_var 0) pda_nil)) pd_int) (pss_d1 (psd_for PassesOwn.never rfl (pdi_rng1 rfl T.b_range (pda_cons (pd_blt call_len lc_len rfl T.b_len (by decide +kernel) (pda_cons (pd_var 0) pda_nil)) pda_nil)) (pdg_name (i := 2) sc_l_due.nd rfl (Or.inl rfl)) (pss_d1 (psd_app 1 rfl (Or.inl rfl) (pd_tup (pda_cons (pd_fn (ok_l_hull T) hr (by decide) hg (pda_cons (pd_lst (pda_cons (pd_ix (pd_var 0) (pd_var 2)) (pda_cons (pd_ix (pd_catT (pd_var 0) (pd_sl (pd_var 0) pdo_none (pdo_some pd_int))) (pd_addA (pd_var 2) pd_int)) pda_nil))) pda_nil)) (pda_cons (pd_sub pd_int pd_int) pda_nil))))))) pss_d0)
      (pss_frz 1 (pss_dc (psd_set (i := 3) sc_l_due.nd rfl (Or.inr rfl) (pd_ix (pd_lst (pda_cons pd_int (pda_cons pd_int (pda_cons (pd_sub pd_int pd_int) (pda_cons pd_int pda_nil))))) (pd_blt (call_min2 rfl) lc_int2 rfl T.b_min (by decide +kernel) (pda_cons (pd_blt call_len lc_len rfl T.b_len (by decide +kernel) (pda_cons (pd_var 0) pda_nil)) (pda_cons pd_int pda_nil)))))
      (pss_d1 (psd_ret (pd_addA (pd_var 1) (pd_new (pdn_lci (own := [("_law_p", 4)]) rfl sc_l_due.nd (pdi_tup (pd_var 0)) (blk (N := N_l_due) (sc := defScope s_l_due) (by decide +kernel)) (fun _ _ _ _ _ => pg_name sc_l_due.nd rfl (Or.inl rfl)) (lg_name 4) (sets_name (by decide)) (fun _ _ _ _ _ => (pdt_ne hr.units (pd_var 3) pd_int)) (fun _ _ _ _ _ => (pd_tup (pda_cons (pd_tup (pda_cons (pd_var 4) pda_nil)) (pda_cons (pd_var 3) pda_nil)))))))))))))) ?_
  rintro ds Qd _ ⟨H, rfl, ne, hb, hl, h⟩
  have pos : 0 < H.length := List.length_pos_iff.mpr ne
  have nl := nx_len H ne
  show dSeq _ _ _ [.val (.tuple (H.map pD)), .emp, .emp, .emp, .emp]
  refine dSeq_g (fun σ => ∃ ad, σ = [.val (.tuple (H.map pD)), .own ad [rowD (H, 1)], .emp, .emp, .emp]) ?_ ?_
  · intro N hN
    simp only [dSeq, dNext, dRet, dIf, dDrop, dAsg, dgName, dgNil, dgCons, dgTup, dPar, dPar3, dOwn, dApp, dFrz, dVar, dC, dOp, dI, dI0, dB0, dNeg, dTup, dLst, dBoolT, dAndT, dOrT, dNotT, dAndV, dOrV, dNotV, dCall, dCall0, dB, dIsi, dRepr, dAbs, dInt1, dInt2, dAll, dstart, dwipe, clean, Sl.clean, List.map_cons, List.map_nil, List.length_cons, List.length_nil, List.replicate, List.cons_append, List.nil_append, List.set_cons_zero, List.set_cons_succ, List.getElem?_cons_zero, List.getElem?_cons_succ, Nat.reduceAdd, Nat.reduceSub, Nat.add_zero, Nat.zero_add, Nat.add_sub_cancel, Nat.sub_self, atI_0, atI_1, atI_2, atI_3, dLtI, dLeI, dGtI, dGeI, dSub, dFd, dMod, dPow, eAdd_i, eAdd_l, eMul_i, eMul_l, eIx_l, eIx_t, eLen_l, eLen_t, eInt_i, eInt_b, eEq_i, eNe_i, eEq_e, dRaise, dRetX, dTry, dGcd3, dIsB, dChain, dZip, dItT, dItL, dSl, dNoPart, dPart, dChain, dgUnl, dParO, notN_no, notN_t, isN_no, dRev, dParC, dOwnC, dMaxD, dEnum, capD, dLstN]
    exact fun ad => hN _ ⟨ad, rfl⟩
  rintro σ2 ⟨ad, rfl⟩
  refine dSeq_g (fun σ => ∃ (x2 : Sl), σ = [.val (.tuple (H.map pD)), .own ad (((H, (1 : Int)) :: if 2 < H.length then (nx (H ++ H.take 1)).map fun e => (hullP [e.1, e.2], -1) else []).map rowD), x2, .emp, .emp]) ?_ ?_
  · intro N hN
    by_cases h2 : 2 < H.length
    · rw [if_pos h2] at hN
      refine dIf_yes (fun R hR => ?_) ?_
      · simp only [dSeq, dNext, dRet, dIf, dDrop, dAsg, dgName, dgNil, dgCons, dgTup, dPar, dPar3, dOwn, dApp, dFrz, dVar, dC, dOp, dI, dI0, dB0, dNeg, dTup, dLst, dBoolT, dAndT, dOrT, dNotT, dAndV, dOrV, dNotV, dCall, dCall0, dB, dIsi, dRepr, dAbs, dInt1, dInt2, dAll, dstart, dwipe, clean, Sl.clean, List.map_cons, List.map_nil, List.length_cons, List.length_nil, List.replicate, List.cons_append, List.nil_append, List.set_cons_zero, List.set_cons_succ, List.getElem?_cons_zero, List.getElem?_cons_succ, Nat.reduceAdd, Nat.reduceSub, Nat.add_zero, Nat.zero_add, Nat.add_sub_cancel, Nat.sub_self, atI_0, atI_1, atI_2, atI_3, dLtI, dLeI, dGtI, dGeI, dSub, dFd, dMod, dPow, eAdd_i, eAdd_l, eMul_i, eMul_l, eIx_l, eIx_t, eLen_l, eLen_t, eInt_i, eInt_b, eEq_i, eNe_i, eEq_e, dRaise, dRetX, dTry, dGcd3, dIsB, dChain, dZip, dItT, dItL, dSl, dNoPart, dPart, dChain, dgUnl, dParO, notN_no, notN_t, isN_no, dRev, dParC, dOwnC, dMaxD, dEnum, capD, dLstN, List.length_map]
        rw [decide_eq_true (by omega)]
        exact hR
      refine dFor_last ?_
      refine dFor_m ((List.range H.length).zip (nx (H ++ H.take 1))) (fun q : Nat × (Pt × Pt) => .int ((0 : Int) + (q.1 : Int))) (fun pre σ => ∃ x2 : Sl, σ = [.val (.tuple (H.map pD)), .own ad (((H, (1 : Int)) :: pre.map fun q => (hullP [q.2.1, q.2.2], -1)).map rowD), x2, .emp, .emp]) ?_ ⟨_, rfl⟩ ?_ ?_
      · intro R hR
        simp only [dSeq, dNext, dRet, dIf, dDrop, dAsg, dgName, dgNil, dgCons, dgTup, dPar, dPar3, dOwn, dApp, dFrz, dVar, dC, dOp, dI, dI0, dB0, dNeg, dTup, dLst, dBoolT, dAndT, dOrT, dNotT, dAndV, dOrV, dNotV, dCall, dCall0, dB, dIsi, dRepr, dAbs, dInt1, dInt2, dAll, dstart, dwipe, clean, Sl.clean, List.map_cons, List.map_nil, List.length_cons, List.length_nil, List.replicate, List.cons_append, List.nil_append, List.set_cons_zero, List.set_cons_succ, List.getElem?_cons_zero, List.getElem?_cons_succ, Nat.reduceAdd, Nat.reduceSub, Nat.add_zero, Nat.zero_add, Nat.add_sub_cancel, Nat.sub_self, atI_0, atI_1, atI_2, atI_3, dLtI, dLeI, dGtI, dGeI, dSub, dFd, dMod, dPow, eAdd_i, eAdd_l, eMul_i, eMul_l, eIx_l, eIx_t, eLen_l, eLen_t, eInt_i, eInt_b, eEq_i, eNe_i, eEq_e, dRaise, dRetX, dTry, dGcd3, dIsB, dChain, dZip, dItT, dItL, dSl, dNoPart, dPart, dChain, dgUnl, dParO, notN_no, notN_t, isN_no, dRev, dParC, dOwnC, dMaxD, dEnum, capD, dLstN, dRng1]
        refine ⟨by rw [List.length_map]; omega, ?_⟩
        have e1 : intsD 0 (((H.map pD).length : Nat) : Int).toNat = ((List.range H.length).zip (nx (H ++ H.take 1))).map fun q : Nat × (Pt × Pt) => PyData.int ((0 : Int) + (q.1 : Int)) := by
          rw [Int.toNat_natCast, List.length_map, zip_fst (fun i : Nat => PyData.int ((0 : Int) + (i : Int))) _ _ (by rw [List.length_range, nl])]; rfl
        rw [e1]; exact hR
      · rintro pre ⟨i, u, v⟩ post e σ' ⟨x2, rfl⟩
        have hin : (i, (u, v)) ∈ (List.range H.length).zip (nx (H ++ H.take 1)) := by rw [e]; simp
        obtain ⟨i1, i2⟩ := nx_ix H ne i (u, v) (zip_range hin)
        obtain ⟨m1, m2⟩ := nx_mem (List.of_mem_zip hin).2
        have pl : pre.length < H.length := by
          have := congrArg List.length e
          rw [List.length_zip, List.length_range, nl] at this
          simp at this; omega
        have bu := hb u m1
        have bv := hb v m2
        have e2 : cutD (H.map pD) none (some 1) = (H.take 1).map pD := cut_to pD H 1
        have e3 : H.map pD ++ (H.take 1).map pD = (H ++ H.take 1).map pD := by simp
        have ll : (H.map pD).length + ((H.take 1).map pD).length ≤ 10000000 := by simp; omega
        have Tn : (H.take 1).map pD ≠ [] := fun z => by
          have := congrArg List.length z
          rw [List.length_map, List.length_take, List.length_nil] at this
          omega
        have Ln : H.map pD ≠ [] := fun z => ne (List.map_eq_nil_iff.mp z)
        have c : ∀ p ∈ [u, v], PB 30 p := fun p hp => by
          rcases List.mem_cons.mp hp with z | z
          · rw [z]; exact bu
          · rw [List.mem_singleton.mp z]; exact bv
        generalize hLL : H.map pD = L at i1 e2 e3 ll Ln ⊢
        simp only [dSeq, dNext, dRet, dIf, dDrop, dAsg, dgName, dgNil, dgCons, dgTup, dPar, dPar3, dOwn, dApp, dFrz, dVar, dC, dOp, dI, dI0, dB0, dNeg, dTup, dLst, dBoolT, dAndT, dOrT, dNotT, dAndV, dOrV, dNotV, dCall, dCall0, dB, dIsi, dRepr, dAbs, dInt1, dInt2, dAll, dstart, dwipe, clean, Sl.clean, List.map_cons, List.map_nil, List.length_cons, List.length_nil, List.replicate, List.cons_append, List.nil_append, List.set_cons_zero, List.set_cons_succ, List.getElem?_cons_zero, List.getElem?_cons_succ, Nat.reduceAdd, Nat.reduceSub, Nat.add_zero, Nat.zero_add, Nat.add_sub_cancel, Nat.sub_self, atI_0, atI_1, atI_2, atI_3, dLtI, dLeI, dGtI, dGeI, dSub, dFd, dMod, dPow, eAdd_i, eAdd_l, eMul_i, eMul_l, eIx_l, eIx_t, eLen_l, eLen_t, eInt_i, eInt_b, eEq_i, eNe_i, eEq_e, dRaise, dRetX, dTry, dGcd3, dIsB, dChain, dZip, dItT, dItL, dSl, dNoPart, dPart, dChain, dgUnl, dParO, notN_no, notN_t, isN_no, dRev, dParC, dOwnC, dMaxD, dEnum, capD, dLstN, dSlA, dCatT]
        refine ⟨by simp; omega, ?_⟩
        rw [show (0 : Int) + (i : Int) = (i : Int) by omega, i1]
        dsimp only
        rw [e2]
        refine ⟨Ln, Tn, ll, ?_⟩
        rw [e3]
        try dsimp only
        rw [i2]
        try dsimp only
        refine ⟨[u, v], ⟨rfl, ⟨30, by decide, c⟩, by simp⟩, ?_⟩
        exact ⟨.val (.int (i : Int)), by simp⟩
      · rintro σ' ⟨x2, rfl⟩
        refine hN _ ⟨x2, ?_⟩
        have ez : (((List.range H.length).zip (nx (H ++ H.take 1))).map fun q => (hullP [q.2.1, q.2.2], (-1 : Int))) = (nx (H ++ H.take 1)).map fun e => (hullP [e.1, e.2], -1) := by
          have := zip_snd (List.range H.length) (nx (H ++ H.take 1)) (by rw [List.length_range, nl])
          conv => rhs; rw [← this]
          rw [List.map_map]; rfl
        rw [ez]
    · rw [if_neg h2] at hN
      refine dIf_not (fun R hR => ?_) (hN _ ⟨_, rfl⟩)
      simp only [dSeq, dNext, dRet, dIf, dDrop, dAsg, dgName, dgNil, dgCons, dgTup, dPar, dPar3, dOwn, dApp, dFrz, dVar, dC, dOp, dI, dI0, dB0, dNeg, dTup, dLst, dBoolT, dAndT, dOrT, dNotT, dAndV, dOrV, dNotV, dCall, dCall0, dB, dIsi, dRepr, dAbs, dInt1, dInt2, dAll, dstart, dwipe, clean, Sl.clean, List.map_cons, List.map_nil, List.length_cons, List.length_nil, List.replicate, List.cons_append, List.nil_append, List.set_cons_zero, List.set_cons_succ, List.getElem?_cons_zero, List.getElem?_cons_succ, Nat.reduceAdd, Nat.reduceSub, Nat.add_zero, Nat.zero_add, Nat.add_sub_cancel, Nat.sub_self, atI_0, atI_1, atI_2, atI_3, dLtI, dLeI, dGtI, dGeI, dSub, dFd, dMod, dPow, eAdd_i, eAdd_l, eMul_i, eMul_l, eIx_l, eIx_t, eLen_l, eLen_t, eInt_i, eInt_b, eEq_i, eNe_i, eEq_e, dRaise, dRetX, dTry, dGcd3, dIsB, dChain, dZip, dItT, dItL, dSl, dNoPart, dPart, dChain, dgUnl, dParO, notN_no, notN_t, isN_no, dRev, dParC, dOwnC, dMaxD, dEnum, capD, dLstN, List.length_map]
      rw [decide_eq_false (by omega)]
      exact hR
  rintro σ3 ⟨x2, rfl⟩
  obtain ⟨sg, e1, e2⟩ := due_sign ne
  rw [← e2] at h
  have rl : ((H, (1 : Int)) :: if 2 < H.length then (nx (H ++ H.take 1)).map fun e => (hullP [e.1, e.2], -1) else []).length ≤ 1000 := by
    split <;> simp <;> omega
  generalize ((H, (1 : Int)) :: if 2 < H.length then (nx (H ++ H.take 1)).map fun e => (hullP [e.1, e.2], -1) else []) = rows at h rl ⊢
  have e1' : L2.atI [PyData.int 0, .int 0, .int (0 - 1), .int 1] (if (3 : Int) < ((H.map pD).length : Int) then 3 else ((H.map pD).length : Int)) = some (.int sg) := by
    rw [List.length_map]; exact e1
  simp only [dFrz, List.getElem?_cons_succ, List.getElem?_cons_zero, List.set_cons_succ, List.set_cons_zero]
  refine dSeq_g (fun σ => σ = [.val (.tuple (H.map pD)), .val (.list (rows.map rowD)), x2, .val (.int sg), .emp]) ?_ ?_
  · intro N hN
    simp only [dSeq, dNext, dRet, dIf, dDrop, dAsg, dgName, dgNil, dgCons, dgTup, dPar, dPar3, dOwn, dApp, dFrz, dVar, dC, dOp, dI, dI0, dB0, dNeg, dTup, dLst, dBoolT, dAndT, dOrT, dNotT, dAndV, dOrV, dNotV, dCall, dCall0, dB, dIsi, dRepr, dAbs, dInt1, dInt2, dAll, dstart, dwipe, clean, Sl.clean, List.map_cons, List.map_nil, List.length_cons, List.length_nil, List.replicate, List.cons_append, List.nil_append, List.set_cons_zero, List.set_cons_succ, List.getElem?_cons_zero, List.getElem?_cons_succ, Nat.reduceAdd, Nat.reduceSub, Nat.add_zero, Nat.zero_add, Nat.add_sub_cancel, Nat.sub_self, atI_0, atI_1, atI_2, atI_3, dLtI, dLeI, dGtI, dGeI, dSub, dFd, dMod, dPow, eAdd_i, eAdd_l, eMul_i, eMul_l, eIx_l, eIx_t, eLen_l, eLen_t, eInt_i, eInt_b, eEq_i, eNe_i, eEq_e, dRaise, dRetX, dTry, dGcd3, dIsB, dChain, dZip, dItT, dItL, dSl, dNoPart, dPart, dChain, dgUnl, dParO, notN_no, notN_t, isN_no, dRev, dParC, dOwnC, dMaxD, dEnum, capD, dLstN, dInt2]
    rw [e1']
    exact hN _ rfl
  rintro σ4 rfl
  rw [List.map_append, List.map_map] at h
  have rl' : (rows.map rowD).length ≤ 1000 := by rw [List.length_map]; exact rl
  generalize rows.map rowD = R0 at h rl' ⊢
  simp only [dSeq, dNext, dRet, dIf, dDrop, dAsg, dgName, dgNil, dgCons, dgTup, dPar, dPar3, dOwn, dApp, dFrz, dVar, dC, dOp, dI, dI0, dB0, dNeg, dTup, dLst, dBoolT, dAndT, dOrT, dNotT, dAndV, dOrV, dNotV, dCall, dCall0, dB, dIsi, dRepr, dAbs, dInt1, dInt2, dAll, dstart, dwipe, clean, Sl.clean, List.map_cons, List.map_nil, List.length_cons, List.length_nil, List.replicate, List.cons_append, List.nil_append, List.set_cons_zero, List.set_cons_succ, List.getElem?_cons_zero, List.getElem?_cons_succ, Nat.reduceAdd, Nat.reduceSub, Nat.add_zero, Nat.zero_add, Nat.add_sub_cancel, Nat.sub_self, atI_0, atI_1, atI_2, atI_3, dLtI, dLeI, dGtI, dGeI, dSub, dFd, dMod, dPow, eAdd_i, eAdd_l, eMul_i, eMul_l, eIx_l, eIx_t, eLen_l, eLen_t, eInt_i, eInt_b, eEq_i, eNe_i, eEq_e, dRaise, dRetX, dTry, dGcd3, dIsB, dChain, dZip, dItT, dItL, dSl, dNoPart, dPart, dChain, dgUnl, dParO, notN_no, notN_t, isN_no, dRev, dParC, dOwnC, dMaxD, dEnum, capD, dLstN]
  refine dLcc_mt H pD (fun _ => decide (sg ≠ 0)) (fun p => rowD ([p], sg)) (fun R hR => ?_) (by omega) ?_ ?_
  · simp only [dSeq, dNext, dRet, dIf, dDrop, dAsg, dgName, dgNil, dgCons, dgTup, dPar, dPar3, dOwn, dApp, dFrz, dVar, dC, dOp, dI, dI0, dB0, dNeg, dTup, dLst, dBoolT, dAndT, dOrT, dNotT, dAndV, dOrV, dNotV, dCall, dCall0, dB, dIsi, dRepr, dAbs, dInt1, dInt2, dAll, dstart, dwipe, clean, Sl.clean, List.map_cons, List.map_nil, List.length_cons, List.length_nil, List.replicate, List.cons_append, List.nil_append, List.set_cons_zero, List.set_cons_succ, List.getElem?_cons_zero, List.getElem?_cons_succ, Nat.reduceAdd, Nat.reduceSub, Nat.add_zero, Nat.zero_add, Nat.add_sub_cancel, Nat.sub_self, atI_0, atI_1, atI_2, atI_3, dLtI, dLeI, dGtI, dGeI, dSub, dFd, dMod, dPow, eAdd_i, eAdd_l, eMul_i, eMul_l, eIx_l, eIx_t, eLen_l, eLen_t, eInt_i, eInt_b, eEq_i, eNe_i, eEq_e, dRaise, dRetX, dTry, dGcd3, dIsB, dChain, dZip, dItT, dItL, dSl, dNoPart, dPart, dChain, dgUnl, dParO, notN_no, notN_t, isN_no, dRev, dParC, dOwnC, dMaxD, dEnum, capD, dLstN, dItT]
    exact hR
  · intro x hx Q1 Q0 q1 q0
    simp only [dSeq, dNext, dRet, dIf, dDrop, dAsg, dgName, dgNil, dgCons, dgTup, dPar, dPar3, dOwn, dApp, dFrz, dVar, dC, dOp, dI, dI0, dB0, dNeg, dTup, dLst, dBoolT, dAndT, dOrT, dNotT, dAndV, dOrV, dNotV, dCall, dCall0, dB, dIsi, dRepr, dAbs, dInt1, dInt2, dAll, dstart, dwipe, clean, Sl.clean, List.map_cons, List.map_nil, List.length_cons, List.length_nil, List.replicate, List.cons_append, List.nil_append, List.set_cons_zero, List.set_cons_succ, List.getElem?_cons_zero, List.getElem?_cons_succ, Nat.reduceAdd, Nat.reduceSub, Nat.add_zero, Nat.zero_add, Nat.add_sub_cancel, Nat.sub_self, atI_0, atI_1, atI_2, atI_3, dLtI, dLeI, dGtI, dGeI, dSub, dFd, dMod, dPow, eAdd_i, eAdd_l, eMul_i, eMul_l, eIx_l, eIx_t, eLen_l, eLen_t, eInt_i, eInt_b, eEq_i, eNe_i, eEq_e, dRaise, dRetX, dTry, dGcd3, dIsB, dChain, dZip, dItT, dItL, dSl, dNoPart, dPart, dChain, dgUnl, dParO, notN_no, notN_t, isN_no, dRev, dParC, dOwnC, dMaxD, dEnum, capD, dLstN]
    by_cases z : sg = 0
    · refine ifF (by simp [z]) (q0 (by simp [z]))
    · refine ifT (by simp [z]) (q1 (by simp [z]))
  · refine ⟨?_, h⟩
    have := List.length_filter_le (fun _ => decide (sg ≠ 0)) H
    rw [List.length_map]
    omega
theorem ok_l_is_inside (T : Tx K mg base) : DefOk P w K mg base 4 "_law_is_inside" ["_law_plate", "_law_p"] spIsIn := by
  refine defOk T.f_l_is_inside sc_l_is_inside bn_l_is_inside (fun f cdv A outer s H hr hg => (pss_dc (psd_if (pdt_eq hr.units (pd_blt call_len lc_len rfl T.b_len (by decide +kernel) (pda_cons (pd_var 0) pda_nil)) pd_int) (pss_d1 (psd_ret (pd_eq hr.units (pd_ix (pd_var 0) pd_int) (pd_var 1)))) pss_d0)
      (pss_dc (psd_if (pdt_eq hr.units (pd_blt call_len lc_len rfl T.b_len (by decide +kernel) (pda_cons (pd_var 0) pda_nil)) pd_int) (pss_d1 (psd_ret (pd_and (pd_fn (ok_l_has T) hr (by decide) hg (pda_cons (pd_var 0) (pda_cons (pd_var 1) pda_nil))) (pd_one (pd_notin hr.units2 (pd_var 1) (pd_var 0)))))) pss_d0)
      (pss_d1 (psd_ret (pd_blt (cr_all rfl) lc_all rfl T.b_all (by decide +kernel) (pda_cons (pd_new (pdn_lc (own := [("_law_k", 2)]) rfl sc_l_is_inside.nd (pdi_rng1 rfl T.b_range (pda_cons (pd_blt call_len lc_len rfl T.b_len (by decide +kernel) (pda_cons (pd_var 0) pda_nil)) pda_nil)) (blk (N := N_l_is_inside) (sc := defScope s_l_is_inside) (by decide +kernel)) (fun _ _ _ _ _ => pg_name sc_l_is_inside.nd rfl (Or.inl rfl)) (lg_name 2) (sets_name (by decide)) (fun _ _ _ _ _ => (pd_eq hr.units (pd_fn (ok_l_turn T) hr (by decide) hg (pda_cons (pd_ix (pd_var 0) (pd_sub (pd_var 2) pd_int)) (pda_cons (pd_ix (pd_var 0) (pd_var 2)) (pda_cons (pd_var 1) pda_nil)))) pd_int)))) pda_nil))))))) ?_
  rintro ds Qd _ ⟨H, p, k, rfl, hH, hb, hp, hk, hl, h⟩
  have ne := hH.ne
  match H, ne, hH, hb, hl, h with
  | [a], ne, hH, hb, hl, h =>
    simp only [dSeq, dNext, dRet, dIf, dDrop, dAsg, dgName, dgNil, dgCons, dgTup, dPar, dPar3, dOwn, dApp, dFrz, dVar, dC, dOp, dI, dI0, dB0, dNeg, dTup, dLst, dBoolT, dAndT, dOrT, dNotT, dAndV, dOrV, dNotV, dCall, dCall0, dB, dIsi, dRepr, dAbs, dInt1, dInt2, dAll, dstart, dwipe, clean, Sl.clean, List.map_cons, List.map_nil, List.length_cons, List.length_nil, List.replicate, List.cons_append, List.nil_append, List.set_cons_zero, List.set_cons_succ, List.getElem?_cons_zero, List.getElem?_cons_succ, Nat.reduceAdd, Nat.reduceSub, Nat.add_zero, Nat.zero_add, Nat.add_sub_cancel, Nat.sub_self, atI_0, atI_1, atI_2, atI_3, dLtI, dLeI, dGtI, dGeI, dSub, dFd, dMod, dPow, eAdd_i, eAdd_l, eMul_i, eMul_l, eIx_l, eIx_t, eLen_l, eLen_t, eInt_i, eInt_b, eEq_i, eNe_i, eEq_e, dRaise, dRetX, dTry, dGcd3, dIsB, dChain, dZip, dItT, dItL, dSl, dNoPart, dPart, dChain, dgUnl, dParO, notN_no, notN_t, isN_no, dRev, dParC, dOwnC, dMaxD, dEnum, capD, dLstN]
    refine iteT ?_
    exact dEq_pD h
  | [a, b], ne, hH, hb, hl, h =>
    refine dIf_no ?_ ?_
    · intro R hR
      simp only [dSeq, dNext, dRet, dIf, dDrop, dAsg, dgName, dgNil, dgCons, dgTup, dPar, dPar3, dOwn, dApp, dFrz, dVar, dC, dOp, dI, dI0, dB0, dNeg, dTup, dLst, dBoolT, dAndT, dOrT, dNotT, dAndV, dOrV, dNotV, dCall, dCall0, dB, dIsi, dRepr, dAbs, dInt1, dInt2, dAll, dstart, dwipe, clean, Sl.clean, List.map_cons, List.map_nil, List.length_cons, List.length_nil, List.replicate, List.cons_append, List.nil_append, List.set_cons_zero, List.set_cons_succ, List.getElem?_cons_zero, List.getElem?_cons_succ, Nat.reduceAdd, Nat.reduceSub, Nat.add_zero, Nat.zero_add, Nat.add_sub_cancel, Nat.sub_self, atI_0, atI_1, atI_2, atI_3, dLtI, dLeI, dGtI, dGeI, dSub, dFd, dMod, dPow, eAdd_i, eAdd_l, eMul_i, eMul_l, eIx_l, eIx_t, eLen_l, eLen_t, eInt_i, eInt_b, eEq_i, eNe_i, eEq_e, dRaise, dRetX, dTry, dGcd3, dIsB, dChain, dZip, dItT, dItL, dSl, dNoPart, dPart, dChain, dgUnl, dParO, notN_no, notN_t, isN_no, dRev, dParC, dOwnC, dMaxD, dEnum, capD, dLstN]
      rw [decide_eq_false (by simp)]
      exact hR
    have h' : Qd (.bool (hasB [a, b] p && !decide (p ∈ [a, b]))) := h
    generalize hG : [a, b] = G at hH hb hl h' ⊢
    have hG2 : G.length = 2 := by rw [← hG]; rfl
    refine dIf_k true (fun _ => False) (fun R hR => ?_) (fun _ N _ => ?_) (fun z => nomatch z) (fun _ z => z.elim)
    · simp only [dSeq, dNext, dRet, dIf, dDrop, dAsg, dgName, dgNil, dgCons, dgTup, dPar, dPar3, dOwn, dApp, dFrz, dVar, dC, dOp, dI, dI0, dB0, dNeg, dTup, dLst, dBoolT, dAndT, dOrT, dNotT, dAndV, dOrV, dNotV, dCall, dCall0, dB, dIsi, dRepr, dAbs, dInt1, dInt2, dAll, dstart, dwipe, clean, Sl.clean, List.map_cons, List.map_nil, List.length_cons, List.length_nil, List.replicate, List.cons_append, List.nil_append, List.set_cons_zero, List.set_cons_succ, List.getElem?_cons_zero, List.getElem?_cons_succ, Nat.reduceAdd, Nat.reduceSub, Nat.add_zero, Nat.zero_add, Nat.add_sub_cancel, Nat.sub_self, atI_0, atI_1, atI_2, atI_3, dLtI, dLeI, dGtI, dGeI, dSub, dFd, dMod, dPow, eAdd_i, eAdd_l, eMul_i, eMul_l, eIx_l, eIx_t, eLen_l, eLen_t, eInt_i, eInt_b, eEq_i, eNe_i, eEq_e, dRaise, dRetX, dTry, dGcd3, dIsB, dChain, dZip, dItT, dItL, dSl, dNoPart, dPart, dChain, dgUnl, dParO, notN_no, notN_t, isN_no, dRev, dParC, dOwnC, dMaxD, dEnum, capD, dLstN, List.length_map]
      rw [decide_eq_true (by omega)]
      exact hR
    · simp only [dSeq, dNext, dRet, dIf, dDrop, dAsg, dgName, dgNil, dgCons, dgTup, dPar, dPar3, dOwn, dApp, dFrz, dVar, dC, dOp, dI, dI0, dB0, dNeg, dTup, dLst, dBoolT, dAndT, dOrT, dNotT, dAndV, dOrV, dNotV, dCall, dCall0, dB, dIsi, dRepr, dAbs, dInt1, dInt2, dAll, dstart, dwipe, clean, Sl.clean, List.map_cons, List.map_nil, List.length_cons, List.length_nil, List.replicate, List.cons_append, List.nil_append, List.set_cons_zero, List.set_cons_succ, List.getElem?_cons_zero, List.getElem?_cons_succ, Nat.reduceAdd, Nat.reduceSub, Nat.add_zero, Nat.zero_add, Nat.add_sub_cancel, Nat.sub_self, atI_0, atI_1, atI_2, atI_3, dLtI, dLeI, dGtI, dGeI, dSub, dFd, dMod, dPow, eAdd_i, eAdd_l, eMul_i, eMul_l, eIx_l, eIx_t, eLen_l, eLen_t, eInt_i, eInt_b, eEq_i, eNe_i, eEq_e, dRaise, dRetX, dTry, dGcd3, dIsB, dChain, dZip, dItT, dItL, dSl, dNoPart, dPart, dChain, dgUnl, dParO, notN_no, notN_t, isN_no, dRev, dParC, dOwnC, dMaxD, dEnum, capD, dLstN]
      refine ⟨G, p, k, rfl, hH, hb, hp, hk, hl, ?_⟩
      cases z : hasB G p with
      | true =>
        rw [z, Bool.true_and] at h'
        refine iteT ?_
        exact dIn_pT h'
      | false =>
        rw [z, Bool.false_and] at h'
        exact iteF h'
  | a :: b :: c :: r, ne, hH, hb, hl, h =>
    refine dIf_no ?_ ?_
    · intro R hR
      simp only [dSeq, dNext, dRet, dIf, dDrop, dAsg, dgName, dgNil, dgCons, dgTup, dPar, dPar3, dOwn, dApp, dFrz, dVar, dC, dOp, dI, dI0, dB0, dNeg, dTup, dLst, dBoolT, dAndT, dOrT, dNotT, dAndV, dOrV, dNotV, dCall, dCall0, dB, dIsi, dRepr, dAbs, dInt1, dInt2, dAll, dstart, dwipe, clean, Sl.clean, List.map_cons, List.map_nil, List.length_cons, List.length_nil, List.replicate, List.cons_append, List.nil_append, List.set_cons_zero, List.set_cons_succ, List.getElem?_cons_zero, List.getElem?_cons_succ, Nat.reduceAdd, Nat.reduceSub, Nat.add_zero, Nat.zero_add, Nat.add_sub_cancel, Nat.sub_self, atI_0, atI_1, atI_2, atI_3, dLtI, dLeI, dGtI, dGeI, dSub, dFd, dMod, dPow, eAdd_i, eAdd_l, eMul_i, eMul_l, eIx_l, eIx_t, eLen_l, eLen_t, eInt_i, eInt_b, eEq_i, eNe_i, eEq_e, dRaise, dRetX, dTry, dGcd3, dIsB, dChain, dZip, dItT, dItL, dSl, dNoPart, dPart, dChain, dgUnl, dParO, notN_no, notN_t, isN_no, dRev, dParC, dOwnC, dMaxD, dEnum, capD, dLstN]
      rw [decide_eq_false (by simp; omega)]
      exact hR
    refine dIf_no ?_ ?_
    · intro R hR
      simp only [dSeq, dNext, dRet, dIf, dDrop, dAsg, dgName, dgNil, dgCons, dgTup, dPar, dPar3, dOwn, dApp, dFrz, dVar, dC, dOp, dI, dI0, dB0, dNeg, dTup, dLst, dBoolT, dAndT, dOrT, dNotT, dAndV, dOrV, dNotV, dCall, dCall0, dB, dIsi, dRepr, dAbs, dInt1, dInt2, dAll, dstart, dwipe, clean, Sl.clean, List.map_cons, List.map_nil, List.length_cons, List.length_nil, List.replicate, List.cons_append, List.nil_append, List.set_cons_zero, List.set_cons_succ, List.getElem?_cons_zero, List.getElem?_cons_succ, Nat.reduceAdd, Nat.reduceSub, Nat.add_zero, Nat.zero_add, Nat.add_sub_cancel, Nat.sub_self, atI_0, atI_1, atI_2, atI_3, dLtI, dLeI, dGtI, dGeI, dSub, dFd, dMod, dPow, eAdd_i, eAdd_l, eMul_i, eMul_l, eIx_l, eIx_t, eLen_l, eLen_t, eInt_i, eInt_b, eEq_i, eNe_i, eEq_e, dRaise, dRetX, dTry, dGcd3, dIsB, dChain, dZip, dItT, dItL, dSl, dNoPart, dPart, dChain, dgUnl, dParO, notN_no, notN_t, isN_no, dRev, dParC, dOwnC, dMaxD, dEnum, capD, dLstN]
      rw [decide_eq_false (by simp; omega)]
      exact hR
    have key := in_rot (H := a :: b :: c :: r) (by simp) p
    have idx := rot_ix (a :: b :: c :: r) (by simp)
    have rl := rot_len (a :: b :: c :: r) (by simp)
    have rm := rot_mem (a :: b :: c :: r)
    have h' : Qd (.bool (inB (a :: b :: c :: r) p)) := h
    rw [← key] at h'
    clear h key
    generalize hG : a :: b :: c :: r = G at *
    simp only [dSeq, dNext, dRet, dIf, dDrop, dAsg, dgName, dgNil, dgCons, dgTup, dPar, dPar3, dOwn, dApp, dFrz, dVar, dC, dOp, dI, dI0, dB0, dNeg, dTup, dLst, dBoolT, dAndT, dOrT, dNotT, dAndV, dOrV, dNotV, dCall, dCall0, dB, dIsi, dRepr, dAbs, dInt1, dInt2, dAll, dstart, dwipe, clean, Sl.clean, List.map_cons, List.map_nil, List.length_cons, List.length_nil, List.replicate, List.cons_append, List.nil_append, List.set_cons_zero, List.set_cons_succ, List.getElem?_cons_zero, List.getElem?_cons_succ, Nat.reduceAdd, Nat.reduceSub, Nat.add_zero, Nat.zero_add, Nat.add_sub_cancel, Nat.sub_self, atI_0, atI_1, atI_2, atI_3, dLtI, dLeI, dGtI, dGeI, dSub, dFd, dMod, dPow, eAdd_i, eAdd_l, eMul_i, eMul_l, eIx_l, eIx_t, eLen_l, eLen_t, eInt_i, eInt_b, eEq_i, eNe_i, eEq_e, dRaise, dRetX, dTry, dGcd3, dIsB, dChain, dZip, dItT, dItL, dSl, dNoPart, dPart, dChain, dgUnl, dParO, notN_no, notN_t, isN_no, dRev, dParC, dOwnC, dMaxD, dEnum, capD, dLstN]
    refine dLcc_m ((List.range G.length).zip (rot G)) (fun q : Nat × (Pt × Pt) => .int ((0 : Int) + (q.1 : Int))) (fun q => .bool (decide (Int.sign (Pt.o q.2.1 q.2.2 p) = 1))) (fun R hR => ?_) (by rw [List.length_zip, List.length_range]; omega) ?_ ?_
    · simp only [dSeq, dNext, dRet, dIf, dDrop, dAsg, dgName, dgNil, dgCons, dgTup, dPar, dPar3, dOwn, dApp, dFrz, dVar, dC, dOp, dI, dI0, dB0, dNeg, dTup, dLst, dBoolT, dAndT, dOrT, dNotT, dAndV, dOrV, dNotV, dCall, dCall0, dB, dIsi, dRepr, dAbs, dInt1, dInt2, dAll, dstart, dwipe, clean, Sl.clean, List.map_cons, List.map_nil, List.length_cons, List.length_nil, List.replicate, List.cons_append, List.nil_append, List.set_cons_zero, List.set_cons_succ, List.getElem?_cons_zero, List.getElem?_cons_succ, Nat.reduceAdd, Nat.reduceSub, Nat.add_zero, Nat.zero_add, Nat.add_sub_cancel, Nat.sub_self, atI_0, atI_1, atI_2, atI_3, dLtI, dLeI, dGtI, dGeI, dSub, dFd, dMod, dPow, eAdd_i, eAdd_l, eMul_i, eMul_l, eIx_l, eIx_t, eLen_l, eLen_t, eInt_i, eInt_b, eEq_i, eNe_i, eEq_e, dRaise, dRetX, dTry, dGcd3, dIsB, dChain, dZip, dItT, dItL, dSl, dNoPart, dPart, dChain, dgUnl, dParO, notN_no, notN_t, isN_no, dRev, dParC, dOwnC, dMaxD, dEnum, capD, dLstN, dRng1]
      refine ⟨by rw [List.length_map]; omega, ?_⟩
      have e1 : intsD 0 (((G.map pD).length : Nat) : Int).toNat = ((List.range G.length).zip (rot G)).map fun q : Nat × (Pt × Pt) => PyData.int ((0 : Int) + (q.1 : Int)) := by
        rw [Int.toNat_natCast, List.length_map, zip_fst (fun i : Nat => PyData.int ((0 : Int) + (i : Int))) _ _ (by rw [List.length_range, rl])]; rfl
      rw [e1]; exact hR
    · rintro ⟨k, u, v⟩ hq Q hQ
      obtain ⟨i1, i2⟩ := idx k (u, v) (zip_range hq)
      have mm := rm (u, v) (List.of_mem_zip hq).2
      simp only [dSeq, dNext, dRet, dIf, dDrop, dAsg, dgName, dgNil, dgCons, dgTup, dPar, dPar3, dOwn, dApp, dFrz, dVar, dC, dOp, dI, dI0, dB0, dNeg, dTup, dLst, dBoolT, dAndT, dOrT, dNotT, dAndV, dOrV, dNotV, dCall, dCall0, dB, dIsi, dRepr, dAbs, dInt1, dInt2, dAll, dstart, dwipe, clean, Sl.clean, List.map_cons, List.map_nil, List.length_cons, List.length_nil, List.replicate, List.cons_append, List.nil_append, List.set_cons_zero, List.set_cons_succ, List.getElem?_cons_zero, List.getElem?_cons_succ, Nat.reduceAdd, Nat.reduceSub, Nat.add_zero, Nat.zero_add, Nat.add_sub_cancel, Nat.sub_self, atI_0, atI_1, atI_2, atI_3, dLtI, dLeI, dGtI, dGeI, dSub, dFd, dMod, dPow, eAdd_i, eAdd_l, eMul_i, eMul_l, eIx_l, eIx_t, eLen_l, eLen_t, eInt_i, eInt_b, eEq_i, eNe_i, eEq_e, dRaise, dRetX, dTry, dGcd3, dIsB, dChain, dZip, dItT, dItL, dSl, dNoPart, dPart, dChain, dgUnl, dParO, notN_no, notN_t, isN_no, dRev, dParC, dOwnC, dMaxD, dEnum, capD, dLstN]
      rw [show (0 : Int) + (k : Int) - 1 = (k : Int) - 1 by omega, show (0 : Int) + (k : Int) = (k : Int) by omega, i1, i2]
      dsimp only
      exact turn_c (hb u mm.1) (hb v mm.2) hp hk hQ
    · refine all_map ?_
      rw [show (((List.range G.length).zip (rot G)).all fun q => decide (Int.sign (Pt.o q.2.1 q.2.2 p) = 1)) = (rot G).all fun e => decide (Int.sign (Pt.o e.1 e.2 p) = 1) from zip_all (fun e : Pt × Pt => decide (Int.sign (Pt.o e.1 e.2 p) = 1)) (List.range G.length) (rot G) (by rw [List.length_range, rl])]
      exact h'
theorem ok_l_far_pool (T : Tx K mg base) : DefOk P w K mg base 3 "_law_far_pool" ["_law_source", "_law_pool"] spFar := by
  refine defOk T.f_l_far_pool sc_l_far_pool bn_l_far_pool (fun f cdv A outer s H hr hg => (pss_dc (psd_if (pdt_gt (pd_fn (ok_l_pick T) hr (by decide) hg (pda_cons (pd_var 0) (pda_cons pd_int pda_nil))) pd_int) (pss_d1 (psd_ret (pd_var 1))) pss_d0)
      (pss_dc (psd_asg (pd_tup (pda_cons (pd_sub (pd_fn (ok_l_pick T) hr (by decide) hg (pda_cons (pd_var 0) (pda_cons (pd_mulA pd_int (pd_pow pd_int pd_int)) pda_nil))) (pd_pow pd_int pd_int)) (pda_cons (pd_sub (pd_fn (ok_l_pick T) hr (by decide) hg (pda_cons (pd_var 0) (pda_cons (pd_mulA pd_int (pd_pow pd_int pd_int)) pda_nil))) (pd_pow pd_int pd_int)) pda_nil))) (pdg_tup rfl (pdgs_cons (i := 2) sc_l_far_pool.nd rfl (Or.inr rfl) (pdgs_cons (i := 3) sc_l_far_pool.nd rfl (Or.inr rfl) pdgs_nil))))
      (pss_d1 (psd_ret (pd_new (pdn_lc (own := [("_law_x", 4), ("_law_y", 5), ("_law_d", 6)]) rfl sc_l_far_pool.nd (pdi_list (pd_var 1)) (blk (N := N_l_far_pool) (sc := defScope s_l_far_pool) (by decide +kernel)) (fun _ _ _ _ _ => pg_tup rfl (pgs_cons (pg_name (i := 4) sc_l_far_pool.nd rfl (Or.inl rfl)) (pgs_cons (pg_name (i := 5) sc_l_far_pool.nd rfl (Or.inl rfl)) (pgs_cons (pg_name (i := 6) sc_l_far_pool.nd rfl (Or.inl rfl)) pgs_nil)))) (lg_tup (lgs_cons (lgs_cons (lgs_cons lgs_nil))) (dgl_cons (dgl_cons (dgl_cons dgl_nil)))) (sets_tup (sets_cons (by decide) (sets_cons (by decide) (sets_cons (by decide) sets_nil)))) (fun _ _ _ _ _ => (pd_fn (ok_l_place T) hr (by decide) hg (pda_cons (pd_addA (pd_var 4) (pd_mulA (pd_var 2) (pd_var 6))) (pda_cons (pd_addA (pd_var 5) (pd_mulA (pd_var 3) (pd_var 6))) (pda_cons (pd_var 6) pda_nil)))))))))))) ?_
  rintro ds Qd _ ⟨ps, rfl, hb, hl, h⟩
  show dSeq _ _ _ [.val SRC, .val (.list (ps.map pD)), .emp, .emp, .emp, .emp, .emp]
  refine dIf_b ?_ ?_ ?_
  · intro R hR
    simp only [dSeq, dNext, dRet, dIf, dDrop, dAsg, dgName, dgNil, dgCons, dgTup, dPar, dPar3, dOwn, dApp, dFrz, dVar, dC, dOp, dI, dI0, dB0, dNeg, dTup, dLst, dBoolT, dAndT, dOrT, dNotT, dAndV, dOrV, dNotV, dCall, dCall0, dB, dIsi, dRepr, dAbs, dInt1, dInt2, dAll, dstart, dwipe, clean, Sl.clean, List.map_cons, List.map_nil, List.length_cons, List.length_nil, List.replicate, List.cons_append, List.nil_append, List.set_cons_zero, List.set_cons_succ, List.getElem?_cons_zero, List.getElem?_cons_succ, Nat.reduceAdd, Nat.reduceSub, Nat.add_zero, Nat.zero_add, Nat.add_sub_cancel, Nat.sub_self, atI_0, atI_1, atI_2, atI_3, dLtI, dLeI, dGtI, dGeI, dSub, dFd, dMod, dPow, eAdd_i, eAdd_l, eMul_i, eMul_l, eIx_l, eIx_t, eLen_l, eLen_t, eInt_i, eInt_b, eEq_i, eNe_i, eEq_e, dRaise, dRetX, dTry, dGcd3, dIsB, dChain, dZip, dItT, dItL, dSl, dNoPart, dPart, dChain, dgUnl, dParO, notN_no, notN_t, isN_no, dRev, dParC, dOwnC, dMaxD, dEnum, capD, dLstN]
    exact pick (by decide) (by decide) fun k k0 k3 => hR _
  · intro N
    simp only [dSeq, dNext, dRet, dIf, dDrop, dAsg, dgName, dgNil, dgCons, dgTup, dPar, dPar3, dOwn, dApp, dFrz, dVar, dC, dOp, dI, dI0, dB0, dNeg, dTup, dLst, dBoolT, dAndT, dOrT, dNotT, dAndV, dOrV, dNotV, dCall, dCall0, dB, dIsi, dRepr, dAbs, dInt1, dInt2, dAll, dstart, dwipe, clean, Sl.clean, List.map_cons, List.map_nil, List.length_cons, List.length_nil, List.replicate, List.cons_append, List.nil_append, List.set_cons_zero, List.set_cons_succ, List.getElem?_cons_zero, List.getElem?_cons_succ, Nat.reduceAdd, Nat.reduceSub, Nat.add_zero, Nat.zero_add, Nat.add_sub_cancel, Nat.sub_self, atI_0, atI_1, atI_2, atI_3, dLtI, dLeI, dGtI, dGeI, dSub, dFd, dMod, dPow, eAdd_i, eAdd_l, eMul_i, eMul_l, eIx_l, eIx_t, eLen_l, eLen_t, eInt_i, eInt_b, eEq_i, eNe_i, eEq_e, dRaise, dRetX, dTry, dGcd3, dIsB, dChain, dZip, dItT, dItL, dSl, dNoPart, dPart, dChain, dgUnl, dParO, notN_no, notN_t, isN_no, dRev, dParC, dOwnC, dMaxD, dEnum, capD, dLstN]
    exact h ps rfl fun p hp => (hb p hp).mono (by decide) (by decide)
  refine dSeq_g (fun σ => ∃ a b : Int, Bd 20 a ∧ Bd 20 b ∧ σ = [.val SRC, .val (.list (ps.map pD)), .val (.int a), .val (.int b), .emp, .emp, .emp]) ?_ ?_
  · intro N hN
    simp only [dSeq, dNext, dRet, dIf, dDrop, dAsg, dgName, dgNil, dgCons, dgTup, dPar, dPar3, dOwn, dApp, dFrz, dVar, dC, dOp, dI, dI0, dB0, dNeg, dTup, dLst, dBoolT, dAndT, dOrT, dNotT, dAndV, dOrV, dNotV, dCall, dCall0, dB, dIsi, dRepr, dAbs, dInt1, dInt2, dAll, dstart, dwipe, clean, Sl.clean, List.map_cons, List.map_nil, List.length_cons, List.length_nil, List.replicate, List.cons_append, List.nil_append, List.set_cons_zero, List.set_cons_succ, List.getElem?_cons_zero, List.getElem?_cons_succ, Nat.reduceAdd, Nat.reduceSub, Nat.add_zero, Nat.zero_add, Nat.add_sub_cancel, Nat.sub_self, atI_0, atI_1, atI_2, atI_3, dLtI, dLeI, dGtI, dGeI, dSub, dFd, dMod, dPow, eAdd_i, eAdd_l, eMul_i, eMul_l, eIx_l, eIx_t, eLen_l, eLen_t, eInt_i, eInt_b, eEq_i, eNe_i, eEq_e, dRaise, dRetX, dTry, dGcd3, dIsB, dChain, dZip, dItT, dItL, dSl, dNoPart, dPart, dChain, dgUnl, dParO, notN_no, notN_t, isN_no, dRev, dParC, dOwnC, dMaxD, dEnum, capD, dLstN]
    have e6 : (10 : Int) ^ Int.toNat 6 = 1000000 := by decide
    have cp : CPow 10 6 := cpow (by decide) (by decide) (by decide)
    have cm : CMB 2 1000000 := cmb (a := 2) (b := 20) ⟨by decide⟩ ⟨by decide⟩ (by decide)
    have bd : ∀ k : Int, 0 ≤ k → k < 2 * 1000000 → Bd 20 (k - 1000000) := fun k k0 k1 => ⟨by omega⟩
    rw [e6]
    refine ⟨cp, cm, pick (by decide) (by decide) fun k k0 k1 => ⟨cp, cp, cm, pick (by decide) (by decide) fun j j0 j1 => ⟨cp, ?_⟩⟩⟩
    exact hN _ ⟨_, _, bd k k0 k1, bd j j0 j1, rfl⟩
  rintro σ2 ⟨a, b, ha, hb', rfl⟩
  simp only [dSeq, dNext, dRet, dIf, dDrop, dAsg, dgName, dgNil, dgCons, dgTup, dPar, dPar3, dOwn, dApp, dFrz, dVar, dC, dOp, dI, dI0, dB0, dNeg, dTup, dLst, dBoolT, dAndT, dOrT, dNotT, dAndV, dOrV, dNotV, dCall, dCall0, dB, dIsi, dRepr, dAbs, dInt1, dInt2, dAll, dstart, dwipe, clean, Sl.clean, List.map_cons, List.map_nil, List.length_cons, List.length_nil, List.replicate, List.cons_append, List.nil_append, List.set_cons_zero, List.set_cons_succ, List.getElem?_cons_zero, List.getElem?_cons_succ, Nat.reduceAdd, Nat.reduceSub, Nat.add_zero, Nat.zero_add, Nat.add_sub_cancel, Nat.sub_self, atI_0, atI_1, atI_2, atI_3, dLtI, dLeI, dGtI, dGeI, dSub, dFd, dMod, dPow, eAdd_i, eAdd_l, eMul_i, eMul_l, eIx_l, eIx_t, eLen_l, eLen_t, eInt_i, eInt_b, eEq_i, eNe_i, eEq_e, dRaise, dRetX, dTry, dGcd3, dIsB, dChain, dZip, dItT, dItL, dSl, dNoPart, dPart, dChain, dgUnl, dParO, notN_no, notN_t, isN_no, dRev, dParC, dOwnC, dMaxD, dEnum, capD, dLstN]
  refine dLcc_n ps pD pD (fun _ p => PBd 24 2 p) (fun R hR => ?_) (by omega) ?_ ?_
  · simp only [dSeq, dNext, dRet, dIf, dDrop, dAsg, dgName, dgNil, dgCons, dgTup, dPar, dPar3, dOwn, dApp, dFrz, dVar, dC, dOp, dI, dI0, dB0, dNeg, dTup, dLst, dBoolT, dAndT, dOrT, dNotT, dAndV, dOrV, dNotV, dCall, dCall0, dB, dIsi, dRepr, dAbs, dInt1, dInt2, dAll, dstart, dwipe, clean, Sl.clean, List.map_cons, List.map_nil, List.length_cons, List.length_nil, List.replicate, List.cons_append, List.nil_append, List.set_cons_zero, List.set_cons_succ, List.getElem?_cons_zero, List.getElem?_cons_succ, Nat.reduceAdd, Nat.reduceSub, Nat.add_zero, Nat.zero_add, Nat.add_sub_cancel, Nat.sub_self, atI_0, atI_1, atI_2, atI_3, dLtI, dLeI, dGtI, dGeI, dSub, dFd, dMod, dPow, eAdd_i, eAdd_l, eMul_i, eMul_l, eIx_l, eIx_t, eLen_l, eLen_t, eInt_i, eInt_b, eEq_i, eNe_i, eEq_e, dRaise, dRetX, dTry, dGcd3, dIsB, dChain, dZip, dItT, dItL, dSl, dNoPart, dPart, dChain, dgUnl, dParO, notN_no, notN_t, isN_no, dRev, dParC, dOwnC, dMaxD, dEnum, capD, dLstN, dItL]
    exact hR
  · intro u hu Q hQ
    have hu' := hb u hu
    have p1 : Bd 22 (a * u.d) := @bd_mul _ _ _ _ ha hu'.2.2
    have p2 : Bd 22 (b * u.d) := @bd_mul _ _ _ _ hb' hu'.2.2
    have q1 := u.pos
    have ne : u.d ≠ 0 := by omega
    have b1 := bd_add2 (hu'.1.mono (show 4 ≤ 22 by decide)) p1
    have b2 := bd_add2 (hu'.2.1.mono (show 4 ≤ 22 by decide)) p2
    obtain ⟨m, e, hm, _⟩ := pt_of2 ne b1 b2 hu'.2.2
    simp only [dSeq, dNext, dRet, dIf, dDrop, dAsg, dgName, dgNil, dgCons, dgTup, dPar, dPar3, dOwn, dApp, dFrz, dVar, dC, dOp, dI, dI0, dB0, dNeg, dTup, dLst, dBoolT, dAndT, dOrT, dNotT, dAndV, dOrV, dNotV, dCall, dCall0, dB, dIsi, dRepr, dAbs, dInt1, dInt2, dAll, dstart, dwipe, clean, Sl.clean, List.map_cons, List.map_nil, List.length_cons, List.length_nil, List.replicate, List.cons_append, List.nil_append, List.set_cons_zero, List.set_cons_succ, List.getElem?_cons_zero, List.getElem?_cons_succ, Nat.reduceAdd, Nat.reduceSub, Nat.add_zero, Nat.zero_add, Nat.add_sub_cancel, Nat.sub_self, atI_0, atI_1, atI_2, atI_3, dLtI, dLeI, dGtI, dGeI, dSub, dFd, dMod, dPow, eAdd_i, eAdd_l, eMul_i, eMul_l, eIx_l, eIx_t, eLen_l, eLen_t, eInt_i, eInt_b, eEq_i, eNe_i, eEq_e, dRaise, dRetX, dTry, dGcd3, dIsB, dChain, dZip, dItT, dItL, dSl, dNoPart, dPart, dChain, dgUnl, dParO, notN_no, notN_t, isN_no, dRev, dParC, dOwnC, dMaxD, dEnum, capD, dLstN]
    refine ⟨cmb ha hu'.2.2 (by decide), cmb hb' hu'.2.2 (by decide), ?_⟩
    exact spPlc_c b1 b2 (hu'.2.2.mono (by decide)) ne (by decide) e (hQ m (hm.mono (by decide) (by decide)))
  · intro bs F
    exact h bs F.len.symm fun p hp => F.all (R := fun p => PBd 24 2 p) (fun _ _ z => z) p hp
theorem ok_l_more_corners (T : Tx K mg base) : DefOk P w K mg base 6 "_law_more_corners" ["_law_source", "_law_plate", "_law_pool"] spMoreW := by
  refine defOk T.f_l_more_corners sc_l_more_corners bn_l_more_corners (fun f cdv A outer s H hr hg => (pss_dc (psd_par (i := 3) (j := 4) rfl sc_l_more_corners.nd rfl rfl (by decide) rfl rfl (pda_cons (pd_fn (ok_l_draw_plate T) hr (by decide) hg (pda_cons (pd_var 0) (pda_cons (pd_fn (ok_l_draw_pool T) hr (by decide) hg (pda_cons (pd_var 0) (pda_cons pd_int (pda_cons pd_int pda_nil)))) pda_nil))) (pda_cons (pd_lst pda_nil) pda_nil)) rfl)
      (pss_dc (psd_if (pdt_gt (pd_fn (ok_l_pick T) hr (by decide) hg (pda_cons (pd_var 0) (pda_cons pd_int pda_nil))) pd_int) (pss_d1 (psd_ret (pd_var 1))) pss_d0)
      (pss_dc (psd_for PassesOwn.never rfl (pdi_tup (pd_var 1)) (pdg_tup rfl (pdgs_cons (i := 5) sc_l_more_corners.nd rfl (Or.inr rfl) (pdgs_cons (i := 6) sc_l_more_corners.nd rfl (Or.inr rfl) (pdgs_cons (i := 7) sc_l_more_corners.nd rfl (Or.inr rfl) pdgs_nil)))) (pss_d1 (psd_set (i := 4) sc_l_more_corners.nd rfl (Or.inl rfl) (pd_addA (pd_var 4) (pd_new (pdn_lc (own := [("_law_u", 8), ("_law_v", 9), ("_law_e", 10)]) rfl sc_l_more_corners.nd (pdi_tup (pd_var 3)) (blk (N := N_l_more_corners) (sc := defScope s_l_more_corners) (by decide +kernel)) (fun _ _ _ _ _ => pg_tup rfl (pgs_cons (pg_name (i := 8) sc_l_more_corners.nd rfl (Or.inl rfl)) (pgs_cons (pg_name (i := 9) sc_l_more_corners.nd rfl (Or.inl rfl)) (pgs_cons (pg_name (i := 10) sc_l_more_corners.nd rfl (Or.inl rfl)) pgs_nil)))) (lg_tup (lgs_cons (lgs_cons (lgs_cons lgs_nil))) (dgl_cons (dgl_cons (dgl_cons dgl_nil)))) (sets_tup (sets_cons (by decide) (sets_cons (by decide) (sets_cons (by decide) sets_nil)))) (fun _ _ _ _ _ => (pd_fn (ok_l_place T) hr (by decide) hg (pda_cons (pd_addA (pd_mulA (pd_var 5) (pd_var 10)) (pd_mulA (pd_var 8) (pd_var 7))) (pda_cons (pd_addA (pd_mulA (pd_var 6) (pd_var 10)) (pd_mulA (pd_var 9) (pd_var 7))) (pda_cons (pd_mulA (pd_var 7) (pd_var 10)) pda_nil)))))))))))
      (pss_d1 (psd_ret (pd_fn (ok_l_hull T) hr (by decide) hg (pda_cons (pd_var 4) pda_nil)))))))) ?_
  rintro ds Qd _ ⟨H, ps, rfl, hH, hb, hl, h⟩
  show dSeq _ _ _ [.val SRC, .val (.tuple (H.map pD)), .val (.list (ps.map pD)), .emp, .emp, .emp, .emp, .emp, .emp, .emp, .emp]
  refine dSeq_g (fun σ => ∃ G : List Pt, (∀ p ∈ G, PBd 24 2 p) ∧ G.length ≤ 8 ∧ G ≠ [] ∧ σ = [.val SRC, .val (.tuple (H.map pD)), .val (.list (ps.map pD)), .val (.tuple (G.map pD)), .val (.list []), .emp, .emp, .emp, .emp, .emp, .emp]) ?_ ?_
  · intro N hN
    simp only [dSeq, dNext, dRet, dIf, dDrop, dAsg, dgName, dgNil, dgCons, dgTup, dPar, dPar3, dOwn, dApp, dFrz, dVar, dC, dOp, dI, dI0, dB0, dNeg, dTup, dLst, dBoolT, dAndT, dOrT, dNotT, dAndV, dOrV, dNotV, dCall, dCall0, dB, dIsi, dRepr, dAbs, dInt1, dInt2, dAll, dstart, dwipe, clean, Sl.clean, List.map_cons, List.map_nil, List.length_cons, List.length_nil, List.replicate, List.cons_append, List.nil_append, List.set_cons_zero, List.set_cons_succ, List.getElem?_cons_zero, List.getElem?_cons_succ, Nat.reduceAdd, Nat.reduceSub, Nat.add_zero, Nat.zero_add, Nat.add_sub_cancel, Nat.sub_self, atI_0, atI_1, atI_2, atI_3, dLtI, dLeI, dGtI, dGeI, dSub, dFd, dMod, dPow, eAdd_i, eAdd_l, eMul_i, eMul_l, eIx_l, eIx_t, eLen_l, eLen_t, eInt_i, eInt_b, eEq_i, eNe_i, eEq_e, dRaise, dRetX, dTry, dGcd3, dIsB, dChain, dZip, dItT, dItL, dSl, dNoPart, dPart, dChain, dgUnl, dParO, notN_no, notN_t, isN_no, dRev]
    refine ⟨4, 3, rfl, by decide, by decide, by decide, by decide, fun qs ql qb => ⟨qs, rfl, fun z => by rw [z] at ql; simp at ql, by rw [ql]; decide, fun p hp => (qb p hp).mono (by decide) (by decide), fun G g1 g2 g3 => ?_⟩⟩
    exact hN _ ⟨G, g2, g3, g1.ne, rfl⟩
  rintro σ2 ⟨G, gb, gl, gn, rfl⟩
  refine dIf_b ?_ ?_ ?_
  · intro R hR
    simp only [dSeq, dNext, dRet, dIf, dDrop, dAsg, dgName, dgNil, dgCons, dgTup, dPar, dPar3, dOwn, dApp, dFrz, dVar, dC, dOp, dI, dI0, dB0, dNeg, dTup, dLst, dBoolT, dAndT, dOrT, dNotT, dAndV, dOrV, dNotV, dCall, dCall0, dB, dIsi, dRepr, dAbs, dInt1, dInt2, dAll, dstart, dwipe, clean, Sl.clean, List.map_cons, List.map_nil, List.length_cons, List.length_nil, List.replicate, List.cons_append, List.nil_append, List.set_cons_zero, List.set_cons_succ, List.getElem?_cons_zero, List.getElem?_cons_succ, Nat.reduceAdd, Nat.reduceSub, Nat.add_zero, Nat.zero_add, Nat.add_sub_cancel, Nat.sub_self, atI_0, atI_1, atI_2, atI_3, dLtI, dLeI, dGtI, dGeI, dSub, dFd, dMod, dPow, eAdd_i, eAdd_l, eMul_i, eMul_l, eIx_l, eIx_t, eLen_l, eLen_t, eInt_i, eInt_b, eEq_i, eNe_i, eEq_e, dRaise, dRetX, dTry, dGcd3, dIsB, dChain, dZip, dItT, dItL, dSl, dNoPart, dPart, dChain, dgUnl, dParO, notN_no, notN_t, isN_no, dRev]
    exact pick (by decide) (by decide) fun k k0 k3 => hR _
  · intro N
    simp only [dSeq, dNext, dRet, dIf, dDrop, dAsg, dgName, dgNil, dgCons, dgTup, dPar, dPar3, dOwn, dApp, dFrz, dVar, dC, dOp, dI, dI0, dB0, dNeg, dTup, dLst, dBoolT, dAndT, dOrT, dNotT, dAndV, dOrV, dNotV, dCall, dCall0, dB, dIsi, dRepr, dAbs, dInt1, dInt2, dAll, dstart, dwipe, clean, Sl.clean, List.map_cons, List.map_nil, List.length_cons, List.length_nil, List.replicate, List.cons_append, List.nil_append, List.set_cons_zero, List.set_cons_succ, List.getElem?_cons_zero, List.getElem?_cons_succ, Nat.reduceAdd, Nat.reduceSub, Nat.add_zero, Nat.zero_add, Nat.add_sub_cancel, Nat.sub_self, atI_0, atI_1, atI_2, atI_3, dLtI, dLeI, dGtI, dGeI, dSub, dFd, dMod, dPow, eAdd_i, eAdd_l, eMul_i, eMul_l, eIx_l, eIx_t, eLen_l, eLen_t, eInt_i, eInt_b, eEq_i, eNe_i, eEq_e, dRaise, dRetX, dTry, dGcd3, dIsB, dChain, dZip, dItT, dItL, dSl, dNoPart, dPart, dChain, dgUnl, dParO, notN_no, notN_t, isN_no, dRev]
    exact h H hH (fun p hp => (hb p hp).mono (by decide) (by decide)) (by omega)
  refine dFor_m H pD (fun pre σ => ∃ (qs : List Pt) (x5 x6 x7 : Sl), (∀ p ∈ qs, PBd 27 4 p) ∧ qs.length = pre.length * G.length ∧ σ = [.val SRC, .val (.tuple (H.map pD)), .val (.list (ps.map pD)), .val (.tuple (G.map pD)), .val (.list (qs.map pD)), x5, x6, x7, .emp, .emp, .emp]) ?_ ⟨[], _, _, _, by simp, by simp, rfl⟩ ?_ ?_
  · intro R hR
    simp only [dSeq, dNext, dRet, dIf, dDrop, dAsg, dgName, dgNil, dgCons, dgTup, dPar, dPar3, dOwn, dApp, dFrz, dVar, dC, dOp, dI, dI0, dB0, dNeg, dTup, dLst, dBoolT, dAndT, dOrT, dNotT, dAndV, dOrV, dNotV, dCall, dCall0, dB, dIsi, dRepr, dAbs, dInt1, dInt2, dAll, dstart, dwipe, clean, Sl.clean, List.map_cons, List.map_nil, List.length_cons, List.length_nil, List.replicate, List.cons_append, List.nil_append, List.set_cons_zero, List.set_cons_succ, List.getElem?_cons_zero, List.getElem?_cons_succ, Nat.reduceAdd, Nat.reduceSub, Nat.add_zero, Nat.zero_add, Nat.add_sub_cancel, Nat.sub_self, atI_0, atI_1, atI_2, atI_3, dLtI, dLeI, dGtI, dGeI, dSub, dFd, dMod, dPow, eAdd_i, eAdd_l, eMul_i, eMul_l, eIx_l, eIx_t, eLen_l, eLen_t, eInt_i, eInt_b, eEq_i, eNe_i, eEq_e, dRaise, dRetX, dTry, dGcd3, dIsB, dChain, dZip, dItT, dItL, dSl, dNoPart, dPart, dChain, dgUnl, dParO, notN_no, notN_t, isN_no, dRev, dItT]
    exact hR
  · rintro pre u post e σ' ⟨qs, x5, x6, x7, qb, ql, rfl⟩
    have hu := hb u (by rw [e]; simp)
    have hpl : pre.length < H.length := by rw [e]; simp
    have hqs : qs.length ≤ 64 := by rw [ql]; exact Nat.mul_le_mul (show pre.length ≤ 8 by omega) gl
    simp only [dSeq, dNext, dRet, dIf, dDrop, dAsg, dgName, dgNil, dgCons, dgTup, dPar, dPar3, dOwn, dApp, dFrz, dVar, dC, dOp, dI, dI0, dB0, dNeg, dTup, dLst, dBoolT, dAndT, dOrT, dNotT, dAndV, dOrV, dNotV, dCall, dCall0, dB, dIsi, dRepr, dAbs, dInt1, dInt2, dAll, dstart, dwipe, clean, Sl.clean, List.map_cons, List.map_nil, List.length_cons, List.length_nil, List.replicate, List.cons_append, List.nil_append, List.set_cons_zero, List.set_cons_succ, List.getElem?_cons_zero, List.getElem?_cons_succ, Nat.reduceAdd, Nat.reduceSub, Nat.add_zero, Nat.zero_add, Nat.add_sub_cancel, Nat.sub_self, atI_0, atI_1, atI_2, atI_3, dLtI, dLeI, dGtI, dGeI, dSub, dFd, dMod, dPow, eAdd_i, eAdd_l, eMul_i, eMul_l, eIx_l, eIx_t, eLen_l, eLen_t, eInt_i, eInt_b, eEq_i, eNe_i, eEq_e, dRaise, dRetX, dTry, dGcd3, dIsB, dChain, dZip, dItT, dItL, dSl, dNoPart, dPart, dChain, dgUnl, dParO, notN_no, notN_t, isN_no, dRev]
    refine dLcc_n G pD pD (fun _ p => PBd 27 4 p) (fun R hR => ?_) (by omega) ?_ ?_
    · simp only [dSeq, dNext, dRet, dIf, dDrop, dAsg, dgName, dgNil, dgCons, dgTup, dPar, dPar3, dOwn, dApp, dFrz, dVar, dC, dOp, dI, dI0, dB0, dNeg, dTup, dLst, dBoolT, dAndT, dOrT, dNotT, dAndV, dOrV, dNotV, dCall, dCall0, dB, dIsi, dRepr, dAbs, dInt1, dInt2, dAll, dstart, dwipe, clean, Sl.clean, List.map_cons, List.map_nil, List.length_cons, List.length_nil, List.replicate, List.cons_append, List.nil_append, List.set_cons_zero, List.set_cons_succ, List.getElem?_cons_zero, List.getElem?_cons_succ, Nat.reduceAdd, Nat.reduceSub, Nat.add_zero, Nat.zero_add, Nat.add_sub_cancel, Nat.sub_self, atI_0, atI_1, atI_2, atI_3, dLtI, dLeI, dGtI, dGeI, dSub, dFd, dMod, dPow, eAdd_i, eAdd_l, eMul_i, eMul_l, eIx_l, eIx_t, eLen_l, eLen_t, eInt_i, eInt_b, eEq_i, eNe_i, eEq_e, dRaise, dRetX, dTry, dGcd3, dIsB, dChain, dZip, dItT, dItL, dSl, dNoPart, dPart, dChain, dgUnl, dParO, notN_no, notN_t, isN_no, dRev, dItT]
      exact hR
    · intro v hv Q hQ
      have hv' := gb v hv
      have q1 := u.pos
      have q2 := v.pos
      have ne : u.d * v.d ≠ 0 := Int.mul_ne_zero (by omega) (by omega)
      have p1 : Bd 26 (u.x * v.d) := @bd_mul _ _ _ _ hu.1 hv'.2.2
      have p2 : Bd 26 (v.x * u.d) := @bd_mul _ _ _ _ hv'.1 hu.2.2
      have p3 : Bd 26 (u.y * v.d) := @bd_mul _ _ _ _ hu.2.1 hv'.2.2
      have p4 : Bd 26 (v.y * u.d) := @bd_mul _ _ _ _ hv'.2.1 hu.2.2
      have p5 : Bd 4 (u.d * v.d) := @bd_mul _ _ _ _ hu.2.2 hv'.2.2
      obtain ⟨m, e, hm, _⟩ := pt_of2 ne (bd_add2 p1 p2) (bd_add2 p3 p4) p5
      simp only [dSeq, dNext, dRet, dIf, dDrop, dAsg, dgName, dgNil, dgCons, dgTup, dPar, dPar3, dOwn, dApp, dFrz, dVar, dC, dOp, dI, dI0, dB0, dNeg, dTup, dLst, dBoolT, dAndT, dOrT, dNotT, dAndV, dOrV, dNotV, dCall, dCall0, dB, dIsi, dRepr, dAbs, dInt1, dInt2, dAll, dstart, dwipe, clean, Sl.clean, List.map_cons, List.map_nil, List.length_cons, List.length_nil, List.replicate, List.cons_append, List.nil_append, List.set_cons_zero, List.set_cons_succ, List.getElem?_cons_zero, List.getElem?_cons_succ, Nat.reduceAdd, Nat.reduceSub, Nat.add_zero, Nat.zero_add, Nat.add_sub_cancel, Nat.sub_self, atI_0, atI_1, atI_2, atI_3, dLtI, dLeI, dGtI, dGeI, dSub, dFd, dMod, dPow, eAdd_i, eAdd_l, eMul_i, eMul_l, eIx_l, eIx_t, eLen_l, eLen_t, eInt_i, eInt_b, eEq_i, eNe_i, eEq_e, dRaise, dRetX, dTry, dGcd3, dIsB, dChain, dZip, dItT, dItL, dSl, dNoPart, dPart, dChain, dgUnl, dParO, notN_no, notN_t, isN_no, dRev]
      refine ⟨cmb hu.1 hv'.2.2 (by decide), cmb hv'.1 hu.2.2 (by decide), cmb hu.2.1 hv'.2.2 (by decide), cmb hv'.2.1 hu.2.2 (by decide), cmb hu.2.2 hv'.2.2 (by decide), ?_⟩
      exact spPlc_c (bd_add2 p1 p2) (bd_add2 p3 p4) (p5.mono (by decide)) ne (by decide) e (hQ m hm)
    · intro bs F
      have bl := F.len
      have hbs := F.all (R := fun p => PBd 27 4 p) fun _ _ z => z
      refine ⟨by simp; omega, qs ++ bs, _, _, _, fun p hp => (List.mem_append.mp hp).elim (qb p) (hbs p), ?_, by rw [List.map_append]⟩
      rw [List.length_append, List.length_append, ql, ← bl, Nat.add_mul]; simp
  rintro σ' ⟨qs, x5, x6, x7, qb, ql, rfl⟩
  have hqs : qs.length ≤ 64 := by rw [ql]; exact Nat.mul_le_mul hl gl
  have qne : qs ≠ [] := fun z => by
    rw [z] at ql
    have := Nat.mul_pos (List.length_pos_iff.mpr hH.ne) (List.length_pos_iff.mpr gn)
    simp at ql; omega
  obtain ⟨P1, P2, P3⟩ := plate_ok qne
  simp only [dSeq, dNext, dRet, dIf, dDrop, dAsg, dgName, dgNil, dgCons, dgTup, dPar, dPar3, dOwn, dApp, dFrz, dVar, dC, dOp, dI, dI0, dB0, dNeg, dTup, dLst, dBoolT, dAndT, dOrT, dNotT, dAndV, dOrV, dNotV, dCall, dCall0, dB, dIsi, dRepr, dAbs, dInt1, dInt2, dAll, dstart, dwipe, clean, Sl.clean, List.map_cons, List.map_nil, List.length_cons, List.length_nil, List.replicate, List.cons_append, List.nil_append, List.set_cons_zero, List.set_cons_succ, List.getElem?_cons_zero, List.getElem?_cons_succ, Nat.reduceAdd, Nat.reduceSub, Nat.add_zero, Nat.zero_add, Nat.add_sub_cancel, Nat.sub_self, atI_0, atI_1, atI_2, atI_3, dLtI, dLeI, dGtI, dGeI, dSub, dFd, dMod, dPow, eAdd_i, eAdd_l, eMul_i, eMul_l, eIx_l, eIx_t, eLen_l, eLen_t, eInt_i, eInt_b, eEq_i, eNe_i, eEq_e, dRaise, dRetX, dTry, dGcd3, dIsB, dChain, dZip, dItT, dItL, dSl, dNoPart, dPart, dChain, dgUnl, dParO, notN_no, notN_t, isN_no, dRev]
  refine ⟨qs, ⟨rfl, ⟨27, by decide, fun p hp => (qb p hp).pb (by decide)⟩, by omega⟩, ?_⟩
  exact h _ ⟨qs, qne, rfl⟩ (fun p hp => qb p (P2 p hp)) (by omega)
theorem ok_law (T0 : Dfn K mg "law" s_law) : ∃ (f : Addr) (fd : FuncData), mg "law" = some (.ref f) ∧ (∀ (s : Shared) (u : Value), BindsTo s fd ⟨[u], []⟩ [("_law_script", u)]) ∧ ∀ base : Heap, Tx K mg base → FnG P w K mg base 8 f fd ["_law_script"] (spLaw K) := by
  refine lawOkG (G := fun base => Tx K mg base) T0 sc_law bn_law spLaw_len (fun base f cdv A outer s H vs Q T hr hg h => ?_)
  obtain ⟨a, ns, rfl, hsq, hl, hb, hTb, hQ⟩ := h
  obtain ⟨fo, fdo, hmo, kpo, hbo, Fo⟩ := ok_l_open_cells (P := P) (w := w) (base := base) T
  obtain ⟨t2, p2, l2⟩ : PDSs W0 (cxOf CX0 P w K mg base N_law "law" (defScope s_law) f cdv A outer s H E0).nox (defBody s_law).tail _ := (pss_dc (psd_for PassesOwn.never rfl (pdi_rng1 rfl T.b_range (pda_cons pd_int pda_nil)) (pdg_name (i := 2) sc_law.nd rfl (Or.inl rfl)) (pss_dc (psd_set (i := 3) sc_law.nd rfl (Or.inl rfl) (pd_fn (ok_l_far_pool T) hr (by decide) hg (pda_cons (pd_var 1) (pda_cons (pd_fn (ok_l_draw_pool T) hr (by decide) hg (pda_cons (pd_var 1) (pda_cons pd_int (pda_cons pd_int pda_nil)))) pda_nil))))
      (pss_dc (psd_set (i := 4) sc_law.nd rfl (Or.inr rfl) (pd_fn (ok_l_more_corners T) hr (by decide) hg (pda_cons (pd_var 1) (pda_cons (pd_fn (ok_l_draw_plate T) hr (by decide) hg (pda_cons (pd_var 1) (pda_cons (pd_var 3) pda_nil))) (pda_cons (pd_var 3) pda_nil)))))
      (pss_dc (psd_ownC (i := 5) (ok_inside T) hr (by decide) hg sc_law.nd rfl (Or.inl rfl) (pda_cons (pd_var 4) pda_nil))
      (pss_dc (psd_lend 5 (pdt_w (pdw_or (pdt_not (pdt_val (pd_isi kit_list rfl T.b_isinstance (by decide +kernel) rfl T.b_list (by decide +kernel) (pd_var 5)))) (pdw_or1 (pdt_ne hr.units (pd_blt (call_repr hg hr.units) lc_repr rfl T.b_repr (by decide +kernel) (pda_cons (pd_var 5) pda_nil)) (pd_blt (call_repr hg hr.units) lc_repr rfl T.b_repr (by decide +kernel) (pda_cons (pd_fn (ok_l_due T) hr (by decide) hg (pda_cons (pd_var 4) pda_nil)) pda_nil)))))) (pss_d1 (psd_ret pd_bl)))
      (pss_dc (psd_app 5 rfl (Or.inl rfl) pd_non)
      (pss_frz 5 (pss_dc (psd_if (pdt_ne hr.units (pd_fn (ok_inside T) hr (by decide) hg (pda_cons (pd_var 4) pda_nil)) (pd_fn (ok_l_due T) hr (by decide) hg (pda_cons (pd_var 4) pda_nil))) (pss_d1 (psd_ret pd_bl)) pss_d0)
      (pss_dc (psd_set (i := 6) sc_law.nd rfl (Or.inr rfl) (pd_new (pdn_lc (own := [("_law_k", 9)]) rfl sc_law.nd (pdi_rng1 rfl T.b_range (pda_cons (pd_blt call_len lc_len rfl T.b_len (by decide +kernel) (pda_cons (pd_var 4) pda_nil)) pda_nil)) (blk (N := N_law) (sc := defScope s_law) (by decide +kernel)) (fun _ _ _ _ _ => pg_name sc_law.nd rfl (Or.inl rfl)) (lg_name 9) (sets_name (by decide)) (fun _ _ _ _ _ => (pd_fn (ok_l_middle T) hr (by decide) hg (pda_cons (pd_ix (pd_var 4) (pd_var 9)) (pda_cons (pd_ix (pd_var 4) (pd_sub (pd_var 9) pd_int)) pda_nil)))))))
      (pss_dc (psd_set (i := 7) sc_law.nd rfl (Or.inl rfl) (pd_addA (pd_addA (pd_addA (pd_var 3) (pd_ty call_list_of lc_lstOf rfl T.b_list (by decide +kernel) (pda_cons (pd_var 4) pda_nil))) (pd_var 6)) (pd_new (pdn_lc (own := [("_law_p", 8)]) rfl sc_law.nd (pdi_list (pd_var 6)) (blk (N := N_law) (sc := defScope s_law) (by decide +kernel)) (fun _ _ _ _ _ => pg_name sc_law.nd rfl (Or.inl rfl)) (lg_name 8) (sets_name (by decide)) (fun _ _ _ _ _ => (pd_fn (ok_l_middle T) hr (by decide) hg (pda_cons (pd_var 8) (pda_cons (pd_ix (pd_var 4) pd_int) pda_nil))))))))
      (pss_d1 (psd_for PassesOwn.never rfl (pdi_list (pd_addA (pd_var 7) (pd_new (pdn_lc (own := [("_law_p", 8)]) rfl sc_law.nd (pdi_list (pd_var 6)) (blk (N := N_law) (sc := defScope s_law) (by decide +kernel)) (fun _ _ _ _ _ => pg_name sc_law.nd rfl (Or.inl rfl)) (lg_name 8) (sets_name (by decide)) (fun _ _ _ _ _ => (pd_fn (ok_l_middle T) hr (by decide) hg (pda_cons (pd_var 8) (pda_cons (pd_ix (pd_var 6) pd_int) pda_nil)))))))) (pdg_name (i := 8) sc_law.nd rfl (Or.inl rfl)) (pss_d1 (psd_if (pdt_ne hr.units (pd_fn (ok_l_look T) hr (by decide) hg (pda_cons (pd_fn (ok_inside T) hr (by decide) hg (pda_cons (pd_var 4) pda_nil)) (pda_cons (pd_var 8) pda_nil))) (pd_ty call_int1 lc_int rfl T.b_int (by decide +kernel) (pda_cons (pd_fn (ok_l_is_inside T) hr (by decide) hg (pda_cons (pd_var 4) (pda_cons (pd_var 8) pda_nil))) pda_nil))) (pss_d1 (psd_ret pd_bl)) pss_d0))))))))))))))
      (pss_d1 (psd_ret pd_bl)))
  refine ⟨_, pss_cons (ps_set (i := 1) sc_law.nd rfl (Or.inl rfl) (pe_callG Fo (hr.mono (by decide)) hg rfl hmo kpo hbo (pa_cons (pv 0) pa_nil))) p2, ?_⟩
  refine ⟨_, rfl, a, ns, rfl, hsq, hl, hb, fun p c ms l m t H' hp hc hpc sm hc' hp' => ?_⟩
  refine l2 (some (p, c)) (fun z => z = p ∨ z = c) H' H' _ (.emp :: .val SRC :: List.replicate 8 .emp) { nx := fun _ => False, rt := (· = .bool true) } _ (ev_law (.ref a) 8 (hTb.ext sm) hpc hc' hp') ?_ ?_
  · refine dFor_k (intsD 0 4) (fun σ => ∃ x2 x3 x4 x5 x6 x7 x8 x9 : Sl, σ = [.emp, .val SRC, x2, x3, x4, x5, x6, x7, x8, x9]) (fun R h => ⟨by decide, h⟩) ⟨.emp, .emp, .emp, .emp, .emp, .emp, .emp, .emp, rfl⟩ ?_ (fun σ' _ => rfl)
    rintro y0 hy σ' ⟨x2, x3, x4, x5, x6, x7, x8, x9, rfl⟩
    show dSeq _ _ _ _
    refine dSeq_g (fun σ => ∃ ps : List Pt, ∃ x2 x4 x5 x6 x7 x8 x9 : Sl, ps.length = 4 ∧ (∀ p ∈ ps, PBd 24 2 p) ∧ σ = [.emp, .val SRC, x2, .val (.list (ps.map pD)), x4, x5, x6, x7, x8, x9]) ?_ ?_
    · intro N hN
      simp only [dSeq, dNext, dRet, dIf, dDrop, dAsg, dgName, dgNil, dgCons, dgTup, dPar, dPar3, dOwn, dApp, dFrz, dVar, dC, dOp, dI, dI0, dB0, dNeg, dTup, dLst, dBoolT, dAndT, dOrT, dNotT, dAndV, dOrV, dNotV, dCall, dCall0, dB, dIsi, dRepr, dAbs, dInt1, dInt2, dAll, dstart, dwipe, clean, Sl.clean, List.map_cons, List.map_nil, List.length_cons, List.length_nil, List.replicate, List.cons_append, List.nil_append, List.set_cons_zero, List.set_cons_succ, List.getElem?_cons_zero, List.getElem?_cons_succ, Nat.reduceAdd, Nat.reduceSub, Nat.add_zero, Nat.zero_add, Nat.add_sub_cancel, Nat.sub_self, atI_0, atI_1, atI_2, atI_3, dLtI, dLeI, dGtI, dGeI, dSub, dFd, dMod, dPow, eAdd_i, eAdd_l, eMul_i, eMul_l, eIx_l, eIx_t, eLen_l, eLen_t, eInt_i, eInt_b, eEq_i, eNe_i, eEq_e, dRaise, dRetX, dTry, dGcd3, dIsB, dChain, dZip, dItT, dItL, dSl, dNoPart, dPart, dChain, dgUnl, dParO, notN_no, notN_t, isN_no, dRev, dParC, dOwnC, dMaxD, dEnum, capD, dLstN, dFor, dRng1, dItL]
      exact ⟨4, 3, rfl, by decide, by decide, by decide, by decide, fun ps0 pl0 pb0 => ⟨ps0, rfl, pb0, by rw [pl0]; decide, fun ps pl pb => by rw [pl0] at pl; exact hN _ ⟨ps, _, _, _, _, _, _, _, pl, pb, rfl⟩⟩⟩
    rintro σ2 ⟨ps, x2, x4, x5, x6, x7, x8, x9, pl, pb, rfl⟩
    refine dSeq_g (fun σ => ∃ H : List Pt, ∃ x2 x5 x6 x7 x8 x9 : Sl, PlateX H ∧ (∀ p ∈ H, PBd 27 4 p) ∧ H.length ≤ 128 ∧ σ = [.emp, .val SRC, x2, .val (.list (ps.map pD)), .val (.tuple (H.map pD)), x5, x6, x7, x8, x9]) ?_ ?_
    · intro N hN
      simp only [dSeq, dNext, dRet, dIf, dDrop, dAsg, dgName, dgNil, dgCons, dgTup, dPar, dPar3, dOwn, dApp, dFrz, dVar, dC, dOp, dI, dI0, dB0, dNeg, dTup, dLst, dBoolT, dAndT, dOrT, dNotT, dAndV, dOrV, dNotV, dCall, dCall0, dB, dIsi, dRepr, dAbs, dInt1, dInt2, dAll, dstart, dwipe, clean, Sl.clean, List.map_cons, List.map_nil, List.length_cons, List.length_nil, List.replicate, List.cons_append, List.nil_append, List.set_cons_zero, List.set_cons_succ, List.getElem?_cons_zero, List.getElem?_cons_succ, Nat.reduceAdd, Nat.reduceSub, Nat.add_zero, Nat.zero_add, Nat.add_sub_cancel, Nat.sub_self, atI_0, atI_1, atI_2, atI_3, dLtI, dLeI, dGtI, dGeI, dSub, dFd, dMod, dPow, eAdd_i, eAdd_l, eMul_i, eMul_l, eIx_l, eIx_t, eLen_l, eLen_t, eInt_i, eInt_b, eEq_i, eNe_i, eEq_e, dRaise, dRetX, dTry, dGcd3, dIsB, dChain, dZip, dItT, dItL, dSl, dNoPart, dPart, dChain, dgUnl, dParO, notN_no, notN_t, isN_no, dRev, dParC, dOwnC, dMaxD, dEnum, capD, dLstN, dFor, dRng1, dItL]
      refine ⟨ps, rfl, fun z => by rw [z] at pl; simp at pl, by rw [pl]; decide, pb, fun G g1 g2 g3 => ?_⟩
      exact ⟨G, ps, rfl, g1, g2, g3, fun H h1 h2 h3 => hN _ ⟨H, _, _, _, _, _, _, h1, h2, h3, rfl⟩⟩
    rintro σ2 ⟨H, x2, x5, x6, x7, x8, x9, hH, hb, hl, rfl⟩
    have hne := hH.ne
    have hok := hH.ok
    have hpos : 0 < H.length := List.length_pos_iff.mpr hne
    have hb27 : ∀ x ∈ H, PB 27 x := fun x hx => (hb x hx).pb (by decide)
    have hb30 : ∀ x ∈ H, PB 30 x := fun x hx => (hb27 x hx).mono (by decide)
    have il := (inside_sum hne).1
    have isum := (inside_sum hne).2
    have im := fun r (hr : r ∈ insideL H) => inside_mem hne hok hr
    refine dSeq_g (fun σ => ∃ a : Addr, ∃ x2 x6 x7 x8 x9 : Sl, σ = [.emp, .val SRC, x2, .val (.list (ps.map pD)), .val (.tuple (H.map pD)), .own a ((insideL H).map rowD), x6, x7, x8, x9]) ?_ ?_
    · intro N hN
      simp only [dSeq, dNext, dRet, dIf, dDrop, dAsg, dgName, dgNil, dgCons, dgTup, dPar, dPar3, dOwn, dApp, dFrz, dVar, dC, dOp, dI, dI0, dB0, dNeg, dTup, dLst, dBoolT, dAndT, dOrT, dNotT, dAndV, dOrV, dNotV, dCall, dCall0, dB, dIsi, dRepr, dAbs, dInt1, dInt2, dAll, dstart, dwipe, clean, Sl.clean, List.map_cons, List.map_nil, List.length_cons, List.length_nil, List.replicate, List.cons_append, List.nil_append, List.set_cons_zero, List.set_cons_succ, List.getElem?_cons_zero, List.getElem?_cons_succ, Nat.reduceAdd, Nat.reduceSub, Nat.add_zero, Nat.zero_add, Nat.add_sub_cancel, Nat.sub_self, atI_0, atI_1, atI_2, atI_3, dLtI, dLeI, dGtI, dGeI, dSub, dFd, dMod, dPow, eAdd_i, eAdd_l, eMul_i, eMul_l, eIx_l, eIx_t, eLen_l, eLen_t, eInt_i, eInt_b, eEq_i, eNe_i, eEq_e, dRaise, dRetX, dTry, dGcd3, dIsB, dChain, dZip, dItT, dItL, dSl, dNoPart, dPart, dChain, dgUnl, dParO, notN_no, notN_t, isN_no, dRev, dParC, dOwnC, dMaxD, dEnum, capD, dLstN, dFor, dRng1, dItL]
      exact ⟨(insideL H).map rowD, lf_rows _, ⟨lf_plate H, H, rfl, hne, hb30, by omega, rfl⟩, fun a => hN _ ⟨a, _, _, _, _, _, rfl⟩⟩
    rintro σ2 ⟨a, x2, x6, x7, x8, x9, rfl⟩
    have rk : rOk (.list ((insideL H).map rowD)) := rOk_rows (k := 30) (by decide) (fun r hr => ⟨fun x hx => hb30 x ((im r hr).2.1 x hx), ⟨Nat.lt_of_le_of_lt (im r hr).2.2.1 (by decide +kernel)⟩⟩) (by omega)
    refine dSeq_g (fun σ => ∃ a : Addr, ∃ x2 x6 x7 x8 x9 : Sl, σ = [.emp, .val SRC, x2, .val (.list (ps.map pD)), .val (.tuple (H.map pD)), .own a ((insideL H).map rowD), x6, x7, x8, x9]) ?_ ?_
    · intro N hN
      refine ⟨_, _, rfl, ?_⟩
      simp only [dSeq, dNext, dRet, dIf, dDrop, dAsg, dgName, dgNil, dgCons, dgTup, dPar, dPar3, dOwn, dApp, dFrz, dVar, dC, dOp, dI, dI0, dB0, dNeg, dTup, dLst, dBoolT, dAndT, dOrT, dNotT, dAndV, dOrV, dNotV, dCall, dCall0, dB, dIsi, dRepr, dAbs, dInt1, dInt2, dAll, dstart, dwipe, clean, Sl.clean, List.map_cons, List.map_nil, List.length_cons, List.length_nil, List.replicate, List.cons_append, List.nil_append, List.set_cons_zero, List.set_cons_succ, List.getElem?_cons_zero, List.getElem?_cons_succ, Nat.reduceAdd, Nat.reduceSub, Nat.add_zero, Nat.zero_add, Nat.add_sub_cancel, Nat.sub_self, atI_0, atI_1, atI_2, atI_3, dLtI, dLeI, dGtI, dGeI, dSub, dFd, dMod, dPow, eAdd_i, eAdd_l, eMul_i, eMul_l, eIx_l, eIx_t, eLen_l, eLen_t, eInt_i, eInt_b, eEq_i, eNe_i, eEq_e, dRaise, dRetX, dTry, dGcd3, dIsB, dChain, dZip, dItT, dItL, dSl, dNoPart, dPart, dChain, dgUnl, dParO, notN_no, notN_t, isN_no, dRev, dParC, dOwnC, dMaxD, dEnum, capD, dLstN, dFor, dRng1, dItL, isTy, tyN]
      refine ⟨rk, H, rfl, hne, hb30, by omega, rk, ?_⟩
      with_reducible refine dNe_eq ?_ ?_
      · rfl
      exact iteF (hN _ ⟨a, _, _, _, _, _, rfl⟩)
    rintro σ2 ⟨a, x2, x6, x7, x8, x9, rfl⟩
    refine dSeq_g (fun σ => ∃ a : Addr, ∃ x2 x6 x7 x8 x9 : Sl, σ = [.emp, .val SRC, x2, .val (.list (ps.map pD)), .val (.tuple (H.map pD)), .own a (((insideL H).map rowD) ++ [.none]), x6, x7, x8, x9]) ?_ ?_
    · intro N hN
      simp only [dSeq, dNext, dRet, dIf, dDrop, dAsg, dgName, dgNil, dgCons, dgTup, dPar, dPar3, dOwn, dApp, dFrz, dVar, dC, dOp, dI, dI0, dB0, dNeg, dTup, dLst, dBoolT, dAndT, dOrT, dNotT, dAndV, dOrV, dNotV, dCall, dCall0, dB, dIsi, dRepr, dAbs, dInt1, dInt2, dAll, dstart, dwipe, clean, Sl.clean, List.map_cons, List.map_nil, List.length_cons, List.length_nil, List.replicate, List.cons_append, List.nil_append, List.set_cons_zero, List.set_cons_succ, List.getElem?_cons_zero, List.getElem?_cons_succ, Nat.reduceAdd, Nat.reduceSub, Nat.add_zero, Nat.zero_add, Nat.add_sub_cancel, Nat.sub_self, atI_0, atI_1, atI_2, atI_3, dLtI, dLeI, dGtI, dGeI, dSub, dFd, dMod, dPow, eAdd_i, eAdd_l, eMul_i, eMul_l, eIx_l, eIx_t, eLen_l, eLen_t, eInt_i, eInt_b, eEq_i, eNe_i, eEq_e, dRaise, dRetX, dTry, dGcd3, dIsB, dChain, dZip, dItT, dItL, dSl, dNoPart, dPart, dChain, dgUnl, dParO, notN_no, notN_t, isN_no, dRev, dParC, dOwnC, dMaxD, dEnum, capD, dLstN, dFor, dRng1, dItL]
      exact ⟨by rw [List.length_map]; omega, hN _ ⟨a, _, _, _, _, _, rfl⟩⟩
    rintro σ2 ⟨a, x2, x6, x7, x8, x9, rfl⟩
    simp only [dFrz, List.getElem?_cons_succ, List.getElem?_cons_zero, List.set_cons_succ, List.set_cons_zero]
    refine dIf_no ?_ ?_
    · intro R hR
      simp only [dSeq, dNext, dRet, dIf, dDrop, dAsg, dgName, dgNil, dgCons, dgTup, dPar, dPar3, dOwn, dApp, dFrz, dVar, dC, dOp, dI, dI0, dB0, dNeg, dTup, dLst, dBoolT, dAndT, dOrT, dNotT, dAndV, dOrV, dNotV, dCall, dCall0, dB, dIsi, dRepr, dAbs, dInt1, dInt2, dAll, dstart, dwipe, clean, Sl.clean, List.map_cons, List.map_nil, List.length_cons, List.length_nil, List.replicate, List.cons_append, List.nil_append, List.set_cons_zero, List.set_cons_succ, List.getElem?_cons_zero, List.getElem?_cons_succ, Nat.reduceAdd, Nat.reduceSub, Nat.add_zero, Nat.zero_add, Nat.add_sub_cancel, Nat.sub_self, atI_0, atI_1, atI_2, atI_3, dLtI, dLeI, dGtI, dGeI, dSub, dFd, dMod, dPow, eAdd_i, eAdd_l, eMul_i, eMul_l, eIx_l, eIx_t, eLen_l, eLen_t, eInt_i, eInt_b, eEq_i, eNe_i, eEq_e, dRaise, dRetX, dTry, dGcd3, dIsB, dChain, dZip, dItT, dItL, dSl, dNoPart, dPart, dChain, dgUnl, dParO, notN_no, notN_t, isN_no, dRev, dParC, dOwnC, dMaxD, dEnum, capD, dLstN, dFor, dRng1, dItL]
      refine ⟨H, rfl, hne, hb30, by omega, H, rfl, hne, hb30, by omega, ?_⟩
      exact dNe_eqs rfl (sh_rowsD _) hR
    refine dSeq_g (fun σ => ∃ ms : List Pt, ∃ x2 x5 x7 x8 x9 : Sl, ms.length = H.length ∧ (∀ p ∈ ms, PB 56 p) ∧ σ = [.emp, .val SRC, x2, .val (.list (ps.map pD)), .val (.tuple (H.map pD)), x5, .val (.list (ms.map pD)), x7, x8, x9]) ?_ ?_
    · intro N hN
      simp only [dSeq, dNext, dRet, dIf, dDrop, dAsg, dgName, dgNil, dgCons, dgTup, dPar, dPar3, dOwn, dApp, dFrz, dVar, dC, dOp, dI, dI0, dB0, dNeg, dTup, dLst, dBoolT, dAndT, dOrT, dNotT, dAndV, dOrV, dNotV, dCall, dCall0, dB, dIsi, dRepr, dAbs, dInt1, dInt2, dAll, dstart, dwipe, clean, Sl.clean, List.map_cons, List.map_nil, List.length_cons, List.length_nil, List.replicate, List.cons_append, List.nil_append, List.set_cons_zero, List.set_cons_succ, List.getElem?_cons_zero, List.getElem?_cons_succ, Nat.reduceAdd, Nat.reduceSub, Nat.add_zero, Nat.zero_add, Nat.add_sub_cancel, Nat.sub_self, atI_0, atI_1, atI_2, atI_3, dLtI, dLeI, dGtI, dGeI, dSub, dFd, dMod, dPow, eAdd_i, eAdd_l, eMul_i, eMul_l, eIx_l, eIx_t, eLen_l, eLen_t, eInt_i, eInt_b, eEq_i, eNe_i, eEq_e, dRaise, dRetX, dTry, dGcd3, dIsB, dChain, dZip, dItT, dItL, dSl, dNoPart, dPart, dChain, dgUnl, dParO, notN_no, notN_t, isN_no, dRev, dParC, dOwnC, dMaxD, dEnum, capD, dLstN, dFor, dRng1, dItL]
      refine dLcc_n ((List.range H.length).zip (rot H)) (fun q : Nat × (Pt × Pt) => .int ((0 : Int) + (q.1 : Int))) pD (fun _ m => PB 56 m) (fun R hR => ?_) (by rw [List.length_zip, List.length_range]; omega) ?_ ?_
      · simp only [dSeq, dNext, dRet, dIf, dDrop, dAsg, dgName, dgNil, dgCons, dgTup, dPar, dPar3, dOwn, dApp, dFrz, dVar, dC, dOp, dI, dI0, dB0, dNeg, dTup, dLst, dBoolT, dAndT, dOrT, dNotT, dAndV, dOrV, dNotV, dCall, dCall0, dB, dIsi, dRepr, dAbs, dInt1, dInt2, dAll, dstart, dwipe, clean, Sl.clean, List.map_cons, List.map_nil, List.length_cons, List.length_nil, List.replicate, List.cons_append, List.nil_append, List.set_cons_zero, List.set_cons_succ, List.getElem?_cons_zero, List.getElem?_cons_succ, Nat.reduceAdd, Nat.reduceSub, Nat.add_zero, Nat.zero_add, Nat.add_sub_cancel, Nat.sub_self, atI_0, atI_1, atI_2, atI_3, dLtI, dLeI, dGtI, dGeI, dSub, dFd, dMod, dPow, eAdd_i, eAdd_l, eMul_i, eMul_l, eIx_l, eIx_t, eLen_l, eLen_t, eInt_i, eInt_b, eEq_i, eNe_i, eEq_e, dRaise, dRetX, dTry, dGcd3, dIsB, dChain, dZip, dItT, dItL, dSl, dNoPart, dPart, dChain, dgUnl, dParO, notN_no, notN_t, isN_no, dRev, dParC, dOwnC, dMaxD, dEnum, capD, dLstN, dFor, dRng1, dItL, dRng1]
        refine ⟨by rw [List.length_map]; omega, ?_⟩
        have e1 : intsD 0 (((H.map pD).length : Nat) : Int).toNat = ((List.range H.length).zip (rot H)).map fun q : Nat × (Pt × Pt) => PyData.int ((0 : Int) + (q.1 : Int)) := by
          rw [Int.toNat_natCast, List.length_map, zip_fst (fun i : Nat => PyData.int ((0 : Int) + (i : Int))) _ _ (by rw [List.length_range, rot_len H hne])]; rfl
        rw [e1]; exact hR
      · rintro ⟨k, u, v⟩ hq Q hQ
        obtain ⟨i1, i2⟩ := rot_ix H hne k (u, v) (zip_range hq)
        have mem := rot_mem H (u, v) (List.of_mem_zip hq).2
        generalize H.map pD = L at *
        simp only [dSeq, dNext, dRet, dIf, dDrop, dAsg, dgName, dgNil, dgCons, dgTup, dPar, dPar3, dOwn, dApp, dFrz, dVar, dC, dOp, dI, dI0, dB0, dNeg, dTup, dLst, dBoolT, dAndT, dOrT, dNotT, dAndV, dOrV, dNotV, dCall, dCall0, dB, dIsi, dRepr, dAbs, dInt1, dInt2, dAll, dstart, dwipe, clean, Sl.clean, List.map_cons, List.map_nil, List.length_cons, List.length_nil, List.replicate, List.cons_append, List.nil_append, List.set_cons_zero, List.set_cons_succ, List.getElem?_cons_zero, List.getElem?_cons_succ, Nat.reduceAdd, Nat.reduceSub, Nat.add_zero, Nat.zero_add, Nat.add_sub_cancel, Nat.sub_self, atI_0, atI_1, atI_2, atI_3, dLtI, dLeI, dGtI, dGeI, dSub, dFd, dMod, dPow, eAdd_i, eAdd_l, eMul_i, eMul_l, eIx_l, eIx_t, eLen_l, eLen_t, eInt_i, eInt_b, eEq_i, eNe_i, eEq_e, dRaise, dRetX, dTry, dGcd3, dIsB, dChain, dZip, dItT, dItL, dSl, dNoPart, dPart, dChain, dgUnl, dParO, notN_no, notN_t, isN_no, dRev, dParC, dOwnC, dMaxD, dEnum, capD, dLstN, dFor, dRng1, dItL]
        rw [show (0 : Int) + (k : Int) - 1 = (k : Int) - 1 by omega, show (0 : Int) + (k : Int) = (k : Int) by omega, i1, i2]
        dsimp only
        exact ⟨v, u, 27, 27, rfl, hb27 v mem.2, hb27 u mem.1, by decide, fun m h1 _ _ => hQ m (h1.mono (by decide))⟩
      · intro ms F
        have ml := F.len
        have mb := F.all (R := fun m => PB 56 m) fun _ _ z => z
        rw [List.length_zip, List.length_range, rot_len H hne, Nat.min_self] at ml
        have ml := ml.symm
        exact hN _ ⟨ms, _, _, _, _, _, ml, mb, rfl⟩
    rintro σ2 ⟨ms, x2, x5, x7, x8, x9, ml, mb, rfl⟩
    have mne : ms ≠ [] := fun z => by rw [z] at ml; simp at ml; omega
    obtain ⟨a, r, hG⟩ : ∃ a r, H = a :: r := by cases H with | nil => exact absurd rfl hne | cons a r => exact ⟨a, r, rfl⟩
    obtain ⟨b, t, hM⟩ : ∃ b t, ms = b :: t := by cases ms with | nil => exact absurd rfl mne | cons a r => exact ⟨a, r, rfl⟩
    have a0 : L2.atI (H.map pD) 0 = some (pD a) := by rw [hG, List.map_cons]; exact atI_0
    have b0 : L2.atI (ms.map pD) 0 = some (pD b) := by rw [hM, List.map_cons]; exact atI_0
    have ha : PB 27 a := hb27 a (by rw [hG]; simp)
    have hb56 : PB 56 b := mb b (by rw [hM]; simp)
    clear hG hM
    refine dSeq_g (fun σ => ∃ ws : List Pt, ∃ x2 x5 x8 x9 : Sl, ws.length ≤ 400 ∧ (∀ p ∈ ws, PB 85 p) ∧ σ = [.emp, .val SRC, x2, .val (.list (ps.map pD)), .val (.tuple (H.map pD)), x5, .val (.list (ms.map pD)), .val (.list (ws.map pD)), x8, x9]) ?_ ?_
    · intro N hN
      simp only [dSeq, dNext, dRet, dIf, dDrop, dAsg, dgName, dgNil, dgCons, dgTup, dPar, dPar3, dOwn, dApp, dFrz, dVar, dC, dOp, dI, dI0, dB0, dNeg, dTup, dLst, dBoolT, dAndT, dOrT, dNotT, dAndV, dOrV, dNotV, dCall, dCall0, dB, dIsi, dRepr, dAbs, dInt1, dInt2, dAll, dstart, dwipe, clean, Sl.clean, List.map_cons, List.map_nil, List.length_cons, List.length_nil, List.replicate, List.cons_append, List.nil_append, List.set_cons_zero, List.set_cons_succ, List.getElem?_cons_zero, List.getElem?_cons_succ, Nat.reduceAdd, Nat.reduceSub, Nat.add_zero, Nat.zero_add, Nat.add_sub_cancel, Nat.sub_self, atI_0, atI_1, atI_2, atI_3, dLtI, dLeI, dGtI, dGeI, dSub, dFd, dMod, dPow, eAdd_i, eAdd_l, eMul_i, eMul_l, eIx_l, eIx_t, eLen_l, eLen_t, eInt_i, eInt_b, eEq_i, eNe_i, eEq_e, dRaise, dRetX, dTry, dGcd3, dIsB, dChain, dZip, dItT, dItL, dSl, dNoPart, dPart, dChain, dgUnl, dParO, notN_no, notN_t, isN_no, dRev, dParC, dOwnC, dMaxD, dEnum, capD, dLstN, dFor, dRng1, dItL]
      refine ⟨by simp; omega, by simp; omega, ?_⟩
      generalize hL : H.map pD = L at *
      refine dLcc_n ms pD pD (fun _ m => PB 85 m) (fun R hR => ?_) (by omega) ?_ ?_
      · simp only [dSeq, dNext, dRet, dIf, dDrop, dAsg, dgName, dgNil, dgCons, dgTup, dPar, dPar3, dOwn, dApp, dFrz, dVar, dC, dOp, dI, dI0, dB0, dNeg, dTup, dLst, dBoolT, dAndT, dOrT, dNotT, dAndV, dOrV, dNotV, dCall, dCall0, dB, dIsi, dRepr, dAbs, dInt1, dInt2, dAll, dstart, dwipe, clean, Sl.clean, List.map_cons, List.map_nil, List.length_cons, List.length_nil, List.replicate, List.cons_append, List.nil_append, List.set_cons_zero, List.set_cons_succ, List.getElem?_cons_zero, List.getElem?_cons_succ, Nat.reduceAdd, Nat.reduceSub, Nat.add_zero, Nat.zero_add, Nat.add_sub_cancel, Nat.sub_self, atI_0, atI_1, atI_2, atI_3, dLtI, dLeI, dGtI, dGeI, dSub, dFd, dMod, dPow, eAdd_i, eAdd_l, eMul_i, eMul_l, eIx_l, eIx_t, eLen_l, eLen_t, eInt_i, eInt_b, eEq_i, eNe_i, eEq_e, dRaise, dRetX, dTry, dGcd3, dIsB, dChain, dZip, dItT, dItL, dSl, dNoPart, dPart, dChain, dgUnl, dParO, notN_no, notN_t, isN_no, dRev, dParC, dOwnC, dMaxD, dEnum, capD, dLstN, dFor, dRng1, dItL, dItL]
        exact hR
      · intro x hx Q hQ
        simp only [dSeq, dNext, dRet, dIf, dDrop, dAsg, dgName, dgNil, dgCons, dgTup, dPar, dPar3, dOwn, dApp, dFrz, dVar, dC, dOp, dI, dI0, dB0, dNeg, dTup, dLst, dBoolT, dAndT, dOrT, dNotT, dAndV, dOrV, dNotV, dCall, dCall0, dB, dIsi, dRepr, dAbs, dInt1, dInt2, dAll, dstart, dwipe, clean, Sl.clean, List.map_cons, List.map_nil, List.length_cons, List.length_nil, List.replicate, List.cons_append, List.nil_append, List.set_cons_zero, List.set_cons_succ, List.getElem?_cons_zero, List.getElem?_cons_succ, Nat.reduceAdd, Nat.reduceSub, Nat.add_zero, Nat.zero_add, Nat.add_sub_cancel, Nat.sub_self, atI_0, atI_1, atI_2, atI_3, dLtI, dLeI, dGtI, dGeI, dSub, dFd, dMod, dPow, eAdd_i, eAdd_l, eMul_i, eMul_l, eIx_l, eIx_t, eLen_l, eLen_t, eInt_i, eInt_b, eEq_i, eNe_i, eEq_e, dRaise, dRetX, dTry, dGcd3, dIsB, dChain, dZip, dItT, dItL, dSl, dNoPart, dPart, dChain, dgUnl, dParO, notN_no, notN_t, isN_no, dRev, dParC, dOwnC, dMaxD, dEnum, capD, dLstN, dFor, dRng1, dItL]
        rw [a0]
        dsimp only
        exact ⟨x, a, 56, 27, rfl, mb x hx, ha, by decide, fun m h1 _ _ => hQ m (h1.mono (by decide))⟩
      · intro ns F
        have nl := F.len
        have nb := F.all (R := fun m => PB 85 m) fun _ _ z => z
        subst hL
        refine ⟨by simp; omega, ?_⟩
        have eq : ps.map pD ++ H.map pD ++ ms.map pD ++ ns.map pD = (ps ++ H ++ ms ++ ns).map pD := by simp
        rw [eq]
        have hw : ∀ x ∈ ps ++ H ++ ms ++ ns, PB 85 x := fun x hx => by
          simp only [List.mem_append] at hx
          rcases hx with ((hx | hx) | hx) | hx
          · exact ((pb x hx).pb (by decide)).mono (by decide)
          · exact (hb27 x hx).mono (by decide)
          · exact (mb x hx).mono (by decide)
          · exact nb x hx
        have hwl : (ps ++ H ++ ms ++ ns).length ≤ 400 := by simp only [List.length_append]; omega
        generalize ps ++ H ++ ms ++ ns = ws at hw hwl
        exact hN _ ⟨ws, _, _, _, _, hwl, hw, rfl⟩
    rintro σ2 ⟨ws, x2, x5, x8, x9, hwl, hw, rfl⟩
    refine dFor_last ?_
    refine dFor_p (fun d => ∃ p : Pt, d = pD p ∧ PB 116 p) (fun σ => ∃ x2 x5 x6 x7 x8 x9 : Sl, σ = [.emp, .val SRC, x2, .val (.list (ps.map pD)), .val (.tuple (H.map pD)), x5, x6, x7, x8, x9]) ?_ ⟨_, _, _, _, _, _, rfl⟩ ?_ ?_
    · intro R hR
      simp only [dSeq, dNext, dRet, dIf, dDrop, dAsg, dgName, dgNil, dgCons, dgTup, dPar, dPar3, dOwn, dApp, dFrz, dVar, dC, dOp, dI, dI0, dB0, dNeg, dTup, dLst, dBoolT, dAndT, dOrT, dNotT, dAndV, dOrV, dNotV, dCall, dCall0, dB, dIsi, dRepr, dAbs, dInt1, dInt2, dAll, dstart, dwipe, clean, Sl.clean, List.map_cons, List.map_nil, List.length_cons, List.length_nil, List.replicate, List.cons_append, List.nil_append, List.set_cons_zero, List.set_cons_succ, List.getElem?_cons_zero, List.getElem?_cons_succ, Nat.reduceAdd, Nat.reduceSub, Nat.add_zero, Nat.zero_add, Nat.add_sub_cancel, Nat.sub_self, atI_0, atI_1, atI_2, atI_3, dLtI, dLeI, dGtI, dGeI, dSub, dFd, dMod, dPow, eAdd_i, eAdd_l, eMul_i, eMul_l, eIx_l, eIx_t, eLen_l, eLen_t, eInt_i, eInt_b, eEq_i, eNe_i, eEq_e, dRaise, dRetX, dTry, dGcd3, dIsB, dChain, dZip, dItT, dItL, dSl, dNoPart, dPart, dChain, dgUnl, dParO, notN_no, notN_t, isN_no, dRev, dParC, dOwnC, dMaxD, dEnum, capD, dLstN, dFor, dRng1, dItL, dItL]
      generalize hL : ms.map pD = L at *
      refine dLcc_n ms pD pD (fun _ m => PB 114 m) (fun R hR => ?_) (by omega) ?_ ?_
      · simp only [dSeq, dNext, dRet, dIf, dDrop, dAsg, dgName, dgNil, dgCons, dgTup, dPar, dPar3, dOwn, dApp, dFrz, dVar, dC, dOp, dI, dI0, dB0, dNeg, dTup, dLst, dBoolT, dAndT, dOrT, dNotT, dAndV, dOrV, dNotV, dCall, dCall0, dB, dIsi, dRepr, dAbs, dInt1, dInt2, dAll, dstart, dwipe, clean, Sl.clean, List.map_cons, List.map_nil, List.length_cons, List.length_nil, List.replicate, List.cons_append, List.nil_append, List.set_cons_zero, List.set_cons_succ, List.getElem?_cons_zero, List.getElem?_cons_succ, Nat.reduceAdd, Nat.reduceSub, Nat.add_zero, Nat.zero_add, Nat.add_sub_cancel, Nat.sub_self, atI_0, atI_1, atI_2, atI_3, dLtI, dLeI, dGtI, dGeI, dSub, dFd, dMod, dPow, eAdd_i, eAdd_l, eMul_i, eMul_l, eIx_l, eIx_t, eLen_l, eLen_t, eInt_i, eInt_b, eEq_i, eNe_i, eEq_e, dRaise, dRetX, dTry, dGcd3, dIsB, dChain, dZip, dItT, dItL, dSl, dNoPart, dPart, dChain, dgUnl, dParO, notN_no, notN_t, isN_no, dRev, dParC, dOwnC, dMaxD, dEnum, capD, dLstN, dFor, dRng1, dItL, dItL]
        rw [← hL]
        exact hR
      · intro x hx Q hQ
        simp only [dSeq, dNext, dRet, dIf, dDrop, dAsg, dgName, dgNil, dgCons, dgTup, dPar, dPar3, dOwn, dApp, dFrz, dVar, dC, dOp, dI, dI0, dB0, dNeg, dTup, dLst, dBoolT, dAndT, dOrT, dNotT, dAndV, dOrV, dNotV, dCall, dCall0, dB, dIsi, dRepr, dAbs, dInt1, dInt2, dAll, dstart, dwipe, clean, Sl.clean, List.map_cons, List.map_nil, List.length_cons, List.length_nil, List.replicate, List.cons_append, List.nil_append, List.set_cons_zero, List.set_cons_succ, List.getElem?_cons_zero, List.getElem?_cons_succ, Nat.reduceAdd, Nat.reduceSub, Nat.add_zero, Nat.zero_add, Nat.add_sub_cancel, Nat.sub_self, atI_0, atI_1, atI_2, atI_3, dLtI, dLeI, dGtI, dGeI, dSub, dFd, dMod, dPow, eAdd_i, eAdd_l, eMul_i, eMul_l, eIx_l, eIx_t, eLen_l, eLen_t, eInt_i, eInt_b, eEq_i, eNe_i, eEq_e, dRaise, dRetX, dTry, dGcd3, dIsB, dChain, dZip, dItT, dItL, dSl, dNoPart, dPart, dChain, dgUnl, dParO, notN_no, notN_t, isN_no, dRev, dParC, dOwnC, dMaxD, dEnum, capD, dLstN, dFor, dRng1, dItL]
        rw [b0]
        dsimp only
        exact ⟨x, b, 56, 56, rfl, mb x hx, hb56, by decide, fun m h1 _ _ => hQ m (h1.mono (by decide))⟩
      · intro ns F
        have nl := F.len
        have nb := F.all (R := fun m => PB 114 m) fun _ _ z => z
        refine ⟨by simp; omega, ?_⟩
        refine hR _ fun y hy => ?_
        rcases List.mem_append.mp hy with hy | hy
        · obtain ⟨p, hp, rfl⟩ := List.mem_map.mp hy
          exact ⟨p, rfl, (hw p hp).mono (by decide)⟩
        · obtain ⟨p, hp, rfl⟩ := List.mem_map.mp hy
          exact ⟨p, rfl, (nb p hp).mono (by decide)⟩
    · rintro y ⟨p, rfl, hp⟩ σ' ⟨x2, x5, x6, x7, x8, x9, rfl⟩
      have key := look_inside hH p
      generalize hR : insideL H = rows at *
      simp only [dSeq, dNext, dRet, dIf, dDrop, dAsg, dgName, dgNil, dgCons, dgTup, dPar, dPar3, dOwn, dApp, dFrz, dVar, dC, dOp, dI, dI0, dB0, dNeg, dTup, dLst, dBoolT, dAndT, dOrT, dNotT, dAndV, dOrV, dNotV, dCall, dCall0, dB, dIsi, dRepr, dAbs, dInt1, dInt2, dAll, dstart, dwipe, clean, Sl.clean, List.map_cons, List.map_nil, List.length_cons, List.length_nil, List.replicate, List.cons_append, List.nil_append, List.set_cons_zero, List.set_cons_succ, List.getElem?_cons_zero, List.getElem?_cons_succ, Nat.reduceAdd, Nat.reduceSub, Nat.add_zero, Nat.zero_add, Nat.add_sub_cancel, Nat.sub_self, atI_0, atI_1, atI_2, atI_3, dLtI, dLeI, dGtI, dGeI, dSub, dFd, dMod, dPow, eAdd_i, eAdd_l, eMul_i, eMul_l, eIx_l, eIx_t, eLen_l, eLen_t, eInt_i, eInt_b, eEq_i, eNe_i, eEq_e, dRaise, dRetX, dTry, dGcd3, dIsB, dChain, dZip, dItT, dItL, dSl, dNoPart, dPart, dChain, dgUnl, dParO, notN_no, notN_t, isN_no, dRev, dParC, dOwnC, dMaxD, dEnum, capD, dLstN, dFor, dRng1, dItL, dIntF]
      refine ⟨H, rfl, hne, hb30, by omega, rows, p, 116, by rw [hR], fun r hr => ⟨(im r hr).1, fun x hx => (hb30 x ((im r hr).2.1 x hx)).mono (by decide), by have := (im r hr).2.2.2; omega⟩, hp, by decide, by omega, ?_⟩
      refine ⟨H, p, 116, rfl, hok, fun x hx => (hb30 x hx).mono (by decide), hp, by decide, by omega, ?_⟩
      dsimp only
      rw [key]
      refine ifF (by simp) ⟨_, _, _, _, _, _, rfl⟩
    rintro σ2 ⟨x2, x5, x6, x7, x8, x9, rfl⟩
    exact ⟨_, _, _, _, _, _, _, _, rfl⟩
  · refine ⟨fun _ _ _ z _ => z.elim, fun d v H2 z _ _ _ r => ?_, fun _ _ _ z _ => z.elim, fun _ _ _ z _ => z.elim, fun _ _ _ _ z _ => z.elim⟩
    cases z
    cases r
    exact hQ _

end
theorem facts {P : Program} {w : World} {K : PySem.W.Frag} {h : Heap} {mg : Str → Option Value} {f : Addr} (X : K.In h) (G : h.Ns mainGlobals mg) (hfa : mg ("law" : Str) = some (.ref f)) (c : SaysE faL fnL exB K) :
  ∃ fd : FuncData, (∀ (s : Shared) (u : Value), BindsTo s fd ⟨[u], []⟩ [("_law_script", u)]) ∧ ∀ base : Heap, K.In base → base.Ns mainGlobals mg → (∀ p ∈ ([(64, 60)] : List (Addr × Addr)), LamX.TabB base mg p.1 p.2) → FnG P w K mg base 8 f fd ["_law_script"] (spLaw K) := by
  obtain ⟨f', fd, hm, hb, hF⟩ := ok_law (P := P) (w := w) (K := K) (mg := mg) (let ⟨fd, F⟩ := c.d.def_ 28 (d := d_law) rfl; ⟨_, fd, He.glo_ok X G (c.d.fact 28 (f := .glo "law") rfl), toFun F⟩)
  cases hm.symm.trans hfa
  exact ⟨fd, hb, fun base _ _ hT => hF base (tx_of X G c ⟨hT (64, 60) (by simp), by simp [lamTabs], fun p hp e => by simp only [lamTabs, List.mem_cons, List.not_mem_nil, or_false] at hp; (rcases hp with rfl) <;> first | rfl | (exact absurd e (by decide))⟩)⟩
end K18
open PySem PySem.W PyProof.Rows
set_option maxRecDepth 100000 in
set_option maxHeartbeats 0 in
theorem PySem.Challenge.cw_plateheaps_k18_insides_of_plates_holds : PySem.Challenge.rw_plateheaps_k18_insides_of_plates.Holds := by
  w_on; o_law; k_head; (case hw => w_witness2)
  k_fill
  refine PH.walkGT (l := PySem.Challenge.rw_plateheaps_k18_insides_of_plates) (k := 8) (x := "_law_script") (sp := PH.spLaw) (cs := [(64, 60)]) rfl (by decide) rfl ⟨rfl, by decide, by decide⟩ (fun w h Y => ⟨PySem.W.km_in_of Y, fun p hp => ?tb⟩) ?kc ?F ?S
  case tb =>
    simp only [List.mem_cons, List.not_mem_nil, or_false] at hp
    rcases hp with rfl <;> exact PySem.W.km_tabs_of Y _ (by simp)
  case kc =>
    intro q p hp
    simp only [List.mem_cons, List.not_mem_nil, or_false] at hp
    rcases hp with rfl <;> exact ⟨by kernel_rfl, by kernel_rfl⟩
  case S =>
    intro K H a ns hl hb hT hS
    refine ⟨a, ns, rfl, hS, hl, hb, fun p hp => ?_, fun _ => rfl⟩
    simp only [PH.lamTabs, List.mem_cons, List.not_mem_nil, or_false] at hp
    rcases hp with rfl
    · exact LamX.TabS.nil (hT (64, 60) (by simp))
  case F =>
    intro w mg fa h KX G hmg
    exact K18.facts KX G hmg ⟨by unfold He.SaysD; kernel_rfl, by kernel_rfl⟩

import PyProof.Rows.All
import Wide.All
import OpenK.AllK
import Wide.FinOn
import HandS.ForMost
import HandS.Gcd
import HandS.IsInst
import HandS.Wide
import HandS.Style
import HandS.Walk
import HandS.EndBits
import HandS.TryOnly
import HandS.ExcOwn
import PyProof.ReprRoads
import KE.KStateDown
import HandS.More
import HandS.WordsExc
import HandS.Defaults
import HandS.Head0
import HandS.Head1
import HandS.Head2
import HandS.HeadEnd
import HandS.HeadHook1
import HandS.HeadHook2
import HandS.TupAny
import HandS.Flt
import PyProof.ExcBaseAll.ValueError
import HandS.Deep
import KE.DataCmp
import HandS.NoneIn
import PySem.Challenge.RW_plateheaps_k85_ladders
set_option exponentiation.threshold 2000
set_option Elab.async false
set_option linter.all false
set_option maxRecDepth 100000
set_option maxHeartbeats 0
/-! Data in the place of heaps: what a value stands for (Dq), a frame's slots as data (Ev), readings over data and how they come from the layer's readings. -/
namespace PH
open PySem PySem.Spec PyProof.Rows L2

abbrev D := PyData
abbrev Sr := Option (Addr × Addr)
/-- the source of drawn numbers, as a datum -/
abbrev SRC : D := .dict [(.none, .none)]

mutual
inductive Dq (S : Sr) (M : Addr → Prop) (H : Hp) : V → D → Prop
  | non : Dq S M H .non .none
  | bl (b : Bool) : Dq S M H (.bl b) (.bool b)
  | int (i : Int) : Dq S M H (.int i) (.int i)
  | str (x : Str) : Dq S M H (.str x) (.str x)
  | lst {a : Addr} {xs : List V} {ds : List D} : ¬ M a → H a = some (.lst xs) → Dqs S M H xs ds → Dq S M H (.ref a) (.list ds)
  | tup {a : Addr} {xs : List V} {ds : List D} : ¬ M a → H a = some (.tup xs) → Dqs S M H xs ds → Dq S M H (.ref a) (.tuple ds)
  | dic {a : Addr} : ¬ M a → H a = some (.dK []) → Dq S M H (.ref a) (.dict [])
  | src {p c : Addr} : S = some (p, c) → Dq S M H (.ref p) SRC
inductive Dqs (S : Sr) (M : Addr → Prop) (H : Hp) : List V → List D → Prop
  | nil : Dqs S M H [] []
  | cons {v : V} {vs : List V} {d : D} {ds : List D} : Dq S M H v d → Dqs S M H vs ds → Dqs S M H (v :: vs) (d :: ds)
end

section
variable {S : Sr} {M M' : Addr → Prop} {H H' : Hp}
mutual
theorem Dq.go (g : ∀ a o, ¬ M a → H a = some o → ¬ M' a ∧ H' a = some o) : ∀ {v : V} {d : D}, Dq S M H v d → Dq S M' H' v d
  | _, _, .non => .non
  | _, _, .bl b => .bl b
  | _, _, .int i => .int i
  | _, _, .str x => .str x
  | _, _, .lst n e r => .lst (g _ _ n e).1 (g _ _ n e).2 (Dqs.go g r)
  | _, _, .tup n e r => .tup (g _ _ n e).1 (g _ _ n e).2 (Dqs.go g r)
  | _, _, .dic n e => .dic (g _ _ n e).1 (g _ _ n e).2
  | _, _, .src e => .src e
theorem Dqs.go (g : ∀ a o, ¬ M a → H a = some o → ¬ M' a ∧ H' a = some o) : ∀ {vs : List V} {ds : List D}, Dqs S M H vs ds → Dqs S M' H' vs ds
  | _, _, .nil => .nil
  | _, _, .cons a b => .cons (Dq.go g a) (Dqs.go g b)
end
theorem Dqs.length : ∀ {vs : List V} {ds : List D}, Dqs S M H vs ds → vs.length = ds.length
  | _, _, .nil => rfl
  | _, _, .cons _ r => by simp [Dqs.length r]
theorem Dqs.get : ∀ {vs : List V} {ds : List D} {i : Nat} {d : D}, Dqs S M H vs ds → ds[i]? = some d → ∃ v, vs[i]? = some v ∧ Dq S M H v d
  | _, _, _, _, .nil, e => by simp at e
  | _, _, 0, _, .cons r _, e => by simp at e; subst e; exact ⟨_, rfl, r⟩
  | _, _, i + 1, d, .cons _ t, e => by
    obtain ⟨u, h1, h2⟩ := Dqs.get (i := i) (d := d) t (by simpa using e)
    exact ⟨u, by simpa using h1, h2⟩
theorem Dqs.getV : ∀ {vs : List V} {ds : List D} {i : Nat} {v : V}, Dqs S M H vs ds → vs[i]? = some v → ∃ d, ds[i]? = some d ∧ Dq S M H v d
  | _, _, _, _, .nil, e => by simp at e
  | _, _, 0, _, .cons r _, e => by simp at e; subst e; exact ⟨_, rfl, r⟩
  | _, _, i + 1, v, .cons _ t, e => by
    obtain ⟨u, h1, h2⟩ := Dqs.getV (i := i) (v := v) t (by simpa using e)
    exact ⟨u, by simpa using h1, h2⟩
theorem Dqs.append : ∀ {vs ws : List V} {ds es : List D}, Dqs S M H vs ds → Dqs S M H ws es → Dqs S M H (vs ++ ws) (ds ++ es)
  | _, _, _, _, .nil, s => s
  | _, _, _, _, .cons a b, s => .cons a (Dqs.append b s)
theorem Dqs.take : ∀ {vs : List V} {ds : List D} (n : Nat), Dqs S M H vs ds → Dqs S M H (vs.take n) (ds.take n)
  | _, _, 0, _ => .nil
  | _, _, _ + 1, .nil => .nil
  | _, _, n + 1, .cons r t => .cons r (Dqs.take n t)
theorem Dqs.drop : ∀ {vs : List V} {ds : List D} (n : Nat), Dqs S M H vs ds → Dqs S M H (vs.drop n) (ds.drop n)
  | _, _, 0, r => r
  | _, _, _ + 1, .nil => .nil
  | _, _, n + 1, .cons _ t => Dqs.drop n t
theorem Dqs.rev {vs : List V} {ds : List D} (h : Dqs S M H vs ds) : Dqs S M H vs.reverse ds.reverse := by
  induction vs generalizing ds with
  | nil => cases h; exact .nil
  | cons v r ih =>
    cases h with
    | cons a b => rw [List.reverse_cons, List.reverse_cons]; exact (ih b).append (.cons a .nil)
theorem Dqs.rep {v : V} {d : D} (h : Dq S M H v d) : ∀ n, Dqs S M H (List.replicate n v) (List.replicate n d)
  | 0 => .nil
  | n + 1 => .cons h (Dqs.rep h n)
end

/-- the source stands as it should -/
def srcKvs (c : Addr) (l m t : Int) : List (Key × V) := [(.inr "cells", .ref c), (.inr "left", .int l), (.inr "mixed", .int m), (.inr "turn", .int t)]
def SrcOk (S : Sr) (M : Addr → Prop) (H : Hp) : Prop := ∀ p c, S = some (p, c) → M p ∧ M c ∧ p ≠ c ∧ ∃ (ns : List Int) (l m t : Int), H c = some (.lst (ns.map V.int)) ∧ H p = some (.dK (srcKvs c l m t))
/-- all but the source is kept -/
def KeepS (S : Sr) (H H' : Hp) : Prop := ∀ a o, H a = some o → (∀ p c, S = some (p, c) → a ≠ p ∧ a ≠ c) → H' a = some o
theorem KeepS.refl {S : Sr} {H : Hp} : KeepS S H H := fun _ _ e _ => e
theorem KeepS.trans {S : Sr} {H H1 H2 : Hp} (a : KeepS S H H1) (b : KeepS S H1 H2) : KeepS S H H2 := fun c o e n => b c o (a c o e n) n
theorem KeepS.of {S : Sr} {H H' : Hp} (h : Same H H') : KeepS S H H' := fun a o e _ => h a o e
theorem SrcOk.same {S : Sr} {M : Addr → Prop} {H H' : Hp} (x : SrcOk S M H) (h : Same H H') : SrcOk S M H' := fun p c e => by
  obtain ⟨a, b, n, ns, l, m, t, h1, h2⟩ := x p c e
  exact ⟨a, b, n, ns, l, m, t, h _ _ h1, h _ _ h2⟩
theorem Same.upd {H : Hp} {p : Addr} {o : HO} (h : H p = none) : Same H (upd H p o) := fun b u e => by
  rw [upd_ne (ne_of_none e h)]; exact e

/-! ### slots -/
inductive Sl where
  | emp | val (d : D) | own (a : Addr) (ds : List D)
abbrev DSt := List Sl
def MO (M : Addr → Prop) (σd : DSt) : Addr → Prop := fun a => M a ∨ ∃ ds, Sl.own a ds ∈ σd
def SlR (S : Sr) (M : Addr → Prop) (H : Hp) (o : Option V) : Sl → Prop
  | .emp => True
  | .val d => ∃ v, o = some v ∧ Dq S M H v d
  | .own a ds => o = some (.ref a) ∧ ∃ xs, H a = some (.lst xs) ∧ Dqs S M H xs ds
structure Ev (S : Sr) (M : Addr → Prop) (H0 H : Hp) (σ : L2.St) (σd : DSt) : Prop where
  len : σd.length = σ.length
  sl : ∀ (i : Nat) (o : Option V) (s : Sl), σ[i]? = some o → σd[i]? = some s → SlR S (MO M σd) H o s
  uni : ∀ (i j : Nat) (a : Addr) (ds es : List D), σd[i]? = some (.own a ds) → σd[j]? = some (.own a es) → i = j
  new : ∀ a ds, Sl.own a ds ∈ σd → H0 a = none
  src : SrcOk S M H
  src0 : ∀ p c, S = some (p, c) → H0 p ≠ none ∧ H0 c ≠ none
  keep : KeepS S H0 H
  mt : ∀ a, M a → H a ≠ none
  mt0 : ∀ a, M a → H0 a ≠ none
section
variable {S : Sr} {M : Addr → Prop} {H0 H H' : Hp} {σ : L2.St} {σd : DSt}
theorem Ev.kp (E : Ev S M H0 H σ σd) (k : KeepS S H H') : ∀ a o, ¬ MO M σd a → H a = some o → ¬ MO M σd a ∧ H' a = some o := fun a o n e =>
  ⟨n, k a o e fun p c q => by
    obtain ⟨hp, hc, _⟩ := E.src p c q
    exact ⟨fun z => n (.inl (z ▸ hp)), fun z => n (.inl (z ▸ hc))⟩⟩
theorem Ev.dq (E : Ev S M H0 H σ σd) (k : KeepS S H H') {v : V} {d : D} (h : Dq S (MO M σd) H v d) : Dq S (MO M σd) H' v d := h.go (E.kp k)
theorem Ev.dqs (E : Ev S M H0 H σ σd) (k : KeepS S H H') {vs : List V} {ds : List D} (h : Dqs S (MO M σd) H vs ds) : Dqs S (MO M σd) H' vs ds := h.go (E.kp k)
theorem Ev.slot (E : Ev S M H0 H σ σd) {i : Nat} {s : Sl} (h : σd[i]? = some s) : ∃ o, σ[i]? = some o ∧ SlR S (MO M σd) H o s := by
  have hi : i < σ.length := by rw [← E.len]; exact (List.getElem?_eq_some_iff.mp h).1
  exact ⟨σ[i], List.getElem?_eq_getElem hi, E.sl i _ s (List.getElem?_eq_getElem hi) h⟩
theorem Ev.ownNe (E : Ev S M H0 H σ σd) {a : Addr} {ds : List D} (h : Sl.own a ds ∈ σd) : ∀ p c, S = some (p, c) → a ≠ p ∧ a ≠ c := fun p c q =>
  ⟨fun z => (E.src0 p c q).1 (z ▸ E.new a ds h), fun z => (E.src0 p c q).2 (z ▸ E.new a ds h)⟩
theorem Ev.mtO (E : Ev S M H0 H σ σd) : ∀ a, MO M σd a → H a ≠ none := fun a h => by
  rcases h with h | ⟨ds, h⟩
  · exact E.mt a h
  · obtain ⟨i, hi⟩ := List.getElem?_of_mem h
    obtain ⟨o, _, _, xs, e, _⟩ := E.slot hi
    rw [e]; exact fun z => nomatch z
/-- the heap grows, the source may change -/
theorem Ev.ext (E : Ev S M H0 H σ σd) (k : KeepS S H H') (s : SrcOk S M H') : Ev S M H0 H' σ σd where
  len := E.len
  sl := fun i o sl h1 h2 => by
    have q := E.sl i o sl h1 h2
    cases sl with
    | emp => trivial
    | val d => obtain ⟨v, e, q⟩ := q; exact ⟨v, e, E.dq k q⟩
    | own a ds =>
      obtain ⟨e, xs, h, q⟩ := q
      exact ⟨e, xs, k a _ h (E.ownNe (List.mem_of_getElem? h2)), E.dqs k q⟩
  uni := E.uni
  new := E.new
  src := s
  src0 := E.src0
  keep := E.keep.trans k
  mt := fun a h => by
    by_cases z : ∃ p c, S = some (p, c) ∧ (a = p ∨ a = c)
    · obtain ⟨p, c, q, z⟩ := z
      obtain ⟨_, _, _, ns, l, m, t, h1, h2⟩ := s p c q
      rcases z with z | z
      · rw [z, h2]; exact fun z => nomatch z
      · rw [z, h1]; exact fun z => nomatch z
    · cases e : H a with
      | none => exact absurd e (E.mt a h)
      | some o =>
        rw [k a o e fun p c q => ⟨fun y => z ⟨p, c, q, .inl y⟩, fun y => z ⟨p, c, q, .inr y⟩⟩]
        exact fun z => nomatch z
  mt0 := E.mt0
theorem Ev.same (E : Ev S M H0 H σ σd) (k : Same H H') : Ev S M H0 H' σ σd := E.ext (.of k) (E.src.same k)
/-- a slot is set to a datum -/
theorem Ev.put (E : Ev S M H0 H σ σd) {i : Nat} {v : V} {d : D} (q : Dq S (MO M σd) H v d) : Ev S M H0 H (σ.set i (some v)) (σd.set i (.val d)) := by
  have sub : ∀ a, MO M (σd.set i (.val d)) a → MO M σd a := fun a h => by
    rcases h with h | ⟨ds, h⟩
    · exact .inl h
    · rcases List.mem_or_eq_of_mem_set h with h | h
      · exact .inr ⟨ds, h⟩
      · cases h
  have g : ∀ a o, ¬ MO M σd a → H a = some o → ¬ MO M (σd.set i (.val d)) a ∧ H a = some o := fun a o n e => ⟨fun z => n (sub a z), e⟩
  have ow : ∀ {j : Nat} {a : Addr} {ds : List D}, (σd.set i (.val d))[j]? = some (Sl.own a ds) → σd[j]? = some (Sl.own a ds) := fun {j a ds} h => by
    rw [List.getElem?_set] at h
    split at h
    · first
        | cases h
        | (split at h <;> cases h)
    · exact h
  refine ⟨by rw [List.length_set, List.length_set]; exact E.len, fun j o s h1 h2 => ?_, fun j k a ds es h1 h2 => E.uni j k a ds es (ow h1) (ow h2), fun a ds h => ?_, E.src, E.src0, E.keep, E.mt, E.mt0⟩
  · rw [List.getElem?_set] at h1 h2
    by_cases hj : i = j
    · rw [if_pos hj] at h1 h2
      split at h1
      · split at h2
        · cases h1; cases h2
          exact ⟨v, rfl, q.go g⟩
        · cases h2
      · cases h1
    · rw [if_neg hj] at h1 h2
      have z := E.sl j o s h1 h2
      cases s with
      | emp => trivial
      | val d => obtain ⟨w, e, q⟩ := z; exact ⟨w, e, q.go g⟩
      | own a ds => obtain ⟨e, xs, h, q⟩ := z; exact ⟨e, xs, h, q.go g⟩
  · rcases List.mem_or_eq_of_mem_set h with h | h
    · exact E.new a ds h
    · cases h
/-- an own list is given away: from now on it never changes -/
theorem Ev.frz (E : Ev S M H0 H σ σd) {i : Nat} {a : Addr} {ds : List D} (h : σd[i]? = some (.own a ds)) : Ev S M H0 H σ (σd.set i (.val (.list ds))) := by
  have hi : i < σd.length := (List.getElem?_eq_some_iff.mp h).1
  have sub : ∀ b, MO M (σd.set i (.val (.list ds))) b → MO M σd b := fun b h => by
    rcases h with h | ⟨ds, h⟩
    · exact .inl h
    · rcases List.mem_or_eq_of_mem_set h with h | h
      · exact .inr ⟨ds, h⟩
      · cases h
  have g : ∀ b o, ¬ MO M σd b → H b = some o → ¬ MO M (σd.set i (.val (.list ds))) b ∧ H b = some o := fun a o n e => ⟨fun z => n (sub a z), e⟩
  have ow : ∀ {j : Nat} {a : Addr} {es : List D}, (σd.set i (.val (.list ds)))[j]? = some (Sl.own a es) → σd[j]? = some (Sl.own a es) ∧ i ≠ j := fun {j a es} h => by
    rw [List.getElem?_set] at h
    split at h
    · first
        | cases h
        | (split at h <;> cases h)
    · rename_i q; exact ⟨h, q⟩
  have na : ¬ MO M (σd.set i (.val (.list ds))) a := fun z => by
    rcases z with z | ⟨es, z⟩
    · exact E.mt0 a z (E.new a ds (List.mem_of_getElem? h))
    · obtain ⟨j, hj⟩ := List.getElem?_of_mem z
      obtain ⟨h1, h2⟩ := ow hj
      exact h2 (E.uni i j a ds es h h1)
  refine ⟨by rw [List.length_set]; exact E.len, fun j o s h1 h2 => ?_, fun j k a ds es h1 h2 => E.uni j k a ds es (ow h1).1 (ow h2).1, fun b es q => ?_, E.src, E.src0, E.keep, E.mt, E.mt0⟩
  · rw [List.getElem?_set] at h2
    by_cases hj : i = j
    · rw [if_pos hj, if_pos (hj ▸ hi)] at h2
      cases h2
      subst hj
      obtain ⟨e, xs, h3, q⟩ := E.sl i o _ h1 h
      exact ⟨.ref a, e, .lst na h3 (q.go g)⟩
    · rw [if_neg hj] at h2
      have z := E.sl j o s h1 h2
      cases s with
      | emp => trivial
      | val d => obtain ⟨w, e, q⟩ := z; exact ⟨w, e, q.go g⟩
      | own a ds => obtain ⟨e, xs, h, q⟩ := z; exact ⟨e, xs, h, q.go g⟩
  · rcases List.mem_or_eq_of_mem_set q with h | h
    · exact E.new b es h
    · cases h
end
end PH

/-! Readings over data, and how the layer's readings give them. -/
namespace PH
open PySem PySem.Spec L2

abbrev DE := DSt → (D → Prop) → Prop
abbrev DT := DSt → (Bool → Prop) → Prop
abbrev DA := DSt → (List D → Prop) → Prop
structure DEnds where
  nx : DSt → Prop
  rt : D → Prop
  bk : DSt → Prop := fun _ => False
  ct : DSt → Prop := fun _ => False
  rx : Value → DSt → Prop := fun _ _ => False
abbrev DS := DEnds → DSt → Prop

def LE (t : TE) (m : DE) : Prop := ∀ (S : Sr) (M : Addr → Prop) (H0 H : Hp) (σ : L2.St) (σd : DSt) (Qd : D → Prop) (Q : VK), Ev S M H0 H σ σd → m σd Qd →
  (∀ d v H', Qd d → Ev S M H0 H' σ σd → KeepS S H H' → Dq S (MO M σd) H' v d → Q v H') → t σ H Q
def LT (t : TT) (m : DT) : Prop := ∀ (S : Sr) (M : Addr → Prop) (H0 H : Hp) (σ : L2.St) (σd : DSt) (Qd : Bool → Prop) (Q : Bool → Hp → Prop), Ev S M H0 H σ σd → m σd Qd →
  (∀ b H', Qd b → Ev S M H0 H' σ σd → KeepS S H H' → Q b H') → t σ H Q
def LA (n : Nat) (t : TA) (m : DA) : Prop := ∀ (S : Sr) (M : Addr → Prop) (H0 H : Hp) (σ : L2.St) (σd : DSt) (Qd : List D → Prop) (Q : List V → Hp → Prop), Ev S M H0 H σ σd → m σd Qd →
  (∀ ds vs H', Qd ds → Ev S M H0 H' σ σd → KeepS S H H' → Dqs S (MO M σd) H' vs ds → vs.length = n → Q vs H') → t σ H Q
/-- a new list -/
def LN (t : TE) (m : DA) : Prop := ∀ (S : Sr) (M : Addr → Prop) (H0 H : Hp) (σ : L2.St) (σd : DSt) (Qd : List D → Prop) (Q : VK), Ev S M H0 H σ σd → m σd Qd →
  (∀ (ds : List D) (p : Addr) (xs : List V) (H' : Hp), Qd ds → Ev S M H0 H' σ σd → KeepS S H H' → H p = none → H' p = some (.lst xs) → Dqs S (fun a => MO M σd a ∨ a = p) H' xs ds → Q (.ref p) H') → t σ H Q

def PD (X : Cx) (e : Expr) (m : DE) : Prop := ∃ t, PE X e t ∧ LE t m
def PDT (X : Cx) (e : Expr) (m : DT) : Prop := ∃ t, PT X e t ∧ LT t m
def PDW (X : Cx) (e : Expr) (m : DT) : Prop := ∃ t, PW X e t ∧ LT t m
def PDA (X : Cx) (es : List Expr) (n : Nat) (m : DA) : Prop := ∃ t, PA X es t ∧ LA n t m
def PDN (X : Cx) (e : Expr) (m : DA) : Prop := ∃ t, PE X e t ∧ LN t m

/-! ### names and constants -/
def dVar (i : Nat) : DE := fun σd Q => match σd[i]? with
  | some (.val d) => Q d
  | _ => False
theorem le_var (i : Nat) : LE (tVar i) (dVar i) := by
  intro S M H0 H σ σd Qd Q E h k
  unfold dVar at h
  split at h
  · rename_i d e
    obtain ⟨o, e2, v, rfl, q⟩ := E.slot e
    exact ⟨v, e2, k d v H h E .refl q⟩
  · exact h.elim
def dC (d : D) : DE := fun _ Q => Q d
theorem le_c {v : V} {d : D} (h : ∀ S M H, Dq S M H v d) : LE (tC v) (dC d) := fun S M H0 H σ σd Qd Q E q k => k d v H q E .refl (h _ _ _)
section
variable {X : Cx} {e a b c : Expr} {es : List Expr} {pos : Pos}
theorem pd_var (i : Nat) {x : Str} {pos : Pos} (hN : X.N[i]? = some x := by rfl) (hv : Vis X.env.scope x := by first | exact Or.inl rfl | exact Or.inr (Or.inl rfl) | exact Or.inr (Or.inr rfl)) (hd : (x == ("__debug__" : Str)) = false := by decide)
    (hcd : (x == ("__classdict__" : Str)) = false := by decide) : PD X (.Name x pos) (dVar i) := ⟨_, pe_var hN hv hd hcd, le_var i⟩
theorem pd_int {i j pos} : PD X (.Constant (.int i) j pos) (dC (.int i)) := ⟨_, pe_int, le_c fun _ _ _ => .int i⟩
theorem pd_bl {b j pos} : PD X (.Constant (.bool b) j pos) (dC (.bool b)) := ⟨_, pe_bl, le_c fun _ _ _ => .bl b⟩
theorem pd_non {j pos} : PD X (.Constant .none j pos) (dC .none) := ⟨_, pe_non, le_c fun _ _ _ => .non⟩
theorem pd_str {x j pos} : PD X (.Constant (.str x) j pos) (dC (.str x)) := ⟨_, pe_str, le_c fun _ _ _ => .str x⟩
end

/-! ### operations -/
abbrev DR2 := D → D → (D → Prop) → Prop
def LR (r : R2) (dr : DR2) : Prop := ∀ (S : Sr) (M : Addr → Prop) (H : Hp) (x y : V) (dx dy : D) (Qd : D → Prop) (Q : VK), (∀ a, M a → H a ≠ none) → Dq S M H x dx → Dq S M H y dy → dr dx dy Qd →
  (∀ d v H', Qd d → Same H H' → Dq S M H' v d → Q v H') → r x y H Q
def dOp (dr : DR2) (ma mb : DE) : DE := fun σd Q => ma σd fun x => mb σd fun y => dr x y Q
theorem le_op {r : R2} {dr : DR2} {ta tb : TE} {ma mb : DE} (l : LR r dr) (ha : LE ta ma) (hb : LE tb mb) : LE (tOp r ta tb) (dOp dr ma mb) := by
  intro S M H0 H σ σd Qd Q E h k
  refine ha S M H0 H σ σd _ _ E h fun x v H1 q E1 k1 r1 => ?_
  refine hb S M H0 H1 σ σd _ _ E1 q fun y u H2 q E2 k2 r2 => ?_
  exact l S (MO M σd) H2 v u x y _ _ E2.mtO (E1.dq k2 r1) r2 q fun d w H3 q s r3 => k d w H3 q (E2.same s) (k1.trans (k2.trans (.of s))) r3
def dI (C : Int → Int → Prop) (f : Int → Int → Int) : DR2 := fun x y Q => match x, y with
  | .int i, .int j => C i j ∧ Q (.int (f i j))
  | _, _ => False
def dI0 (f : Int → Int → Int) : DR2 := fun x y Q => match x, y with
  | .int i, .int j => Q (.int (f i j))
  | _, _ => False
def dB0 (f : Int → Int → Bool) : DR2 := fun x y Q => match x, y with
  | .int i, .int j => Q (.bool (f i j))
  | _, _ => False
theorem lr_I {C : Int → Int → Prop} {f : Int → Int → Int} : LR (rI C fun i j => .int (f i j)) (dI C f) := by
  intro S M H x y dx dy Qd Q hm rx ry h k
  cases rx <;> first | exact h.elim | skip
  cases ry <;> first | exact h.elim | skip
  exact ⟨_, _, rfl, rfl, h.1, k _ _ H h.2 (Same.refl _) (.int _)⟩
theorem lr_I0 {f : Int → Int → Int} : LR (rI0 fun i j => .int (f i j)) (dI0 f) := by
  intro S M H x y dx dy Qd Q hm rx ry h k
  cases rx <;> first | exact h.elim | skip
  cases ry <;> first | exact h.elim | skip
  exact ⟨_, _, rfl, rfl, k _ _ H h (Same.refl _) (.int _)⟩
theorem lr_B0 {f : Int → Int → Bool} : LR (rI0 fun i j => .bl (f i j)) (dB0 f) := by
  intro S M H x y dx dy Qd Q hm rx ry h k
  cases rx <;> first | exact h.elim | skip
  cases ry <;> first | exact h.elim | skip
  exact ⟨_, _, rfl, rfl, k _ _ H h (Same.refl _) (.bl _)⟩

theorem mo_sub {M : Addr → Prop} {σd : DSt} {p : Addr} {H : Hp} (hp : H p = none) : ∀ a o, ¬ MO M σd a → H a = some o → ¬ (MO M σd a ∨ a = p) ∧ H a = some o := fun a o n e =>
  ⟨fun z => z.elim n fun y => ne_of_none e hp y, e⟩
/-- the reading of a new list, as a value -/
theorem LN.le {t : TE} {m : DA} (h : LN t m) : LE t (fun σd Q => m σd fun ds => Q (.list ds)) := by
  intro S M H0 H σ σd Qd Q E hm k
  refine h S M H0 H σ σd _ Q E hm fun ds p xs H' q E' k1 hp e r => ?_
  have np : ¬ MO M σd p := fun z => E.mtO p z hp
  exact k _ _ H' q E' k1 (.lst np e (r.go fun a o n e => ⟨fun z => n (.inl z), e⟩))
theorem la_nil : LA 0 tNil (fun _ Q => Q []) := fun S M H0 H σ σd Qd Q E h k => k [] [] H h E .refl .nil rfl
theorem la_cons {n : Nat} {ta : TE} {tr : TA} {ma : DE} {mr : DA} (ha : LE ta ma) (hr : LA n tr mr) : LA (n + 1) (tCons ta tr) (fun σd Q => ma σd fun d => mr σd fun ds => Q (d :: ds)) := by
  intro S M H0 H σ σd Qd Q E h k
  refine ha S M H0 H σ σd _ _ E h fun d v H1 q E1 k1 r1 => ?_
  refine hr S M H0 H1 σ σd _ _ E1 q fun ds vs H2 q E2 k2 r2 hl => ?_
  exact k _ _ H2 q E2 (k1.trans k2) (.cons (E1.dq k2 r1) r2) (by simp [hl])
theorem le_tup {n : Nat} {t : TA} {m : DA} (h : LA n t m) (hn : n ≤ 100000 := by decide) : LE (tTup t) (fun σd Q => m σd fun ds => Q (.tuple ds)) := by
  intro S M H0 H σ σd Qd Q E hm k
  refine h S M H0 H σ σd _ _ E hm fun ds vs H1 q E1 k1 r1 hl => ⟨by rw [hl, sizeLine_eq]; omega, fun p hp => ?_⟩
  have s : Same H1 (upd H1 p (.tup vs)) := Same.upd hp
  have E2 := E1.same s
  exact k _ _ _ q E2 (k1.trans (.of s)) (.tup (fun z => E1.mtO p z hp) upd_same (E1.dqs (.of s) r1))
theorem ln_lst {n : Nat} {t : TA} {m : DA} (h : LA n t m) (hn : n ≤ 100000 := by decide) : LN (tLst t) m := by
  intro S M H0 H σ σd Qd Q E hm k
  refine h S M H0 H σ σd _ _ E hm fun ds vs H1 q E1 k1 r1 hl => ⟨by rw [hl, sizeLine_eq]; omega, fun p hp => ?_⟩
  have s : Same H1 (upd H1 p (.lst vs)) := Same.upd hp
  have E2 := E1.same s
  refine k ds p vs _ q E2 (k1.trans (.of s)) ?_ upd_same (r1.go fun a o n e => ⟨(mo_sub hp a o n e).1, s a o e⟩)
  cases z : H p with
  | none => rfl
  | some o =>
    by_cases w : ∃ p' c', S = some (p', c') ∧ (p = p' ∨ p = c')
    · obtain ⟨p', c', q1, q2⟩ := w
      obtain ⟨_, _, _, ns, l, mm, tt, h1, h2⟩ := E1.src p' c' q1
      rcases q2 with q2 | q2
      · rw [← q2, hp] at h2; cases h2
      · rw [← q2, hp] at h1; cases h1
    · rw [k1 p o z fun p' c' q1 => ⟨fun y => w ⟨p', c', q1, .inl y⟩, fun y => w ⟨p', c', q1, .inr y⟩⟩] at hp
      cases hp
/-! ### tests -/
theorem lt_of {t : TE} {m : DE} (h : LE t m) : LT (tTest t) (fun σd Q => m σd fun d => match d with | .bool b => Q b | _ => False) := by
  intro S M H0 H σ σd Qd Q E hm k
  refine h S M H0 H σ σd _ _ E hm fun d v H1 q E1 k1 r1 => ?_
  cases r1 <;> first | exact q.elim | skip
  exact ⟨_, rfl, k _ H1 q E1 k1⟩
theorem lt_ofB {t : TE} {m : DE} (h : LE t m) : LT (tB t) (fun σd Q => m σd fun d => match d with | .bool b => Q b | _ => False) := lt_of h
theorem lt_and {t u : TT} {m n : DT} (ha : LT t m) (hb : LT u n) : LT (tAnd t u) (fun σd Q => m σd fun b => if b = true then n σd Q else Q false) := by
  intro S M H0 H σ σd Qd Q E h k
  refine ha S M H0 H σ σd _ _ E h fun b H1 q E1 k1 => ?_
  cases b with
  | true => exact hb S M H0 H1 σ σd _ _ E1 (by simpa using q) fun b H2 q E2 k2 => k b H2 q E2 (k1.trans k2)
  | false => exact k false H1 (by simpa using q) E1 k1
theorem lt_or {t u : TT} {m n : DT} (ha : LT t m) (hb : LT u n) : LT (tOr t u) (fun σd Q => m σd fun b => if b = true then Q true else n σd Q) := by
  intro S M H0 H σ σd Qd Q E h k
  refine ha S M H0 H σ σd _ _ E h fun b H1 q E1 k1 => ?_
  cases b with
  | false => exact hb S M H0 H1 σ σd _ _ E1 (by simpa using q) fun b H2 q E2 k2 => k b H2 q E2 (k1.trans k2)
  | true => exact k true H1 (by simpa using q) E1 k1
theorem lt_not {t : TT} {m : DT} (ha : LT t m) : LT (tNot t) (fun σd Q => m σd fun b => Q (!b)) := by
  intro S M H0 H σ σd Qd Q E h k
  exact ha S M H0 H σ σd _ _ E h fun b H1 q E1 k1 => k _ H1 q E1 k1
theorem le_andV {t u : TE} {m n : DE} (ha : LE t m) (hb : LE u n) : LE (tAndV t u) (fun σd Q => m σd fun d => match d with | .bool b => (if b = true then n σd Q else Q (.bool false)) | _ => False) := by
  intro S M H0 H σ σd Qd Q E h k
  refine ha S M H0 H σ σd _ _ E h fun d v H1 q E1 k1 r1 => ?_
  cases r1 <;> first | exact q.elim | skip
  rename_i b
  refine ⟨b, rfl, ?_⟩
  cases b with
  | true => exact hb S M H0 H1 σ σd _ _ E1 (by simpa using q) fun d v H2 q E2 k2 r2 => k d v H2 q E2 (k1.trans k2) r2
  | false => exact k _ _ H1 (by simpa using q) E1 k1 (.bl false)
theorem le_orV {t u : TE} {m n : DE} (ha : LE t m) (hb : LE u n) : LE (tOrV t u) (fun σd Q => m σd fun d => match d with | .bool b => (if b = true then Q (.bool true) else n σd Q) | _ => False) := by
  intro S M H0 H σ σd Qd Q E h k
  refine ha S M H0 H σ σd _ _ E h fun d v H1 q E1 k1 r1 => ?_
  cases r1 <;> first | exact q.elim | skip
  rename_i b
  refine ⟨b, rfl, ?_⟩
  cases b with
  | false => exact hb S M H0 H1 σ σd _ _ E1 (by simpa using q) fun d v H2 q E2 k2 r2 => k d v H2 q E2 (k1.trans k2) r2
  | true => exact k _ _ H1 (by simpa using q) E1 k1 (.bl true)
theorem le_notV {t : TE} {m : DE} (ha : LE t m) : LE (tNotV t) (fun σd Q => m σd fun d => match d with | .bool b => Q (.bool (!b)) | _ => False) := by
  intro S M H0 H σ σd Qd Q E h k
  refine ha S M H0 H σ σd _ _ E h fun d v H1 q E1 k1 r1 => ?_
  cases r1 <;> first | exact q.elim | skip
  exact ⟨_, rfl, k _ _ H1 q E1 k1 (.bl _)⟩
theorem le_if {t : TT} {ta tb : TE} {m : DT} {ma mb : DE} (hc : LT t m) (ha : LE ta ma) (hb : LE tb mb) : LE (tIf t ta tb) (fun σd Q => m σd fun b => if b = true then ma σd Q else mb σd Q) := by
  intro S M H0 H σ σd Qd Q E h k
  refine hc S M H0 H σ σd _ _ E h fun b H1 q E1 k1 => ?_
  cases b with
  | true => exact ha S M H0 H1 σ σd _ _ E1 (by simpa using q) fun d v H2 q E2 k2 r2 => k d v H2 q E2 (k1.trans k2) r2
  | false => exact hb S M H0 H1 σ σd _ _ E1 (by simpa using q) fun d v H2 q E2 k2 r2 => k d v H2 q E2 (k1.trans k2) r2
theorem le_un {r : V → Hp → VK → Prop} {dr : D → (D → Prop) → Prop} {ta : TE} {ma : DE} (l : ∀ (S : Sr) (M : Addr → Prop) (H : Hp) (x : V) (dx : D) (Qd : D → Prop) (Q : VK), Dq S M H x dx → dr dx Qd → (∀ d v, Qd d → Dq S M H v d → Q v H) → r x H Q) (ha : LE ta ma) :
    LE (tUn r ta) (fun σd Q => ma σd fun x => dr x Q) := by
  intro S M H0 H σ σd Qd Q E h k
  refine ha S M H0 H σ σd _ _ E h fun x v H1 q E1 k1 r1 => ?_
  exact l S (MO M σd) H1 v x _ _ r1 q fun d w q r => k d w H1 q E1 k1 r
/-! ### calls of built-ins by values -/
abbrev DRC := List D → (D → Prop) → Prop
def LC (r : List V → Hp → VK → Prop) (dr : DRC) : Prop := ∀ (S : Sr) (M : Addr → Prop) (H : Hp) (xs : List V) (ds : List D) (Qd : D → Prop) (Q : VK), (∀ a, M a → H a ≠ none) → Dqs S M H xs ds → dr ds Qd →
  (∀ d v H', Qd d → Same H H' → Dq S M H' v d → Q v H') → r xs H Q
theorem le_cb {n : Nat} {r : List V → Hp → VK → Prop} {dr : DRC} {t : TA} {m : DA} (l : LC r dr) (h : LA n t m) : LE (tCB r t) (fun σd Q => m σd fun ds => dr ds Q) := by
  intro S M H0 H σ σd Qd Q E hm k
  refine h S M H0 H σ σd _ _ E hm fun ds vs H1 q E1 k1 r1 hl => ?_
  exact l S (MO M σd) H1 vs ds _ _ E1.mtO r1 q fun d v H2 q s r => k d v H2 q (E1.same s) (k1.trans (.of s)) r

/-! ### statements -/
variable {Wx : WX}
/-- nothing is let out -/
def W0 : WX := fun _ _ _ _ => False
def ER (Wx : WX) (S : Sr) (M : Addr → Prop) (H0 : Hp) (Dd : DEnds) (Dn : Ends) : Prop :=
  (∀ σd σ H, Dd.nx σd → Ev S M H0 H σ σd → Dn.nx σ H) ∧ (∀ d v H, Dd.rt d → KeepS S H0 H → SrcOk S M H → (∀ a, M a → H a ≠ none) → Dq S M H v d → Dn.rt v H) ∧
  (∀ σd σ H, Dd.bk σd → Ev S M H0 H σ σd → Dn.bk σ H) ∧ (∀ σd σ H, Dd.ct σd → Ev S M H0 H σ σd → Dn.ct σ H) ∧ (∀ cls σd σ H, Dd.rx cls σd → Ev S M H0 H σ σd → Wx cls none σ H)
def LS (Wx : WX) (t : TS) (m : DS) : Prop := ∀ (S : Sr) (M : Addr → Prop) (H0 H : Hp) (σ : L2.St) (σd : DSt) (Dd : DEnds) (Dn : Ends), Ev S M H0 H σ σd → m Dd σd → ER Wx S M H0 Dd Dn → t Dn σ H
def PDS (Wx : WX) (X : Cx) (st : Stmt) (m : DS) : Prop := ∃ t, PS X st t ∧ LS Wx t m
def PDSs (Wx : WX) (X : Cx) (st : List Stmt) (m : DS) : Prop := ∃ t, PSs X st t ∧ LS Wx t m
def dSeq (m n : DS) : DS := fun Dd σd => m { Dd with nx := n Dd } σd
theorem ls_seq {t u : TS} {m n : DS} (h1 : LS Wx t m) (h2 : LS Wx u n) : LS Wx (tSeq t u) (dSeq m n) := fun S M H0 H σ σd Dd Dn E h r =>
  h1 S M H0 H σ σd _ _ E h ⟨fun σd' σ' H' q E' => h2 S M H0 H' σ' σd' _ _ E' q r, r.2.1, r.2.2.1, r.2.2.2⟩
def dNext : DS := fun Dd σd => Dd.nx σd
theorem ls_next : LS Wx tNext dNext := fun S M H0 H σ σd Dd Dn E h r => r.1 σd σ H h E
theorem ls_break : LS Wx tBreak (fun Dd σd => Dd.bk σd) := fun S M H0 H σ σd Dd Dn E h r => r.2.2.1 σd σ H h E
theorem ls_cont : LS Wx tCont (fun Dd σd => Dd.ct σd) := fun S M H0 H σ σd Dd Dn E h r => r.2.2.2.1 σd σ H h E
def dRet (m : DE) : DS := fun Dd σd => m σd Dd.rt
theorem ls_ret {t : TE} {m : DE} (h : LE t m) : LS Wx (tRet t) (dRet m) := fun S M H0 H σ σd Dd Dn E hm r =>
  h S M H0 H σ σd _ _ E hm fun d v H' q E' k r' => r.2.1 d v H' q E'.keep E'.src E'.mt (r'.go fun a o n e => ⟨fun z => n (.inl z), e⟩)
theorem ls_retN : LS Wx tRetN (fun Dd _ => Dd.rt .none) := fun S M H0 H σ σd Dd Dn E hm r => r.2.1 _ _ H hm E.keep E.src E.mt .non
def dIf (c : DT) (m n : DS) : DS := fun Dd σd => c σd fun b => if b = true then m Dd σd else n Dd σd
theorem ls_if {c : TT} {t u : TS} {dc : DT} {m n : DS} (hc : LT c dc) (h1 : LS Wx t m) (h2 : LS Wx u n) : LS Wx (tIfS c t u) (dIf dc m n) := by
  intro S M H0 H σ σd Dd Dn E h r
  refine hc S M H0 H σ σd _ _ E h fun b H1 q E1 k1 => ?_
  cases b with
  | true => exact h1 S M H0 H1 σ σd _ _ E1 (by simpa using q) r
  | false => exact h2 S M H0 H1 σ σd _ _ E1 (by simpa using q) r
def dDrop (m : DE) : DS := fun Dd σd => m σd fun _ => Dd.nx σd
theorem ls_drop {t : TE} {m : DE} (h : LE t m) : LS Wx (tDrop t) (dDrop m) := fun S M H0 H σ σd Dd Dn E hm r =>
  h S M H0 H σ σd _ _ E hm fun d v H' q E' k _ => r.1 σd σ H' q E'
theorem ls_never : LS Wx tNever (fun _ _ => False) := fun S M H0 H σ σd Dd Dn E hm r => hm.elim
/-! targets -/
abbrev DG := D → DSt → (DSt → Prop) → Prop
abbrev DGs := List D → DSt → (DSt → Prop) → Prop
def LG (g : TG) (dg : DG) : Prop := ∀ (S : Sr) (M : Addr → Prop) (H0 H : Hp) (σ : L2.St) (σd : DSt) (v : V) (d : D) (Qd : DSt → Prop) (Q : L2.St → Hp → Prop), Ev S M H0 H σ σd → Dq S (MO M σd) H v d → dg d σd Qd →
  (∀ σd' σ', Qd σd' → Ev S M H0 H σ' σd' → Q σ' H) → g v σ H Q
def LGs (g : TGs) (dg : DGs) : Prop := ∀ (S : Sr) (M : Addr → Prop) (H0 H : Hp) (σ : L2.St) (σd : DSt) (vs : List V) (ds : List D) (Qd : DSt → Prop) (Q : L2.St → Hp → Prop), Ev S M H0 H σ σd → Dqs S (MO M σd) H vs ds → dg ds σd Qd →
  (∀ σd' σ', Qd σd' → Ev S M H0 H σ' σd' → Q σ' H) → g vs σ H Q
def dgName (i : Nat) : DG := fun d σd Q => Q (σd.set i (.val d))
theorem lg_name (i : Nat) : LG (gName i) (dgName i) := fun S M H0 H σ σd v d Qd Q E r h k => k _ _ h (E.put r)
def dgNil : DGs := fun ds σd Q => match ds with | [] => Q σd | _ => False
theorem lgs_nil : LGs gNil dgNil := by
  intro S M H0 H σ σd vs ds Qd Q E r h k
  cases r with
  | nil => exact ⟨rfl, k _ _ h E⟩
  | cons a b => exact h.elim
def dgCons (g : DG) (gs : DGs) : DGs := fun ds σd Q => match ds with | d :: r => g d σd fun σd' => gs r σd' Q | [] => False
theorem MOset {M : Addr → Prop} {σd : DSt} {i : Nat} {d : D} {a : Addr} (h : MO M (σd.set i (.val d)) a) : MO M σd a := by
  rcases h with h | ⟨ds, h⟩
  · exact .inl h
  · rcases List.mem_or_eq_of_mem_set h with h | h
    · exact .inr ⟨ds, h⟩
    · cases h
theorem lgs_cons {i : Nat} {gs : TGs} {dgs : DGs} (h2 : LGs gs dgs) : LGs (gCons (gName i) gs) (dgCons (dgName i) dgs) := by
  intro S M H0 H σ σd vs ds Qd Q E r h k
  cases r with
  | nil => exact h.elim
  | cons a b =>
    refine ⟨_, _, rfl, ?_⟩
    exact h2 S M H0 H _ _ _ _ _ _ (E.put a) (b.go fun a o n e => ⟨fun z => n (MOset z), e⟩) h k
def dgTup (gs : DGs) : DG := fun d σd Q => match d with | .tuple ds => gs ds σd Q | _ => False
theorem lg_tup {K : PySem.W.Frag} {n : Nat} {gs : TGs} {dgs : DGs} (hg : LGs gs dgs) (hn : ∀ ds σd Q, dgs ds σd Q → ds.length = n) : LG (gTup K n gs) (dgTup dgs) := by
  intro S M H0 H σ σd v d Qd Q E r h k
  cases r <;> first | exact h.elim | skip
  rename_i a xs ds na e r
  exact ⟨a, xs, rfl, .inl (.inl e), by rw [r.length]; exact hn _ _ _ h, hg S M H0 H σ σd xs ds Qd Q E r h k⟩
def dAsg (m : DE) (g : DG) : DS := fun Dd σd => m σd fun d => g d σd Dd.nx
theorem ls_asg {t : TE} {m : DE} {g : TG} {dg : DG} (h : LE t m) (hg : LG g dg) : LS Wx (tAsg t g) (dAsg m dg) := fun S M H0 H σ σd Dd Dn E hm r =>
  h S M H0 H σ σd _ _ E hm fun d v H' q E' k r' => hg S M H0 H' σ σd v d _ _ E' r' q fun σd' σ' q' E2 => r.1 σd' σ' H' q' E2
/-- a new list that will be changed -/
def dOwn (i : Nat) (m : DA) : DS := fun Dd σd => m σd fun ds => ∀ p, Dd.nx (σd.set i (Sl.own p ds))
end PH

/-! Defs whose callers stand in no repr (FnG), their promises over data, and a law's end. -/
namespace PH
open PySem PySem.Spec L2
open PyProof.Rows (envOfC)

/-- a def's promise where no repr runs around -/
structure FnG (P : Program) (w : World) (K : PySem.W.Frag) (mg : Str → Option Value) (base : Heap) (k : Nat) (f : Addr) (fd : FuncData) (ps : List Str) (sp : Sp) : Prop where
  len : ∀ vs H Q E, sp vs H Q E → vs.length = ps.length
  go : ∀ (A : Around) (outer : List Env) (s : Shared) (H : Hp) (args : Args) (us : List Value) (vs : List V) (Q : VK), Room k A → A.guards = some [] →
    Env0 P w K mg base A outer s H → BindsTo s fd args (ps.zip us) → Vals vs us → sp vs H Q E0 → codeAny (model P w) A (.call (.ref f) args) (CR CX0 outer P w H s Q E0) s
section
variable {P : Program} {w : World} {K : PySem.W.Frag} {mg : Str → Option Value} {base : Heap} {k : Nat} {f : Addr} {fd : FuncData} {ps : List Str} {sp : Sp}
theorem FnG.of (F : FnOk P w K mg base CX0 k f fd ps sp) : FnG P w K mg base k f fd ps sp := ⟨F.len, fun A outer s H args us vs Q hr _ e hb hv h => F.run A outer s H args us vs Q E0 hr e hb hv h⟩
theorem FnG.up {j : Nat} (F : FnG P w K mg base j f fd ps sp) (h : j ≤ k) : FnG P w K mg base k f fd ps sp := ⟨F.len, fun A outer s H args us vs Q hr => F.go A outer s H args us vs Q (hr.mono h)⟩
theorem FnG.imp {sp' : Sp} (F : FnG P w K mg base k f fd ps sp) (h : ∀ vs H Q E, sp' vs H Q E → sp vs H Q E) : FnG P w K mg base k f fd ps sp' :=
  ⟨fun vs H Q E q => F.len vs H Q E (h _ _ _ _ q), fun A outer s H args us vs Q hr hg e hb hv hs => F.go A outer s H args us vs Q hr hg e hb hv (h _ _ _ _ hs)⟩
theorem guards_deeper {A : Around} {env : Env} (h : A.guards = some []) : (A.deeper env).guards = some [] := h
/-- a def by its body -/
theorem fnG_body {x qual : Str} {st : Stmt} {N : List Str} (F : Fun K x qual st f fd) (S : FnScope N ps (defScope st)) (len : ∀ vs H Q E, sp vs H Q E → vs.length = ps.length)
    (hb : ∀ (cdv : Value) (A : Around) (outer : List Env) (s : Shared) (H : Hp) (vs : List V) (Q : VK), Room k (A.deeper (envOfC qual (defScope st) s.heap.objs.size f cdv)) → A.guards = some [] → sp vs H Q E0 →
      ∃ t, PSs (cxOf CX0 P w K mg base N qual (defScope st) f cdv A outer s H E0).nox (defBody st) t ∧ t { nx := fun _ H' => Q .non H', rt := Q } (L2.start N vs) H) :
    FnG P w K mg base (k + 1) f fd ps sp := by
  obtain ⟨oc, od, kV, doc, pm, an, cdv, ct, osl, rfl, lk, hcd⟩ := F.ex
  refine ⟨len, ?_⟩
  intro A outer s H args us vs Q hr hg e0 hbind rv hsp
  have lv := len _ _ _ _ hsp
  have inK : K.In s.heap := e0.mod.kin.keeps (fun b o e => (e0.bs b o e).1)
  have noL : s.heap.NoLimit := e0.mod.nolimit.keeps (fun b o e => (e0.bs b o e).1)
  have kinds : ∀ y ∈ ps.zip us, (defScope st).names.lookup y.1 = some .local ∨
      ((defScope st).names.lookup y.1 = some .cell ∧ ((cellsFrom (s.heap.objs.size + 1) (defScope st).names []).lookup y.1).isSome = true) := by
    rintro ⟨n, v⟩ hy
    rcases S.par n (List.of_mem_zip hy).1 with q | q
    · exact .inl q
    · exact .inr ⟨q, PySem.W.cellsFrom_some _ _ _ (.inl q)⟩
  refine codeAny_call_function hr.depth (inK _ _ lk) rfl S.co S.gen rfl (PySem.W.codeRec_of inK hcd) (hbind _ _ _ _ ?_)
  refine wpAny_newFunctionEnv_cells S.kind kinds ?_
  intro env he s1 xc
  subst he
  refine ⟨noL.keeps xc.toInCall.keep, codeAny_func ?_⟩
  obtain ⟨t, ht, hq⟩ := hb cdv A outer s H vs Q (hr.deeper _) hg hsp
  have J0 : Inv (cxOf CX0 P w K mg base N qual (defScope st) f cdv A outer s H E0) [] (L2.start N vs) H s1 := inv_start S hr.hd e0 lv rv xc
  refine wpAny_mono (ht.nox.run [] s1 (L2.start N vs) H _ J0 hq) (fun fl s' hs => ?_) (fun e s' hs => hs)
  cases fl with
  | ret u =>
    obtain ⟨v, σ', H', J, rr, q⟩ := hs
    exact ⟨v, H', J.os, J.bare, J.base, J.hok, rr, q⟩
  | next =>
    obtain ⟨σ', H', J, q⟩ := hs
    exact ⟨V.non, H', J.os, J.bare, J.base, J.hok, rfl, q⟩
  | brk => obtain ⟨_, _, _, q⟩ := hs; exact False.elim q
  | cont => obtain ⟨_, _, _, q⟩ := hs; exact False.elim q
end
/-! ### calls -/
section
variable {X : Cx} {k : Nat} {f : Addr} {fd : FuncData} {ps : List Str} {sp : Sp} {x : Str} {p pos : Pos} {e : Expr} {es : List Expr} {t : TA}
def tCallG (sp : Sp) (t : TA) : TE := fun σ H Q => t σ H fun vs H1 => sp vs H1 Q E0
theorem runG {pins : List (Addr × Obj)} {σ : L2.St} {H : Hp} {s : Shared} {Q : VK} {us : List Value} {vs : List V} (F : FnG X.prog X.w X.K X.mg X.base k f fd ps sp) (hr : Room k X.A) (hg : X.A.guards = some [])
    (hb : Binds X.K fd ps []) (I : Inv X pins σ H s) (r : Vals vs us) (h : sp vs H Q E0) : wpAny (model X.prog X.w) X.A (call (.ref f) us) (EP X pins σ Q) X.xe s := by
  have hl : (us ++ []).length = ps.length := by rw [List.append_nil, ← r.length]; exact F.len _ _ _ _ h
  have hb' : BindsTo s fd ⟨us, []⟩ (ps.zip us) := by
    have q := hb s us I.kIn hl
    rw [List.append_nil] at q
    exact q
  refine wpAny_call (codeAny_mono (F.go X.A X.stack s H ⟨us, []⟩ us vs Q hr hg I.env0 hb' r h) ?_)
  intro res s' hq
  cases res with
  | error e => exact False.elim hq
  | ok fl =>
    cases fl with
    | ret u => exact I.after hq
    | next => exact False.elim hq
    | brk => exact False.elim hq
    | cont => exact False.elim hq
theorem pe_callG (F : FnG X.prog X.w X.K X.mg X.base k f fd ps sp) (hr : Room k X.A) (hgu : X.A.guards = some []) (hg : Gl X x) (hm : X.mg x = some (.ref f)) (hk : PySem.W.keepIn X.K (.ref f) = true) (hb : Binds X.K fd ps [])
    (ha : PA X (e :: es) t) (hdb : (x == ("__debug__" : Str)) = false := by decide) (he : starEach (e :: es) X.env = (false, eval e X.env) :: starEach es X.env := by rfl) (hpl : (backTo pos (starEach es X.env)).any (·.1) = false := by rfl) :
    PE X (.Call (.Name x p) (e :: es) [] pos) (tCallG sp t) := by
  constructor
  intro pins s σ H Q I h
  refine wpAny_Call_Name_kw (ld_glob I hg hm ?_ hdb)
  refine PySem.W.callWith_K (h₀ := X.base) I.ok.mod.kin hk (thn (ha.run pos pins s σ H _ I h) ?_) he hpl
  rintro us s1 ⟨vs, H1, I1, r, q⟩
  exact ⟨I1.kIn, runG F hr hgu hb I1 r q⟩
theorem pe_callG0 (F : FnG X.prog X.w X.K X.mg X.base k f fd ps sp) (hr : Room k X.A) (hgu : X.A.guards = some []) (hg : Gl X x) (hm : X.mg x = some (.ref f)) (hk : PySem.W.keepIn X.K (.ref f) = true) (hb : Binds X.K fd ps [])
    (hdb : (x == ("__debug__" : Str)) = false := by decide) : PE X (.Call (.Name x p) [] [] pos) (tCallG sp tNil) := by
  constructor
  intro pins s σ H Q I h
  refine wpAny_Call_Name_kw (ld_glob I hg hm ?_ hdb)
  exact PySem.W.callWith_K0 I.kIn hk (runG (us := []) F hr hgu hb I .nil h)
end
/-! ### promises over data -/
abbrev DSp := List D → (D → Prop) → Prop
def SpD (n : Nat) (spd : DSp) : Sp := fun vs H Q _ => ∃ (S : Sr) (M : Addr → Prop) (ds : List D) (Qd : D → Prop), (∀ a, M a → H a ≠ none) ∧ SrcOk S M H ∧ Dqs S M H vs ds ∧ vs.length = n ∧ spd ds Qd ∧
  ∀ d v H', Qd d → KeepS S H H' → SrcOk S M H' → Dq S M H' v d → Q v H'
theorem le_callG {n : Nat} {spd : DSp} {t : TA} {m : DA} (h : LA n t m) : LE (tCallG (SpD n spd) t) (fun σd Q => m σd fun ds => spd ds Q) := by
  intro S M H0 H σ σd Qd Q E hm k
  refine h S M H0 H σ σd _ _ E hm fun ds vs H1 q E1 k1 r1 hl => ?_
  have so : SrcOk S (MO M σd) H1 := fun p c e => let ⟨a, b, r⟩ := E1.src p c e; ⟨.inl a, .inl b, r⟩
  refine ⟨S, MO M σd, ds, Qd, E1.mtO, so, r1, hl, q, fun d v H2 q k2 s2 r2 => ?_⟩
  have s3 : SrcOk S M H2 := fun p c e => let ⟨a, b, _⟩ := E1.src p c e; let ⟨_, _, r⟩ := s2 p c e; ⟨a, b, r⟩
  exact k d v H2 q (E1.ext k2 s3) (k1.trans k2) r2
def dstart (n : Nat) (ds : List D) : DSt := ds.map Sl.val ++ List.replicate (n - ds.length) Sl.emp
theorem ev_start {S : Sr} {M : Addr → Prop} {H : Hp} {N : List Str} {vs : List V} {ds : List D} (hm : ∀ a, M a → H a ≠ none) (so : SrcOk S M H) (r : Dqs S M H vs ds) : Ev S M H H (L2.start N vs) (dstart N.length ds) := by
  have hl := r.length
  have no : ∀ a es, Sl.own a es ∉ dstart N.length ds := fun a es h => by
    unfold dstart at h
    rcases List.mem_append.mp h with h | h
    · obtain ⟨d, _, e⟩ := List.mem_map.mp h
      cases e
    · have := (List.mem_replicate.mp h).2
      cases this
  have mo : ∀ a, MO M (dstart N.length ds) a → M a := fun a h => h.elim id fun ⟨es, z⟩ => absurd z (no a es)
  refine ⟨?_, fun i o s h1 h2 => ?_, fun i j a ds' es h1 _ => absurd (List.mem_of_getElem? h1) (no _ _), fun a es h => absurd h (no _ _), so, fun p c e => ?_, .refl, hm, hm⟩
  · unfold dstart L2.start
    simp [hl]
  · unfold dstart at h2
    unfold L2.start at h1
    by_cases hi : i < ds.length
    · rw [List.getElem?_append_left (by simpa using hi), List.getElem?_map] at h2
      rw [List.getElem?_append_left (by simpa [hl] using hi), List.getElem?_map] at h1
      cases e : ds[i]? with
      | none => rw [e] at h2; cases h2
      | some d =>
        rw [e] at h2
        cases h2
        obtain ⟨v, hv, q⟩ := r.get e
        rw [hv] at h1
        cases h1
        exact ⟨v, rfl, q.go fun a o n e => ⟨fun z => n (mo a z), e⟩⟩
    · rw [List.getElem?_append_right (by simpa using hi), List.getElem?_replicate] at h2
      split at h2
      · cases h2; trivial
      · cases h2
  · obtain ⟨_, _, _, ns, l, m, t, h1, h2⟩ := so p c e
    rw [h1, h2]
    exact ⟨fun z => (nomatch z), fun z => (nomatch z)⟩
/-- a def's promise over data, by its body's reading over data -/
theorem fnD {P : Program} {w : World} {K : PySem.W.Frag} {mg : Str → Option Value} {base : Heap} {k : Nat} {f : Addr} {fd : FuncData} {ps : List Str} {x qual : Str} {st : Stmt} {N : List Str} {spd : DSp} {m : DS} (F : Fun K x qual st f fd) (S : FnScope N ps (defScope st))
    (hb : ∀ (cdv : Value) (A : Around) (outer : List Env) (s : Shared) (H : Hp), Room k (A.deeper (envOfC qual (defScope st) s.heap.objs.size f cdv)) → A.guards = some [] →
      PDSs W0 (cxOf CX0 P w K mg base N qual (defScope st) f cdv A outer s H E0).nox (defBody st) m)
    (hm : ∀ ds Qd, ds.length = ps.length → spd ds Qd → m { nx := fun _ => Qd .none, rt := Qd } (dstart N.length ds)) : FnG P w K mg base (k + 1) f fd ps (SpD ps.length spd) := by
  refine fnG_body F S (fun vs H Q E h => ?_) fun cdv A outer s H vs Q hr hg h => ?_
  · obtain ⟨_, _, _, _, _, _, _, l, _⟩ := h
    exact l
  · obtain ⟨S', M, ds, Qd, h1, h2, h3, h4, h5, h6⟩ := h
    obtain ⟨t, ht, lt⟩ := hb cdv A outer s H hr hg
    refine ⟨t, ht, lt S' M H H _ _ _ _ (ev_start h1 h2 h3) (hm ds Qd (by rw [← h3.length, h4]) h5) ⟨fun σd σ H' q E => ?_, fun d v H' q k so _ r => h6 d v H' q k so r, fun _ _ _ q _ => q.elim, fun _ _ _ q _ => q.elim, fun _ _ _ _ q _ => q.elim⟩⟩
    exact h6 _ _ _ q E.keep E.src .non
end PH

/-! Python's constructs, read over data. -/
namespace PH
open PySem PySem.Spec L2
open PyProof.Rows (envOfC floordiv_int mod_int')
variable {Wx : WX}

/-! ### bounds of ints -/
class Bd (k : outParam Nat) (x : Int) : Prop where
  h : x.natAbs < 2 ^ k
theorem Bd.mono {a b : Nat} {x : Int} (h : Bd a x) (l : a ≤ b) : Bd b x := ⟨Nat.lt_of_lt_of_le h.h (Nat.pow_le_pow_right (by decide) l)⟩
theorem bd_add' {a b : Nat} {x y : Int} (h1 : Bd a x) (h2 : Bd b y) : (x.natAbs + y.natAbs) < 2 ^ (a + b + 1) := by
  have e1 := h1.h
  have e2 := h2.h
  have l1 : 2 ^ a ≤ 2 ^ (a + b) := Nat.pow_le_pow_right (by decide) (by omega)
  have l2 : 2 ^ b ≤ 2 ^ (a + b) := Nat.pow_le_pow_right (by decide) (by omega)
  rw [Nat.pow_succ]
  omega
instance bd_add {a b : Nat} {x y : Int} [h1 : Bd a x] [h2 : Bd b y] : Bd (a + b + 1) (x + y) := ⟨by have := bd_add' h1 h2; omega⟩
instance bd_sub {a b : Nat} {x y : Int} [h1 : Bd a x] [h2 : Bd b y] : Bd (a + b + 1) (x - y) := ⟨by have := bd_add' h1 h2; omega⟩
instance bd_mul {a b : Nat} {x y : Int} [h1 : Bd a x] [h2 : Bd b y] : Bd (a + b) (x * y) := ⟨wide_lt h1.h h2.h⟩
instance bd_neg {a : Nat} {x : Int} [h : Bd a x] : Bd a (-x) := ⟨by rw [Int.natAbs_neg]; exact h.h⟩
theorem natAbs_fdiv_le (x y : Int) (h : y ≠ 0) : (x.fdiv y).natAbs ≤ x.natAbs := by
  rcases Int.lt_or_gt_of_ne h with h | h
  · -- y < 0
    have e : x.fdiv y = (-x).fdiv (-y) := by rw [Int.neg_fdiv_neg]
    rw [e, Int.fdiv_eq_ediv_of_nonneg _ (by omega), ← Int.natAbs_neg x]
    exact Int.natAbs_ediv_le_natAbs _ _
  · rw [Int.fdiv_eq_ediv_of_nonneg _ (by omega)]
    exact Int.natAbs_ediv_le_natAbs _ _
theorem bd_fdiv0 {a : Nat} {x y : Int} [h : Bd a x] (hy : y ≠ 0) : Bd a (x.fdiv y) := ⟨Nat.lt_of_le_of_lt (natAbs_fdiv_le x y hy) h.h⟩
instance bd_fdiv {a : Nat} {x y : Int} [h : Bd a x] : Bd a (x.fdiv y) := by
  by_cases hy : y = 0
  · subst hy; exact ⟨by rw [Int.fdiv_zero]; exact Nat.pos_of_ne_zero (by simp)⟩
  · exact bd_fdiv0 hy
instance bd_lit (n : Nat) [NeZero n] : Bd (n.log2 + 1) (OfNat.ofNat n : Int) := ⟨by
  show n < 2 ^ (n.log2 + 1)
  exact Nat.lt_log2_self⟩
instance bd_0 : Bd 0 (0 : Int) := ⟨by decide⟩
instance bd_1 : Bd 1 (1 : Int) := ⟨by decide⟩
/-- a product's room -/
def CMB (i j : Int) : Prop := ∃ a b : Nat, i.natAbs < 2 ^ a ∧ j.natAbs < 2 ^ b ∧ a + b ≤ 900000
theorem cmb {i j : Int} {a b : Nat} (h1 : Bd a i) (h2 : Bd b j) (h : a + b ≤ 900000) : CMB i j := ⟨a, b, h1.h, h2.h, h⟩
theorem CMB.ok {i j : Int} (h : CMB i j) : CMulW i j := by
  obtain ⟨a, b, h1, h2, h3⟩ := h
  exact wide_mul (a := a + 1) (b := b + 1) (Nat.lt_of_lt_of_le h1 (Nat.pow_le_pow_right (by decide) (by omega))) (Nat.lt_of_lt_of_le h2 (Nat.pow_le_pow_right (by decide) (by omega))) (by omega) (by omega) (by omega)
def CFD (_ j : Int) : Prop := j ≠ 0 ∧ ∃ b : Nat, j.natAbs < 2 ^ b ∧ b ≤ 8000
theorem cfd {i j : Int} {b : Nat} (h0 : j ≠ 0) (h : Bd b j) (hb : b ≤ 8000) : CFD i j := ⟨h0, b, h.h, hb⟩
theorem CFD.ok {i j : Int} (h : CFD i j) : Builtin.divisionGoesByPylong i j = false := by
  obtain ⟨_, b, h1, h2⟩ := h
  exact PyProof.noPylong_of_log2 (Nat.lt_of_lt_of_le (PySem.Flt.log2_lt_of (Nat.succ_pos b) (Nat.lt_of_lt_of_le h1 (Nat.pow_le_pow_right (by decide) (Nat.le_succ b)))) (by omega))
section
variable {X : Cx}
theorem op_mulB : OpR X (binaryOp .Mult) (rI CMB fun i j => .int (i * j)) := opI fun _ _ _ _ _ _ _ hc q => PyProof.Rows.mul_int q hc.ok.ok
theorem op_fdB : OpR X (binaryOp .FloorDiv) (rI CFD fun i j => .int (i.fdiv j)) := opI fun _ _ _ _ _ _ _ hc q => floordiv_int hc.1 q (.inl hc.ok)
end

/-! ### expressions -/
section
variable {X : Cx} {a b c e : Expr} {es rest : List Expr} {pos : Pos} {ma mb mc : DE} {n : Nat} {m : DA}
theorem pd_bin {op : Operator} {r : R2} {dr : DR2} (ho : OpR X (binaryOp op) r) (l : LR r dr) (ha : PD X a ma) (hb : PD X b mb) : PD X (.BinOp a op b pos) (dOp dr ma mb) :=
  let ⟨_, h1, l1⟩ := ha; let ⟨_, h2, l2⟩ := hb; ⟨_, pe_op ho h1 h2, le_op l l1 l2⟩
abbrev dAdd := dI0 fun i j => i + j
abbrev dSub := dI0 fun i j => i - j
abbrev dMul := dI CMB fun i j => i * j
abbrev dFd := dI CFD fun i j => i.fdiv j
abbrev dMod := dI (fun _ j => j ≠ 0) fun i j => i.fmod j
abbrev dPow := dI CPow fun i j => i ^ j.toNat
theorem pd_add (ha : PD X a ma) (hb : PD X b mb) : PD X (.BinOp a .Add b pos) (dOp dAdd ma mb) := pd_bin op_add lr_I0 ha hb
theorem pd_sub (ha : PD X a ma) (hb : PD X b mb) : PD X (.BinOp a .Sub b pos) (dOp dSub ma mb) := pd_bin op_sub lr_I0 ha hb
theorem pd_mul (ha : PD X a ma) (hb : PD X b mb) : PD X (.BinOp a .Mult b pos) (dOp dMul ma mb) := pd_bin op_mulB lr_I ha hb
theorem pd_fd (ha : PD X a ma) (hb : PD X b mb) : PD X (.BinOp a .FloorDiv b pos) (dOp dFd ma mb) := pd_bin op_fdB lr_I ha hb
theorem pd_mod (ha : PD X a ma) (hb : PD X b mb) : PD X (.BinOp a .Mod b pos) (dOp dMod ma mb) := pd_bin op_modN lr_I ha hb
theorem pd_pow (ha : PD X a ma) (hb : PD X b mb) : PD X (.BinOp a .Pow b pos) (dOp dPow ma mb) := pd_bin op_pow lr_I ha hb
def dNeg (m : DE) : DE := fun σd Q => m σd fun d => match d with | .int i => Q (.int (-i)) | _ => False
theorem pd_neg (ha : PD X a ma) : PD X (.UnaryOp .USub a pos) (dNeg ma) :=
  let ⟨_, h1, l1⟩ := ha
  ⟨_, pe_un un_neg h1, le_un (dr := fun d Q => match d with | .int i => Q (.int (-i)) | _ => False) (fun S M H x dx Qd Q r h k => by
    cases r <;> first | exact h.elim | skip
    exact ⟨_, rfl, k _ _ h (.int _)⟩) l1⟩
theorem pda_nil : PDA X [] 0 (fun _ Q => Q []) := ⟨_, pa_nil, la_nil⟩
theorem pda_cons (ha : PD X e ma) (hr : PDA X es n m) (hs : starEach (e :: es) X.env = (false, eval e X.env) :: starEach es X.env := by rfl) : PDA X (e :: es) (n + 1) (fun σd Q => ma σd fun d => m σd fun ds => Q (d :: ds)) :=
  let ⟨_, h1, l1⟩ := ha; let ⟨_, h2, l2⟩ := hr; ⟨_, pa_cons h1 h2 hs, la_cons l1 l2⟩
def dTup (m : DA) : DE := fun σd Q => m σd fun ds => Q (.tuple ds)
def dLst (m : DA) : DE := fun σd Q => m σd fun ds => Q (.list ds)
theorem pd_tup {x1} (h : PDA X es n m) (hn : n ≤ 100000 := by decide) : PD X (.Tuple es x1 pos) (dTup m) := let ⟨_, h1, l1⟩ := h; ⟨_, pe_tup h1, le_tup l1 hn⟩
theorem pdn_lst (h : PDA X es n m) (hn : n ≤ 100000 := by decide) : PDN X (.List es pos) m := let ⟨_, h1, l1⟩ := h; ⟨_, pe_lst h1, ln_lst l1 hn⟩
theorem pd_new (h : PDN X e m) : PD X e (dLst m) := let ⟨_, h1, l1⟩ := h; ⟨_, h1, l1.le⟩
theorem pd_lst (h : PDA X es n m) (hn : n ≤ 100000 := by decide) : PD X (.List es pos) (dLst m) := pd_new (pdn_lst h hn)
theorem pd_dict0 : PD X (.Dict [] [] pos) (dC (.dict [])) := ⟨_, pe_dnewK, fun S M H0 H σ σd Qd Q E q k p hp =>
  k _ _ _ q (E.same (Same.upd hp)) (.of (Same.upd hp)) (.dic (fun z => E.mtO p z hp) upd_same)⟩
/-! comparisons -/
def dBoolT (m : DE) : DT := fun σd Q => m σd fun d => match d with | .bool b => Q b | _ => False
theorem pd_cmp {op : CmpOp} {r : R2} {dr : DR2} (ho : OpR X (compareOp op) r) (l : LR r dr) (ha : PD X a ma) (hb : PD X b mb) (hm : behindInMarks op b = false) : PD X (.Compare a [op] [b] pos) (dOp dr ma mb) :=
  let ⟨_, h1, l1⟩ := ha; let ⟨_, h2, l2⟩ := hb; ⟨_, pe_cmpR ho h1 h2 hm, le_op l l1 l2⟩
theorem pdt_cmp {op : CmpOp} {r : R2} {dr : DR2} (ho : OpR X (compareOp op) r) (l : LR r dr) (ha : PD X a ma) (hb : PD X b mb) (hm : behindInMarks op b = false) : PDT X (.Compare a [op] [b] pos) (dBoolT (dOp dr ma mb)) :=
  let ⟨_, h1, l1⟩ := ha; let ⟨_, h2, l2⟩ := hb; ⟨_, pt_cmpR ho h1 h2 hm, lt_of (le_op l l1 l2)⟩
abbrev dLtI := dB0 fun i j => decide (i < j)
abbrev dLeI := dB0 fun i j => decide (i ≤ j)
abbrev dGtI := dB0 fun i j => decide (j < i)
abbrev dGeI := dB0 fun i j => decide (j ≤ i)
/-- == of data -/
def dEq : DR2 := fun x y Q => match x, y with
  | .str i, .str j => Q (.bool (decide (i = j)))
  | .int i, .int j => Q (.bool (decide (i = j)))
  | .list xs, .list [] => Q (.bool xs.isEmpty)
  | x, y => SeqAt.shaped x = true ∧ SeqAt.shaped y = true ∧ Q (.bool (PyData.eqv x y))
def dNe : DR2 := fun x y Q => match x, y with
  | .str i, .str j => Q (.bool (!decide (i = j)))
  | .int i, .int j => Q (.bool (!decide (i = j)))
  | x, y => SeqAt.shaped x = true ∧ SeqAt.shaped y = true ∧ Q (.bool (!PyData.eqv x y))
mutual
theorem Dq.dp {K : PySem.W.Frag} {S : Sr} {M : Addr → Prop} {H : Hp} : ∀ {d : D} {v : V}, Dq S M H v d → d.canLay0 = true → Dp K H v d
  | _, _, .non, _ => .non
  | _, _, .bl b, _ => .bl b
  | _, _, .int i, _ => .int i
  | _, _, .str x, _ => .str x
  | _, _, .lst n e r, h => .lst (.inl (.inl e)) (Dqs.dp r (by simpa [PyData.canLay0] using h))
  | _, _, .tup n e r, h => .tup (.inl (.inl e)) (Dqs.dp r (by simpa [PyData.canLay0] using h))
  | _, _, .dic _ _, h => by simp [PyData.canLay0] at h
  | _, _, .src _, h => by simp [PyData.canLay0] at h
theorem Dqs.dp {K : PySem.W.Frag} {S : Sr} {M : Addr → Prop} {H : Hp} : ∀ {ds : List D} {vs : List V}, Dqs S M H vs ds → PyData.canLayAll0 ds = true → DpAll K H vs ds
  | _, _, .nil, _ => .nil
  | _, _, .cons a b, h => by
    simp only [PyData.canLayAll0, Bool.and_eq_true] at h
    exact .cons (Dq.dp a h.1) (Dqs.dp b h.2)
end
theorem lay_of {d : D} (h : SeqAt.shaped d = true) : d.canLay0 = true := SeqAt.canLay_of_shaped h
/-- lists of unlike lengths -/
def rEqLen : R2 := fun x y H Q => ∃ a b xs ys, x = .ref a ∧ y = .ref b ∧ H a = some (.lst xs) ∧ H b = some (.lst ys) ∧ xs.length ≠ ys.length ∧ Q (.bl false) H
theorem op_eqLen (hu : X.A.units < cLine) : OpR X (compareOp .Eq) rEqLen := by
  intro pins s σ H x y v u Q I rx ry h
  obtain ⟨a, b, xs, ys, rfl, rfl, ha, hb, hl, q⟩ := h
  cases rx
  cases ry
  obtain ⟨its, r1, p1, _⟩ := I.list (.inl (.inl ha))
  obtain ⟨its2, r2, p2, _⟩ := I.list (.inl (.inl hb))
  refine SeqAt.eq_list_lengthsAt p1.isList p2.isList ?_ hu ⟨.bl false, H, I, rfl, q⟩
  have e1 := r1.length
  have e2 := r2.length
  simp only [List.size_toArray, bne_iff_ne, ne_eq]
  omega
abbrev rEqA (K : PySem.W.Frag) : R2 := fun x y H Q => rEqD K x y H Q ∨ rEqLen x y H Q ∨ rEq x y H Q
abbrev rNeA (K : PySem.W.Frag) : R2 := fun x y H Q => rNeD K x y H Q ∨ rNe x y H Q
theorem op_eqA (hu : X.A.units + 64 < cLine) : OpR X (compareOp .Eq) (rEqA X.K) := by
  intro pins s σ H x y v u Q I rx ry q
  rcases q with q | q | q
  · exact op_eqD hu pins s σ H x y v u Q I rx ry q
  · exact op_eqLen (by omega) pins s σ H x y v u Q I rx ry q
  · exact op_eq pins s σ H x y v u Q I rx ry q
theorem op_neA (hu : X.A.units + 64 < cLine) : OpR X (compareOp .NotEq) (rNeA X.K) := by
  intro pins s σ H x y v u Q I rx ry q
  rcases q with q | q
  · exact op_neD hu pins s σ H x y v u Q I rx ry q
  · exact op_ne pins s σ H x y v u Q I rx ry q
theorem str_eqD (i j : Str) : decide (V.str i = V.str j) = decide (i = j) := by by_cases h : i = j <;> simp [h]
theorem lr_eq : LR (rEqA X.K) dEq := by
  intro S M H x y dx dy Qd Q hm rx ry h k
  unfold dEq at h
  split at h
  · cases rx; cases ry
    refine .inr (.inr ⟨rfl, ?_⟩)
    rw [str_eqD]
    exact k _ _ H h (Same.refl _) (.bl _)
  · cases rx; cases ry
    rename_i i j
    refine .inl ⟨.int i, .int j, .int i, .int j, by simp [SeqAt.shaped, PyData.canLay0, PyData.depth], by simp [SeqAt.shaped, PyData.canLay0, PyData.depth], ?_⟩
    have e : PyData.eqv (.int i) (.int j) = decide (i = j) := by simp [PyData.eqv]; rfl
    rw [e]
    exact k _ _ H h (Same.refl _) (.bl _)
  · rename_i xs
    cases xs with
    | nil =>
      refine .inl ⟨.list [], .list [], rx.dp (by simp [PyData.canLay0, PyData.canLayAll0]), ry.dp (by simp [PyData.canLay0, PyData.canLayAll0]), by decide, by decide, ?_⟩
      have e : PyData.eqv (.list []) (.list []) = true := by simp [PyData.eqv, PyData.eqvAll]
      rw [e]
      exact k _ _ H h (Same.refl _) (.bl _)
    | cons z zs =>
      cases rx with
      | lst na ea ra =>
      cases ry with
      | lst nb eb rb =>
      exact .inr (.inl ⟨_, _, _, _, rfl, rfl, ea, eb, by rw [ra.length, rb.length]; simp, k _ _ H h (Same.refl _) (.bl _)⟩)
  · obtain ⟨h1, h2, h3⟩ := h
    exact .inl ⟨dx, dy, rx.dp (lay_of h1), ry.dp (lay_of h2), h1, h2, k _ _ H h3 (Same.refl _) (.bl _)⟩
theorem lr_ne : LR (rNeA X.K) dNe := by
  intro S M H x y dx dy Qd Q hm rx ry h k
  unfold dNe at h
  split at h
  · cases rx; cases ry
    refine .inr ⟨rfl, ?_⟩
    rw [str_eqD]
    exact k _ _ H h (Same.refl _) (.bl _)
  · cases rx; cases ry
    rename_i i j
    refine .inl ⟨.int i, .int j, .int i, .int j, by simp [SeqAt.shaped, PyData.canLay0, PyData.depth], by simp [SeqAt.shaped, PyData.canLay0, PyData.depth], ?_⟩
    have e : PyData.eqv (.int i) (.int j) = decide (i = j) := by simp [PyData.eqv]; rfl
    rw [e]
    exact k _ _ H h (Same.refl _) (.bl _)
  · obtain ⟨h1, h2, h3⟩ := h
    exact .inl ⟨dx, dy, rx.dp (lay_of h1), ry.dp (lay_of h2), h1, h2, k _ _ H h3 (Same.refl _) (.bl _)⟩
theorem pd_lt (ha : PD X a ma) (hb : PD X b mb) : PD X (.Compare a [.Lt] [b] pos) (dOp dLtI ma mb) := pd_cmp op_lt lr_B0 ha hb (nomark _)
theorem pd_le (ha : PD X a ma) (hb : PD X b mb) : PD X (.Compare a [.LtE] [b] pos) (dOp dLeI ma mb) := pd_cmp op_le lr_B0 ha hb (nomark _)
theorem pd_gt (ha : PD X a ma) (hb : PD X b mb) : PD X (.Compare a [.Gt] [b] pos) (dOp dGtI ma mb) := pd_cmp op_gt lr_B0 ha hb (nomark _)
theorem pd_ge (ha : PD X a ma) (hb : PD X b mb) : PD X (.Compare a [.GtE] [b] pos) (dOp dGeI ma mb) := pd_cmp op_ge lr_B0 ha hb (nomark _)
theorem pd_eq (hu : X.A.units + 64 < cLine) (ha : PD X a ma) (hb : PD X b mb) : PD X (.Compare a [.Eq] [b] pos) (dOp dEq ma mb) := pd_cmp (op_eqA hu) lr_eq ha hb (nomark _)
theorem pd_ne (hu : X.A.units + 64 < cLine) (ha : PD X a ma) (hb : PD X b mb) : PD X (.Compare a [.NotEq] [b] pos) (dOp dNe ma mb) := pd_cmp (op_neA hu) lr_ne ha hb (nomark _)
theorem pdt_lt (ha : PD X a ma) (hb : PD X b mb) : PDT X (.Compare a [.Lt] [b] pos) (dBoolT (dOp dLtI ma mb)) := pdt_cmp op_lt lr_B0 ha hb (nomark _)
theorem pdt_le (ha : PD X a ma) (hb : PD X b mb) : PDT X (.Compare a [.LtE] [b] pos) (dBoolT (dOp dLeI ma mb)) := pdt_cmp op_le lr_B0 ha hb (nomark _)
theorem pdt_gt (ha : PD X a ma) (hb : PD X b mb) : PDT X (.Compare a [.Gt] [b] pos) (dBoolT (dOp dGtI ma mb)) := pdt_cmp op_gt lr_B0 ha hb (nomark _)
theorem pdt_ge (ha : PD X a ma) (hb : PD X b mb) : PDT X (.Compare a [.GtE] [b] pos) (dBoolT (dOp dGeI ma mb)) := pdt_cmp op_ge lr_B0 ha hb (nomark _)
theorem pdt_eq (hu : X.A.units + 64 < cLine) (ha : PD X a ma) (hb : PD X b mb) : PDT X (.Compare a [.Eq] [b] pos) (dBoolT (dOp dEq ma mb)) := pdt_cmp (op_eqA hu) lr_eq ha hb (nomark _)
theorem pdt_ne (hu : X.A.units + 64 < cLine) (ha : PD X a ma) (hb : PD X b mb) : PDT X (.Compare a [.NotEq] [b] pos) (dBoolT (dOp dNe ma mb)) := pdt_cmp (op_neA hu) lr_ne ha hb (nomark _)
/-- any expression that comes to a bool, as a test -/
theorem pdt_val (h : PD X e ma) (he : ∀ whole, isTrue e X.env whole = (do let v ← whole; standAt e.pos; holding [v] (truthy v)) := by intro _; rfl) : PDT X e (dBoolT ma) :=
  let ⟨_, h1, l1⟩ := h; ⟨_, pt_val h1 he, lt_ofB l1⟩
def dAndT (m n : DT) : DT := fun σd Q => m σd fun b => if b = true then n σd Q else Q false
def dOrT (m n : DT) : DT := fun σd Q => m σd fun b => if b = true then Q true else n σd Q
def dNotT (m : DT) : DT := fun σd Q => m σd fun b => Q (!b)
variable {ta tb : DT}
theorem pdw_and1 (ha : PDT X a ta) : PDW X (.BoolOp .And [a] pos) ta := let ⟨_, h, l⟩ := ha; ⟨_, pw_and1 h, l⟩
theorem pdw_or1 (ha : PDT X a ta) : PDW X (.BoolOp .Or [a] pos) ta := let ⟨_, h, l⟩ := ha; ⟨_, pw_or1 h, l⟩
theorem pdw_and (ha : PDT X a ta) (hb : PDW X (.BoolOp .And (b :: rest) pos) tb) : PDW X (.BoolOp .And (a :: b :: rest) pos) (dAndT ta tb) := let ⟨_, h1, l1⟩ := ha; let ⟨_, h2, l2⟩ := hb; ⟨_, pw_and h1 h2, lt_and l1 l2⟩
theorem pdw_or (ha : PDT X a ta) (hb : PDW X (.BoolOp .Or (b :: rest) pos) tb) : PDW X (.BoolOp .Or (a :: b :: rest) pos) (dOrT ta tb) := let ⟨_, h1, l1⟩ := ha; let ⟨_, h2, l2⟩ := hb; ⟨_, pw_or h1 h2, lt_or l1 l2⟩
theorem pdt_w (h : PDW X e ta) : PDT X e ta := let ⟨_, h, l⟩ := h; ⟨_, h.pt, l⟩
theorem pdt_not (ha : PDT X a ta) : PDT X (.UnaryOp .Not a pos) (dNotT ta) := let ⟨_, h1, l1⟩ := ha; ⟨_, pt_not h1, lt_not l1⟩
def dAndV (m n : DE) : DE := fun σd Q => m σd fun d => match d with | .bool b => (if b = true then n σd Q else Q (.bool false)) | _ => False
def dOrV (m n : DE) : DE := fun σd Q => m σd fun d => match d with | .bool b => (if b = true then Q (.bool true) else n σd Q) | _ => False
def dNotV (m : DE) : DE := fun σd Q => m σd fun d => match d with | .bool b => Q (.bool (!b)) | _ => False
def dIfE (t : DT) (m n : DE) : DE := fun σd Q => t σd fun b => if b = true then m σd Q else n σd Q
theorem pd_one {op} (h : PD X a ma) : PD X (.BoolOp op [a] pos) ma := let ⟨_, h1, l1⟩ := h; ⟨_, pe_one h1, l1⟩
theorem pd_and (ha : PD X a ma) (hb : PD X (.BoolOp .And (b :: rest) pos) mb) : PD X (.BoolOp .And (a :: b :: rest) pos) (dAndV ma mb) := let ⟨_, h1, l1⟩ := ha; let ⟨_, h2, l2⟩ := hb; ⟨_, pe_and h1 h2, le_andV l1 l2⟩
theorem pd_or (ha : PD X a ma) (hb : PD X (.BoolOp .Or (b :: rest) pos) mb) : PD X (.BoolOp .Or (a :: b :: rest) pos) (dOrV ma mb) := let ⟨_, h1, l1⟩ := ha; let ⟨_, h2, l2⟩ := hb; ⟨_, pe_or h1 h2, le_orV l1 l2⟩
theorem pd_not (ha : PD X a ma) : PD X (.UnaryOp .Not a pos) (dNotV ma) := let ⟨_, h1, l1⟩ := ha; ⟨_, pe_not h1, le_notV l1⟩
theorem pd_ifexp (hc : PDT X c ta) (ha : PD X a ma) (hb : PD X b mb) : PD X (.IfExp c a b pos) (dIfE ta ma mb) := let ⟨_, h0, l0⟩ := hc; let ⟨_, h1, l1⟩ := ha; let ⟨_, h2, l2⟩ := hb; ⟨_, pe_ifExp h0 h1 h2, le_if l0 l1 l2⟩
/-! subscripts -/
def dIx : DR2 := fun x y Q => match x, y with
  | .list ds, .int i => (match atI ds i with | some d => Q d | none => False)
  | .tuple ds, .int i => (match atI ds i with | some d => Q d | none => False)
  | _, _ => False
theorem Dqs.at {S : Sr} {M : Addr → Prop} {H : Hp} {vs : List V} {ds : List D} {i : Int} {d : D} (r : Dqs S M H vs ds) (h : atI ds i = some d) : ∃ v, atI vs i = some v ∧ Dq S M H v d := by
  unfold atI at h ⊢
  rw [r.length]
  cases e : ixN ds.length i with
  | none => rw [e] at h; cases h
  | some j =>
    rw [e] at h
    obtain ⟨v, h1, h2⟩ := r.get (i := j) (d := d) h
    exact ⟨v, h1, h2⟩
theorem lr_ix : LR (rIx X.K) dIx := by
  intro S M H x y dx dy Qd Q hm rx ry h k
  unfold dIx at h
  split at h
  · cases ry
    split at h
    · rename_i d e
      cases rx with
      | lst na eH r =>
        obtain ⟨v, h1, h2⟩ := r.at e
        exact .inl ⟨_, _, _, v, rfl, rfl, .inl (.inl eH), h1, k d v H h (Same.refl _) h2⟩
    · exact h.elim
  · cases ry
    split at h
    · rename_i d e
      cases rx with
      | tup na eH r =>
        obtain ⟨v, h1, h2⟩ := r.at e
        exact .inr (.inl ⟨_, _, _, v, rfl, rfl, .inl (.inl eH), h1, k d v H h (Same.refl _) h2⟩)
    · exact h.elim
  · exact h.elim
theorem pd_ix (ha : PD X a ma) (hb : PD X b mb) (hs : PlainIx b := by exact fun _ _ => rfl) : PD X (.Subscript a b pos) (dOp dIx ma mb) := let ⟨_, h1, l1⟩ := ha; let ⟨_, h2, l2⟩ := hb; ⟨_, pe_ix ix_seq h1 h2 hs, le_op lr_ix l1 l2⟩
/-! calls -/
def dCall (spd : DSp) (m : DA) : DE := fun σd Q => m σd fun ds => spd ds Q
def dCall0 (spd : DSp) : DE := fun _ Q => spd [] Q
variable {k n' : Nat} {f : Addr} {fd : FuncData} {ps : List Str} {spd : DSp} {x : Str} {p : Pos}
theorem pd_call (F : FnG X.prog X.w X.K X.mg X.base k f fd ps (SpD n' spd)) (hr : Room k X.A) (hgu : X.A.guards = some []) (hg : Gl X x) (hm : X.mg x = some (.ref f)) (hk : PySem.W.keepIn X.K (.ref f) = true) (hb : Binds X.K fd ps [])
    (ha : PDA X (e :: es) n' m) (hdb : (x == ("__debug__" : Str)) = false := by decide) (he : starEach (e :: es) X.env = (false, eval e X.env) :: starEach es X.env := by rfl) (hpl : (backTo pos (starEach es X.env)).any (·.1) = false := by rfl) :
    PD X (.Call (.Name x p) (e :: es) [] pos) (dCall spd m) := let ⟨_, h1, l1⟩ := ha; ⟨_, pe_callG F hr hgu hg hm hk hb h1 hdb he hpl, le_callG l1⟩
theorem pd_call0 (F : FnG X.prog X.w X.K X.mg X.base k f fd ps (SpD 0 spd)) (hr : Room k X.A) (hgu : X.A.guards = some []) (hg : Gl X x) (hm : X.mg x = some (.ref f)) (hk : PySem.W.keepIn X.K (.ref f) = true) (hb : Binds X.K fd ps [])
    (hdb : (x == ("__debug__" : Str)) = false := by decide) : PD X (.Call (.Name x p) [] [] pos) (dCall0 spd) :=
  ⟨_, pe_callG0 F hr hgu hg hm hk hb hdb, fun S M H0 H σ σd Qd Q E hq k => le_callG la_nil S M H0 H σ σd Qd Q E hq k⟩
def dB (dr : DRC) (m : DA) : DE := fun σd Q => m σd fun ds => dr ds Q
variable {id T : String} {r : List V → Hp → VK → Prop} {dr : DRC}
theorem pd_blt (hc : CallR X (.builtin id) r) (l : LC r dr) (hg : Gl X x) (hm : X.mg x = none) (hv : bootBuiltins x = some (.builtin id)) (ha : PDA X (e :: es) n m) (hn : x ≠ "__name__" := by decide) (hdb : (x == ("__debug__" : Str)) = false := by decide)
    (he : starEach (e :: es) X.env = (false, eval e X.env) :: starEach es X.env := by rfl) (hpl : (backTo pos (starEach es X.env)).any (·.1) = false := by rfl) : PD X (.Call (.Name x p) (e :: es) [] pos) (dB dr m) :=
  let ⟨_, h1, l1⟩ := ha; ⟨_, pe_callB hc hg hm hv h1 hn hdb he hpl, le_cb l l1⟩
theorem pd_ty (hc : CallR X (.type T) r) (l : LC r dr) (hg : Gl X x) (hm : X.mg x = none) (hv : bootBuiltins x = some (.type T)) (ha : PDA X (e :: es) n m) (hn : x ≠ "__name__" := by decide) (hdb : (x == ("__debug__" : Str)) = false := by decide)
    (he : starEach (e :: es) X.env = (false, eval e X.env) :: starEach es X.env := by rfl) (hpl : (backTo pos (starEach es X.env)).any (·.1) = false := by rfl) : PD X (.Call (.Name x p) (e :: es) [] pos) (dB dr m) :=
  let ⟨_, h1, l1⟩ := ha; ⟨_, pe_callTy hc hg hm hv h1 hn hdb he hpl, le_cb l l1⟩
theorem pd_bfun (hc : CallR X (.builtin id) r) (l : LC r dr) (hg : Gl X x) (hm : X.mg x = some (.builtin id)) (ha : PDA X (e :: es) n m) (hdb : (x == ("__debug__" : Str)) = false := by decide)
    (he : starEach (e :: es) X.env = (false, eval e X.env) :: starEach es X.env := by rfl) (hpl : (backTo pos (starEach es X.env)).any (·.1) = false := by rfl) : PD X (.Call (.Name x p) (e :: es) [] pos) (dB dr m) :=
  let ⟨_, h1, l1⟩ := ha; ⟨_, pe_callBfun hc hg hm h1 hdb he hpl, le_cb l l1⟩
/-! statements -/
theorem pss_d1 {st : Stmt} {m : DS} (h : PDS Wx X st m) : PDSs Wx X [st] m := let ⟨_, h1, l1⟩ := h; ⟨_, pss_one h1, l1⟩
theorem pss_dc {st : Stmt} {rest : List Stmt} {m n : DS} (h1 : PDS Wx X st m) (h2 : PDSs Wx X rest n) : PDSs Wx X (st :: rest) (dSeq m n) := let ⟨_, h1, l1⟩ := h1; let ⟨_, h2, l2⟩ := h2; ⟨_, pss_cons h1 h2, ls_seq l1 l2⟩
theorem pss_d0 : PDSs Wx X [] dNext := ⟨_, pss_nil, ls_next⟩
theorem psd_if {c : Expr} {a b : List Stmt} {dc : DT} {m n : DS} (hc : PDT X c dc) (ha : PDSs Wx X a m) (hb : PDSs Wx X b n) : PDS Wx X (.If c a b pos) (dIf dc m n) :=
  let ⟨_, h0, l0⟩ := hc; let ⟨_, h1, l1⟩ := ha; let ⟨_, h2, l2⟩ := hb; ⟨_, ps_if h0 h1 h2, ls_if l0 l1 l2⟩
theorem psd_ret (h : PD X e ma) : PDS Wx X (.Return (some e) pos) (dRet ma) := let ⟨_, h1, l1⟩ := h; ⟨_, ps_ret h1, ls_ret l1⟩
theorem psd_pass : PDS Wx X (.Pass pos) dNext := ⟨_, ps_pass, ls_next⟩
theorem psd_cont : PDS Wx X (.Continue pos) (fun Dd σd => Dd.ct σd) := ⟨_, ps_continue, ls_cont⟩
theorem psd_break : PDS Wx X (.Break pos) (fun Dd σd => Dd.bk σd) := ⟨_, ps_break, ls_break⟩
theorem psd_set {i : Nat} {x : Str} {pos' : Pos} (hN : X.N.Nodup) (hi : X.N[i]? = some x) (hx : Loc X.env.scope x) (he : PD X e ma) (hs : swapsWith e (some (.Name x pos')) pos.line X.env = pure false := by rfl)
    (hf : X.fn x = true ∨ X.env.scope.names.lookup x = some .local := by first | exact .inl rfl | exact .inr rfl) : PDS Wx X (.Assign [.Name x pos'] e pos) (dAsg ma (dgName i)) :=
  let ⟨_, h1, l1⟩ := he; ⟨_, ps_set hN hi hx h1 hs hf, ls_asg l1 (lg_name i)⟩
def PDGs (X : Cx) (ts : List Expr) (n : Nat) (dg : DGs) : Prop := ∃ t, PGs X ts t ∧ LGs t dg ∧ ∀ ds σd Q, dg ds σd Q → ds.length = n
theorem pdgs_nil : PDGs X [] 0 dgNil := ⟨_, pgs_nil, lgs_nil, fun ds σd Q h => by cases ds with | nil => rfl | cons _ _ => exact h.elim⟩
theorem pdgs_cons {i n : Nat} {x : Str} {pos' : Pos} {es : List Expr} {dg : DGs} (hN : X.N.Nodup) (hi : X.N[i]? = some x) (hx : Loc X.env.scope x) (h : PDGs X es n dg)
    (hs : (assignEach (.Name x pos' :: es) X.env).map (·.2) = assign (.Name x pos') X.env :: (assignEach es X.env).map (·.2) := by rfl) (hf : X.fn x = true ∨ X.env.scope.names.lookup x = some .local := by first | exact .inl rfl | exact .inr rfl) : PDGs X (.Name x pos' :: es) (n + 1) (dgCons (dgName i) dg) :=
  let ⟨_, h1, l1, q⟩ := h
  ⟨_, pgs_cons (pg_name hN hi hx hf) h1 hs, lgs_cons l1, fun ds σd Q z => by
    cases ds with
    | nil => exact z.elim
    | cons d r => exact congrArg (· + 1) (q r _ Q z)⟩
def PDG (X : Cx) (tg : Expr) (dg : DG) : Prop := ∃ t, PG X tg t ∧ LG t dg
theorem pdg_name {i : Nat} {x : Str} {pos' : Pos} (hN : X.N.Nodup) (hi : X.N[i]? = some x) (hx : Loc X.env.scope x) (hf : X.fn x = true ∨ X.env.scope.names.lookup x = some .local := by first | exact .inl rfl | exact .inr rfl) : PDG X (.Name x pos') (dgName i) := ⟨_, pg_name hN hi hx hf, lg_name i⟩
theorem pdg_tup {k n : Nat} {es : List Expr} {dg : DGs} (hc : X.calm = true) (h : PDGs X es n dg) (hn : (assignEach es X.env).length = n := by rfl) (hst : (assignEach es X.env).findIdx? (·.1) = none := by rfl) : PDG X (.Tuple es k pos) (dgTup dg) :=
  let ⟨_, h1, l1, q⟩ := h; ⟨_, pg_tup hc h1 hn hst, lg_tup l1 q⟩
theorem psd_asg {tg : Expr} {dg : DG} (he : PD X e ma) (hg : PDG X tg dg) (hs : swapsWithSole [tg] e pos.line X.env = pure false := by rfl) (hw : swappedStores [tg] e X.env = pure none := by rfl)
    (h1 : (assignEach [tg] X.env).map (·.2) = [assign tg X.env] := by rfl) : PDS Wx X (.Assign [tg] e pos) (dAsg ma dg) := let ⟨_, h2, l2⟩ := he; let ⟨_, h3, l3⟩ := hg; ⟨_, ps_asg h2 h3 hs hw h1, ls_asg l2 l3⟩
/-- a, b = x, y -/
def dPar (i j : Nat) (m : DA) : DS := fun Dd σd => m σd fun ds => match ds with | [d, e] => Dd.nx ((σd.set i (.val d)).set j (.val e)) | _ => False
theorem ls_par {i j n : Nat} {t : TA} {m : DA} (h : LA n t m) : LS Wx (tPar i j t) (dPar i j m) := by
  intro S M H0 H σ σd Dd Dn E hm r
  refine h S M H0 H σ σd _ _ E hm fun ds vs H' q E' k r' _ => ?_
  split at q
  · cases r' with
    | cons a b =>
      cases b with
      | cons b c =>
        cases c
        exact ⟨_, _, rfl, r.1 _ _ _ q ((E'.put a).put (b.go fun a o n e => ⟨fun z => n (MOset z), e⟩))⟩
  · exact q.elim
theorem psd_par {i j : Nat} {x y : Str} {a b : Expr} {px py pt : Pos} {kt k2 pt2} (hc : X.calm = true) (hN : X.N.Nodup) (hi : X.N[i]? = some x) (hj : X.N[j]? = some y) (hij : i ≠ j)
    (hx : X.env.scope.names.lookup x = some .local) (hy : X.env.scope.names.lookup y = some .local) (ha : PDA X [a, b] n m)
    (hw : swappedStores [.Tuple [.Name x px, .Name y py] kt pt] (.Tuple [a, b] k2 pt2) X.env = pure (some [x, y]))
    (hs : swapsWithSole [.Tuple [.Name x px, .Name y py] kt pt] (.Tuple [a, b] k2 pt2) pos.line X.env = pure false := by rfl) :
    PDS Wx X (.Assign [.Tuple [.Name x px, .Name y py] kt pt] (.Tuple [a, b] k2 pt2) pos) (dPar i j m) := let ⟨_, h1, l1⟩ := ha; ⟨_, ps_par hc hN hi hj hij hx hy h1 hw hs, ls_par l1⟩
def dPar3 (i j l : Nat) (m : DA) : DS := fun Dd σd => m σd fun ds => match ds with | [d, e, f] => Dd.nx (((σd.set i (.val d)).set j (.val e)).set l (.val f)) | _ => False
theorem ls_par3 {i j l n : Nat} {t : TA} {m : DA} (h : LA n t m) : LS Wx (tPar3 i j l t) (dPar3 i j l m) := by
  intro S M H0 H σ σd Dd Dn E hm r
  refine h S M H0 H σ σd _ _ E hm fun ds vs H' q E' k r' _ => ?_
  split at q
  · cases r' with
    | cons a b =>
      cases b with
      | cons b c =>
        cases c with
        | cons c e =>
          cases e
          exact ⟨_, _, _, rfl, r.1 _ _ _ q (((E'.put a).put (b.go fun a o n e => ⟨fun z => n (MOset z), e⟩)).put (c.go fun a o n e => ⟨fun z => n (MOset (MOset z)), e⟩))⟩
  · exact q.elim
theorem psd_par3 {i j l : Nat} {x y z : Str} {a b c : Expr} {px py pz pt : Pos} {kt k2 pt2} (hc : X.calm = true) (hN : X.N.Nodup) (hi : X.N[i]? = some x) (hj : X.N[j]? = some y) (hl : X.N[l]? = some z) (hij : i ≠ j ∧ i ≠ l ∧ j ≠ l)
    (hx : X.env.scope.names.lookup x = some .local) (hy : X.env.scope.names.lookup y = some .local) (hz : X.env.scope.names.lookup z = some .local) (ha : PDA X [a, b, c] n m)
    (hw : swappedStores [.Tuple [.Name x px, .Name y py, .Name z pz] kt pt] (.Tuple [a, b, c] k2 pt2) X.env = pure (some [x, y, z]))
    (hs : swapsWithSole [.Tuple [.Name x px, .Name y py, .Name z pz] kt pt] (.Tuple [a, b, c] k2 pt2) pos.line X.env = pure false := by rfl) :
    PDS Wx X (.Assign [.Tuple [.Name x px, .Name y py, .Name z pz] kt pt] (.Tuple [a, b, c] k2 pt2) pos) (dPar3 i j l m) := let ⟨_, h1, l1⟩ := ha; ⟨_, ps_par3 hc hN hi hj hl hij.1 hij.2.1 hij.2.2 hx hy hz h1 hw hs, ls_par3 l1⟩
end
end PH

/-! repr, isinstance, other built-ins, lists of one's own. -/
namespace PH
open PySem PySem.Spec L2
open PyProof.Rows (envOfC)

mutual
def noL : D → Bool
  | .list _ => false
  | .tuple xs => noLs xs
  | _ => true
def noLs : List D → Bool
  | [] => true
  | x :: xs => noL x && noLs xs
end
mutual
def noS : D → Bool
  | .list xs => noSs xs
  | .tuple xs => noSs xs
  | .dict kvs => kvs.isEmpty
  | _ => true
def noSs : List D → Bool
  | [] => true
  | x :: xs => noS x && noSs xs
end
section
variable {X : Cx} {pins : List (Addr × Obj)} {σ : L2.St} {H : Hp} {s : Shared} {S : Sr} {M : Addr → Prop}
mutual
theorem Dq.reads (I : Inv X pins σ H s) : ∀ {d : D} {v : V} {u : Value}, Dq S M H v d → noS d = true → RelV v u → ∃ as, Reads s.heap u d as ∧ (noL d = true → sysModules ∉ as)
  | _, _, _, .non, _, r => by cases r; exact ⟨_, Reads.none, fun _ z => nomatch z⟩
  | _, _, _, .bl b, _, r => by cases r; exact ⟨_, Reads.bool b, fun _ z => nomatch z⟩
  | _, _, _, .int i, _, r => by obtain ⟨t, rfl⟩ := r; exact ⟨_, Reads.int i t, fun _ z => nomatch z⟩
  | _, _, _, .str x, _, r => by obtain ⟨t, rfl⟩ := r; exact ⟨_, Reads.str x t, fun _ z => nomatch z⟩
  | _, _, _, .lst n e q, h, r => by
    cases r
    obtain ⟨_, its, m, rv, ho⟩ := I.hok _ _ e
    obtain ⟨as, hr, _⟩ := Dqs.reads I q (by simpa [noS] using h) rv
    exact ⟨_, Reads.list ho rfl rfl hr, fun z => by simp [noL] at z⟩
  | _, _, _, .tup n e q, h, r => by
    cases r
    obtain ⟨_, its, rv, o, ho, hc, m, hd⟩ := I.hok _ _ e
    obtain ⟨as, hr, hs⟩ := Dqs.reads I q (by simpa [noS] using h) rv
    exact ⟨_, Reads.tuple ho hc hd hr, fun z => hs (by simpa [noL] using z)⟩
  | _, _, _, .dic n e, h, r => by
    cases r
    obtain ⟨_, hsm, vs, rv, o, es, ep, ho, hx, hd, hk, hp, _⟩ := I.hok _ _ e
    cases rv
    have e0 : es.toList = [] := by
      cases z : es.toList with
      | nil => rfl
      | cons a b => rw [z] at hp; cases hp
    refine ⟨_, Reads.dict (as := []) (bs := []) ho hx.1 hd (by rw [e0]; exact .nil) (by rw [e0]; exact .nil), fun _ z => ?_⟩
    have z' := List.mem_singleton.mp (by simpa using z)
    exact absurd z'.symm (beq_eq_false_iff_ne.mp hsm)
  | _, _, _, .src _, h, _ => by simp [noS] at h
theorem Dqs.reads (I : Inv X pins σ H s) : ∀ {ds : List D} {vs : List V} {us : List Value}, Dqs S M H vs ds → noSs ds = true → Vals vs us → ∃ as, ReadsAll s.heap us ds as ∧ (noLs ds = true → sysModules ∉ as)
  | _, _, _, .nil, _, r => by cases r; exact ⟨_, ReadsAll.nil, fun _ z => nomatch z⟩
  | _, _, _, .cons a b, h, r => by
    cases r with
    | cons r1 r2 =>
      simp only [noSs, Bool.and_eq_true] at h
      obtain ⟨as, q1, s1⟩ := Dq.reads I a h.1 r1
      obtain ⟨bs, q2, s2⟩ := Dqs.reads I b h.2 r2
      refine ⟨_, ReadsAll.cons q1 q2, fun z m => ?_⟩
      simp only [noLs, Bool.and_eq_true] at z
      rcases List.mem_append.mp m with m | m
      · exact s1 z.1 m
      · exact s2 z.2 m
end
end
/-- what repr is asked of -/
structure rOk (d : D) : Prop where
  sh : d.showable = true
  ns : noS d = true
  dl : d.hasDict = true → noL d = true
  dp : d.depth ≤ 60
  len : d.shown.length ≤ sizeLine
def rReprV : List V → Hp → VK → Prop := fun xs H Q => ∃ (S : Sr) (M : Addr → Prop) (x : V) (d : D), xs = [x] ∧ Dq S M H x d ∧ rOk d ∧ Q (.str d.shown) H
section
variable {X : Cx}
theorem call_repr (hg : X.A.guards = some []) (hu : X.A.units + 64 < cLine) : CallR X (.builtin "repr") rReprV := by
  intro pins s σ H xs us Q I r h
  obtain ⟨S, M, x, d, rfl, hd, ok, q⟩ := h
  obtain ⟨u, rfl, ru⟩ := vals1 r
  cases hd with
  | non =>
    cases ru
    exact PySem.P.repr_of_none ⟨.str _, H, I.tok _, ⟨_, rfl⟩, by simpa only [PyData.shown] using q⟩
  | bl b =>
    cases ru
    exact PySem.P.repr_of_bool ⟨.str _, H, I.tok _, ⟨_, rfl⟩, by simpa only [PyData.shown] using q⟩
  | int i =>
    obtain ⟨t, rfl⟩ := ru
    exact PySem.P.repr_of_int (by have := ok.sh; simpa [PyData.showable] using this) ⟨.str _, H, I.tok _, ⟨_, rfl⟩, by simpa only [PyData.shown] using q⟩
  | str x =>
    obtain ⟨t, rfl⟩ := ru
    exact PySem.P.repr_of_str ⟨.str _, H, I.tok _, ⟨_, rfl⟩, by simpa only [PyData.shown] using q⟩ (by have := ok.len; simpa only [PyData.shown] using this)
  | lst n e z =>
    have hd : Dq S M H (.ref _) (.list _) := .lst n e z
    cases ru
    obtain ⟨as, hr, hs⟩ := hd.reads I ok.ns rfl
    exact repr_of_reads' hr ok.sh (fun z => hs (ok.dl z)) hg (by have := ok.dp; omega) (fun _ _ e => e) (fun h' u tk hk => ⟨.str _, H, I.kept hk, ⟨_, rfl⟩, q⟩) ok.len
  | tup n e z =>
    have hd : Dq S M H (.ref _) (.tuple _) := .tup n e z
    cases ru
    obtain ⟨as, hr, hs⟩ := hd.reads I ok.ns rfl
    exact repr_of_reads' hr ok.sh (fun z => hs (ok.dl z)) hg (by have := ok.dp; omega) (fun _ _ e => e) (fun h' u tk hk => ⟨.str _, H, I.kept hk, ⟨_, rfl⟩, q⟩) ok.len
  | dic n e =>
    have hd : Dq S M H (.ref _) (.dict []) := .dic n e
    cases ru
    obtain ⟨as, hr, hs⟩ := hd.reads I ok.ns rfl
    exact repr_of_reads' hr ok.sh (fun z => hs (ok.dl z)) hg (by have := ok.dp; omega) (fun _ _ e => e) (fun h' u tk hk => ⟨.str _, H, I.kept hk, ⟨_, rfl⟩, q⟩) ok.len
  | src e => exact absurd ok.ns (by simp [noS])
def dRepr : DRC := fun ds Q => match ds with | [d] => rOk d ∧ Q (.str d.shown) | _ => False
theorem lc_repr : LC rReprV dRepr := by
  intro S M H xs ds Qd Q hm r h k
  unfold dRepr at h
  split at h
  · cases r with
    | cons a b =>
      cases b
      exact ⟨S, M, _, _, rfl, a, h.1, k _ _ H h.2 (Same.refl _) (.str _)⟩
  · exact h.elim
/-- one int in, a datum out -/
def dInt1 (f : Int → D) : DRC := fun ds Q => match ds with | [.int i] => Q (f i) | _ => False
def dAbs : DRC := dInt1 fun i => .int (if i < 0 then -i else i)
theorem lc_abs : LC (fun xs H Q => ∃ i, xs = [.int i] ∧ Q (.int (if i < 0 then -i else i)) H) dAbs := by
  intro S M H xs ds Qd Q hm r h k
  unfold dAbs dInt1 at h
  split at h
  · cases r with
    | cons a b => cases b; cases a; exact ⟨_, rfl, k _ _ H h (Same.refl _) (.int _)⟩
  · exact h.elim
def dIntF : DRC := fun ds Q => match ds with | [.int i] => Q (.int i) | [.bool b] => Q (.int (if b then 1 else 0)) | _ => False
theorem lc_int : LC (fun xs H Q => (∃ i, xs = [.int i] ∧ Q (.int i) H) ∨ ∃ k, xs = [.bl k] ∧ Q (.int (if k then 1 else 0)) H) dIntF := by
  intro S M H xs ds Qd Q hm r h k
  unfold dIntF at h
  split at h
  · cases r with
    | cons a b => cases b; cases a; exact .inl ⟨_, rfl, k _ _ H h (Same.refl _) (.int _)⟩
  · cases r with
    | cons a b => cases b; cases a; exact .inr ⟨_, rfl, k _ _ H h (Same.refl _) (.int _)⟩
  · exact h.elim
def dInt2 (f : Int → Int → Int) : DRC := fun ds Q => match ds with | [.int i, .int j] => Q (.int (f i j)) | _ => False
theorem lc_int2 {f : Int → Int → Int} : LC (fun xs H Q => ∃ i j, xs = [.int i, .int j] ∧ Q (.int (f i j)) H) (dInt2 f) := by
  intro S M H xs ds Qd Q hm r h k
  unfold dInt2 at h
  split at h
  · cases r with
    | cons a b =>
      cases b with
      | cons c b => cases b; cases a; cases c; exact ⟨_, _, rfl, k _ _ H h (Same.refl _) (.int _)⟩
  · exact h.elim
abbrev dMax2 := dInt2 fun i j => if j > i then j else i
abbrev dMin2 := dInt2 fun i j => if j < i then j else i
abbrev dGcd2 := dInt2 fun a b => ((Nat.gcd a.natAbs b.natAbs : Nat) : Int)
theorem lc_gcd : LC rGcd dGcd2 := lc_int2
def dLen : DRC := fun ds Q => match ds with | [.list xs] => Q (.int xs.length) | [.tuple xs] => Q (.int xs.length) | _ => False
theorem lc_len {K : PySem.W.Frag} : LC (fun xs H Q => ∃ x n, xs = [x] ∧ LenV K x H n ∧ Q (.int n) H) dLen := by
  intro S M H xs ds Qd Q hm r h k
  unfold dLen at h
  split at h
  · cases r with
    | cons a b =>
      cases b
      cases a with
      | lst n e q => exact ⟨_, _, rfl, .inl ⟨_, .inl (.inl e), rfl⟩, by rw [q.length]; exact k _ _ H h (Same.refl _) (.int _)⟩
  · cases r with
    | cons a b =>
      cases b
      cases a with
      | tup n e q => exact ⟨_, _, rfl, .inr ⟨_, .inl (.inl e), rfl⟩, by rw [q.length]; exact k _ _ H h (Same.refl _) (.int _)⟩
  · exact h.elim
/-! isinstance with a built-in class -/
def tyN : D → String
  | .none => "NoneType" | .bool _ => "bool" | .int _ => "int" | .str _ => "str" | .list _ => "list" | .tuple _ => "tuple" | .dict _ => "dict"
theorem Dq.tyOf {K : PySem.W.Frag} {S : Sr} {M : Addr → Prop} {H : Hp} {v : V} {d : D} (h : Dq S M H v d) (so : SrcOk S M H) : TyOf K H v (.type (tyN d)) := by
  cases h with
  | non => exact .non
  | bl b => exact .bl b
  | int i => exact .int i
  | str x => exact .str x
  | lst n e q => exact .lst e
  | tup n e q => exact .tup e
  | dic n e => exact .dK e
  | src e =>
    obtain ⟨_, _, _, ns, l, m, t, _, h2⟩ := so _ _ e
    exact .dK h2
/-- the answer of isinstance(.., T) for each type of data -/
def isTy (T : String) (d : D) : Bool := (tyN d == T) || (T == "int" && tyN d == "bool")
def kitAll (T : String) : Prop := ∀ (K : PySem.W.Frag) (d : D), PySem.W.kitOne K (.type (tyN d)) (.type T) = some (isTy T d)
def dIsi (T : String) (m : DE) : DE := fun σd Q => m σd fun d => Q (.bool (isTy T d))
theorem pd_isi {T : String} {x : Str} {e : Expr} {p pos pt : Pos} {ma : DE} {xT : Str} (hT : kitAll T) (hg : Gl X x) (hm : X.mg x = none) (hv : bootBuiltins x = some (.builtin "isinstance")) (gT : Gl X xT) (mT : X.mg xT = none) (vT : bootBuiltins xT = some (.type T)) (ha : PD X e ma)
    (hn : x ≠ "__name__" := by decide) (hdb : (x == ("__debug__" : Str)) = false := by decide) (hnT : xT ≠ "__name__" := by decide) (hdT : (xT == ("__debug__" : Str)) = false := by decide)
    (hs1 : starEach [e, .Name xT pt] X.env = (false, eval e X.env) :: starEach [.Name xT pt] X.env := by rfl) (hs2 : starEach [.Name xT pt] X.env = (false, eval (.Name xT pt) X.env) :: starEach [] X.env := by rfl)
    (hpl : (backTo pos (starEach [.Name xT pt] X.env)).any (·.1) = false := by rfl) : PD X (.Call (.Name x p) [e, .Name xT pt] [] pos) (dIsi T ma) := by
  obtain ⟨t, h1, l1⟩ := ha
  refine ⟨_, pe_callB call_isi hg hm hv (pa_cons h1 (pa_cons (pe_bltn (v := .ty T) gT mT vT rfl hnT hdT) pa_nil hs2) hs1) hn hdb hs1 hpl, ?_⟩
  intro S M H0 H σ σd Qd Q E h k
  refine l1 S M H0 H σ σd _ _ E h fun d v H1 q E1 k1 r1 => ?_
  have so : SrcOk S (MO M σd) H1 := fun p c e => let ⟨a, b, r⟩ := E1.src p c e; ⟨.inl a, .inl b, r⟩
  exact ⟨v, .ty T, _, _, isTy T d, rfl, .ty T, .base (r1.tyOf so), hT X.K d, k _ _ H1 q E1 k1 (.bl _)⟩
theorem kit_int : kitAll "int" := fun K d => by cases d <;> exact (by with_unfolding_all rfl)
theorem kit_bool : kitAll "bool" := fun K d => by cases d <;> exact (by with_unfolding_all rfl)
theorem kit_tuple : kitAll "tuple" := fun K d => by cases d <;> exact (by with_unfolding_all rfl)
theorem kit_list : kitAll "list" := fun K d => by cases d <;> exact (by with_unfolding_all rfl)
theorem kit_str : kitAll "str" := fun K d => by cases d <;> exact (by with_unfolding_all rfl)
theorem kit_dict : kitAll "dict" := fun K d => by cases d <;> exact (by with_unfolding_all rfl)
end
end PH

/-! Lists of one's own; loops and comprehensions. -/
namespace PH
open PySem PySem.Spec L2
open PyProof.Rows (envOfC)
variable {Wx : WX}

/-! ### a base of one's own for a loop -/
open Classical in
noncomputable def less (H : Hp) (σd : DSt) : Hp := fun a => if ∃ ds, Sl.own a ds ∈ σd then none else H a
theorem less_own {H : Hp} {σd : DSt} {a : Addr} {ds : List D} (h : Sl.own a ds ∈ σd) : less H σd a = none := if_pos ⟨ds, h⟩
theorem less_ne {H : Hp} {σd : DSt} {a : Addr} (h : ¬ ∃ ds, Sl.own a ds ∈ σd) : less H σd a = H a := if_neg h
theorem less_some {H : Hp} {σd : DSt} {a : Addr} {o : HO} (h : less H σd a = some o) : H a = some o ∧ ¬ ∃ ds, Sl.own a ds ∈ σd := by
  by_cases z : ∃ ds, Sl.own a ds ∈ σd
  · rw [less, if_pos z] at h; cases h
  · rw [less_ne z] at h; exact ⟨h, z⟩
section
variable {S : Sr} {M : Addr → Prop} {H0 H H' : Hp} {σ σ' : L2.St} {σd σd' : DSt}
theorem Ev.ownM (E : Ev S M H0 H σ σd) {a : Addr} {ds : List D} (h : Sl.own a ds ∈ σd) : ¬ M a := fun z => E.mt0 a z (E.new a ds h)
theorem Ev.based (E : Ev S M H0 H σ σd) : Ev S M (less H σd) H σ σd where
  len := E.len
  sl := E.sl
  uni := E.uni
  new := fun a ds h => less_own h
  src := E.src
  src0 := fun p c e => by
    obtain ⟨hp, hc, _, ns, l, m, t, h1, h2⟩ := E.src p c e
    rw [less_ne fun ⟨ds, z⟩ => E.ownM z hp, less_ne fun ⟨ds, z⟩ => E.ownM z hc, h1, h2]
    exact ⟨fun z => (nomatch z), fun z => (nomatch z)⟩
  keep := fun a o e _ => (less_some e).1
  mt := E.mt
  mt0 := fun a h => by rw [less_ne fun ⟨ds, z⟩ => E.ownM z h]; exact E.mt a h
/-- back to the base that was -/
theorem Ev.unbased (E : Ev S M H0 H σ σd) (E' : Ev S M (less H σd) H' σ' σd') : Ev S M H0 H' σ' σd' where
  len := E'.len
  sl := E'.sl
  uni := E'.uni
  new := fun a ds h => by
    have z := E'.new a ds h
    by_cases y : ∃ es, Sl.own a es ∈ σd
    · obtain ⟨es, y⟩ := y; exact E.new a es y
    · rw [less_ne y] at z
      cases q : H0 a with
      | none => rfl
      | some o =>
        by_cases w : ∃ p c, S = some (p, c) ∧ (a = p ∨ a = c)
        · obtain ⟨p, c, e, w⟩ := w
          obtain ⟨hp, hc, _⟩ := E.src p c e
          rcases w with w | w
          · exact absurd z (w ▸ E.mt p hp)
          · exact absurd z (w ▸ E.mt c hc)
        · rw [E.keep a o q fun p c e => ⟨fun y => w ⟨p, c, e, .inl y⟩, fun y => w ⟨p, c, e, .inr y⟩⟩] at z
          cases z
  src := E'.src
  src0 := E.src0
  keep := fun a o e n => by
    have q := E.keep a o e n
    refine E'.keep a o ?_ n
    rw [less_ne (fun ⟨ds, z⟩ => absurd (E.new a ds z) (by rw [e]; exact fun y => (nomatch y))), q]
  mt := E'.mt
  mt0 := E.mt0
theorem Ev.unKeep (E : Ev S M H0 H σ σd) (E' : Ev S M (less H σd) H' σ' σd') {a : Addr} {o : HO} (n : ¬ MO M σd a) (e : H a = some o) : H' a = some o :=
  E'.keep a o (by rw [less_ne fun ⟨ds, z⟩ => n (.inr ⟨ds, z⟩), e]) fun p c q => by
    obtain ⟨hp, hc, _⟩ := E.src p c q
    exact ⟨fun z => n (.inl (z ▸ hp)), fun z => n (.inl (z ▸ hc))⟩
/-- own lists of a later state were own, or are new -/
theorem Ev.ownOld (E : Ev S M H0 H σ σd) (E' : Ev S M (less H σd) H' σ' σd') {a : Addr} {o : HO} (n : ¬ MO M σd a) (e : H a = some o) : ¬ MO M σd' a := fun z => by
  rcases z with z | ⟨ds, z⟩
  · exact n (.inl z)
  · have q := E'.new a ds z
    rw [less_ne fun ⟨es, y⟩ => n (.inr ⟨es, y⟩), e] at q
    cases q

/-! ### lists of one's own -/
theorem Ev.own (E : Ev S M H0 H σ σd) {i : Nat} {p : Addr} {xs : List V} {ds : List D} {Hb : Hp} (Eb : Ev S M H0 Hb σ σd) (kb : KeepS S Hb H) (hp : Hb p = none) (e : H p = some (.lst xs)) (r : Dqs S (fun a => MO M σd a ∨ a = p) H xs ds) :
    Ev S M H0 H (σ.set i (some (.ref p))) (σd.set i (Sl.own p ds)) := by
  have np0 : H0 p = none := by
    cases q : H0 p with
    | none => rfl
    | some o =>
      by_cases w : ∃ p' c', S = some (p', c') ∧ (p = p' ∨ p = c')
      · obtain ⟨p', c', z, w⟩ := w
        obtain ⟨h1, h2, _⟩ := Eb.src p' c' z
        rcases w with w | w
        · exact absurd hp (w ▸ Eb.mt p' h1)
        · exact absurd hp (w ▸ Eb.mt c' h2)
      · rw [Eb.keep p o q fun p' c' z => ⟨fun y => w ⟨p', c', z, .inl y⟩, fun y => w ⟨p', c', z, .inr y⟩⟩] at hp
        cases hp
  have nM : ¬ M p := fun z => E.mt0 p z np0
  have nO : ∀ es, Sl.own p es ∉ σd := fun es z => by
    obtain ⟨j, hj⟩ := List.getElem?_of_mem z
    obtain ⟨o, _, _, ys, q, _⟩ := Eb.slot hj
    rw [hp] at q; cases q
  have sub : ∀ a, MO M (σd.set i (Sl.own p ds)) a → MO M σd a ∨ a = p := fun a h => by
    rcases h with h | ⟨es, h⟩
    · exact .inl (.inl h)
    · rcases List.mem_or_eq_of_mem_set h with h | h
      · exact .inl (.inr ⟨es, h⟩)
      · cases h; exact .inr rfl
  -- what stood in the slots does not lead to p
  have g : ∀ a o, ¬ MO M σd a → Hb a = some o → ¬ MO M (σd.set i (Sl.own p ds)) a ∧ H a = some o := fun a o n e' => by
    obtain ⟨_, h2⟩ := Eb.kp kb a o n e'
    exact ⟨fun z => (sub a z).elim n fun y => ne_of_none e' hp y, h2⟩
  have ow : ∀ {j : Nat} {a : Addr} {es : List D}, (σd.set i (Sl.own p ds))[j]? = some (Sl.own a es) → (σd[j]? = some (Sl.own a es) ∧ i ≠ j) ∨ (j = i ∧ a = p) := fun {j a es} h => by
    rw [List.getElem?_set] at h
    by_cases hj : i = j
    · rw [if_pos hj] at h
      split at h
      · cases h; exact .inr ⟨hj.symm, rfl⟩
      · cases h
    · rw [if_neg hj] at h; exact .inl ⟨h, hj⟩
  refine ⟨by rw [List.length_set, List.length_set]; exact E.len, fun j o s h1 h2 => ?_, fun j k a es fs h1 h2 => ?_, fun a es h => ?_, E.src, E.src0, E.keep, E.mt, E.mt0⟩
  · rw [List.getElem?_set] at h1 h2
    by_cases hj : i = j
    · rw [if_pos hj] at h1 h2
      split at h1
      · split at h2
        · cases h1; cases h2
          exact ⟨rfl, xs, e, r.go fun a o n e => ⟨fun z => n (sub a z), e⟩⟩
        · cases h2
      · cases h1
    · rw [if_neg hj] at h1 h2
      have z := Eb.sl j o s h1 h2
      cases s with
      | emp => trivial
      | val d => obtain ⟨w, e', q⟩ := z; exact ⟨w, e', q.go g⟩
      | own a es =>
        obtain ⟨e', ys, h, q⟩ := z
        exact ⟨e', ys, kb a _ h (Eb.ownNe (List.mem_of_getElem? h2)), q.go g⟩
  · rcases ow h1 with h1 | ⟨h1, q1⟩
    · rcases ow h2 with h2 | ⟨h2, q2⟩
      · exact E.uni j k a es fs h1.1 h2.1
      · exact absurd (List.mem_of_getElem? h1.1) (q2 ▸ nO es)
    · rcases ow h2 with h2 | ⟨h2, q2⟩
      · exact absurd (List.mem_of_getElem? h2.1) (q1 ▸ nO fs)
      · rw [h1, h2]
  · rcases List.mem_or_eq_of_mem_set h with h | h
    · exact E.new a es h
    · cases h; exact np0
theorem ls_own {t : TE} {m : DA} {i : Nat} (h : LN t m) : LS Wx (tAsg t (gName i)) (dOwn i m) := by
  intro S M H0 H σ σd Dd Dn E hm r
  refine h S M H0 H σ σd _ _ E hm fun ds p xs H' q E' k hp e rr => ?_
  exact r.1 _ _ _ (q p) (E'.own (i := i) E k hp e rr)
/-- an own list changes -/
theorem Ev.upd (E : Ev S M H0 H σ σd) {i : Nat} {a : Addr} {ds es : List D} {ys : List V} (h : σd[i]? = some (Sl.own a ds)) (r : Dqs S (MO M σd) H ys es) : Ev S M H0 (upd H a (.lst ys)) σ (σd.set i (Sl.own a es)) := by
  have hi : i < σd.length := (List.getElem?_eq_some_iff.mp h).1
  have hm := List.mem_of_getElem? h
  have own : MO M σd a := .inr ⟨ds, hm⟩
  have eqM : ∀ b, MO M (σd.set i (Sl.own a es)) b → MO M σd b := fun b z => by
    rcases z with z | ⟨fs, z⟩
    · exact .inl z
    · rcases List.mem_or_eq_of_mem_set z with z | z
      · exact .inr ⟨fs, z⟩
      · cases z; exact own
  have g : ∀ b o, ¬ MO M σd b → H b = some o → ¬ MO M (σd.set i (Sl.own a es)) b ∧ L2.upd H a (.lst ys) b = some o := fun b o n e =>
    ⟨fun z => n (eqM b z), by rw [upd_ne (fun z : b = a => n (by rw [z]; exact own))]; exact e⟩
  have nsrc := E.ownNe hm
  have ow : ∀ {j : Nat} {b : Addr} {fs : List D}, (σd.set i (Sl.own a es))[j]? = some (Sl.own b fs) → (σd[j]? = some (Sl.own b fs) ∧ i ≠ j) ∨ (j = i ∧ b = a) := fun {j b fs} h => by
    rw [List.getElem?_set] at h
    by_cases hj : i = j
    · rw [if_pos hj, if_pos hi] at h
      cases h; exact .inr ⟨hj.symm, rfl⟩
    · rw [if_neg hj] at h; exact .inl ⟨h, hj⟩
  have src' : SrcOk S M (L2.upd H a (.lst ys)) := fun p c e => by
    obtain ⟨h1, h2, h3, ns, l, m, t, h4, h5⟩ := E.src p c e
    exact ⟨h1, h2, h3, ns, l, m, t, by rw [upd_ne (nsrc p c e).2.symm]; exact h4, by rw [upd_ne (nsrc p c e).1.symm]; exact h5⟩
  refine ⟨by rw [List.length_set]; exact E.len, fun j o s h1 h2 => ?_, fun j k b fs gs h1 h2 => ?_, fun b fs z => ?_, src', E.src0, fun b o e n => ?_, fun b z => ?_, E.mt0⟩
  · rw [List.getElem?_set] at h2
    by_cases hj : i = j
    · rw [if_pos hj, if_pos (hj ▸ hi)] at h2
      cases h2
      subst hj
      obtain ⟨e, _⟩ := E.sl i o _ h1 h
      exact ⟨e, ys, upd_same, r.go g⟩
    · rw [if_neg hj] at h2
      have z := E.sl j o s h1 h2
      cases s with
      | emp => trivial
      | val d => obtain ⟨w, e', q⟩ := z; exact ⟨w, e', q.go g⟩
      | own b fs =>
        obtain ⟨e', xs, h', q⟩ := z
        have nb : b ≠ a := fun y => by
          subst y
          exact hj (E.uni i j b ds fs h h2)
        exact ⟨e', xs, by rw [upd_ne nb]; exact h', q.go g⟩
  · rcases ow h1 with ⟨h3, h4⟩ | ⟨h3, q1⟩
    · rcases ow h2 with ⟨h5, h6⟩ | ⟨h5, q2⟩
      · exact E.uni j k b fs gs h3 h5
      · exact absurd (E.uni i j a ds fs h (q2 ▸ h3)) h4
    · rcases ow h2 with ⟨h5, h6⟩ | ⟨h5, q2⟩
      · exact absurd (E.uni i k a ds gs h (q1 ▸ h5)) h6
      · rw [h3, h5]
  · rcases List.mem_or_eq_of_mem_set z with z | z
    · exact E.new b fs z
    · cases z; exact E.new a ds hm
  · rw [upd_ne fun y => ?_]
    · exact E.keep b o e n
    · subst y; rw [E.new b ds hm] at e; cases e
  · by_cases y : b = a
    · subst y; exact absurd z (E.ownM hm)
    · rw [upd_ne y]; exact E.mt b z
end
end PH

/-! Loops and comprehensions over data. -/
namespace PH
open PySem PySem.Spec L2
open PyProof.Rows (envOfC)
variable {Wx : WX}

/-! ### one reading for each reading over data -/
def tOfE (m : DE) : TE := fun σ H Q => ∃ (S : Sr) (M : Addr → Prop) (H0 : Hp) (σd : DSt) (Qd : D → Prop), Ev S M H0 H σ σd ∧ m σd Qd ∧ ∀ d v H', Qd d → Ev S M H0 H' σ σd → KeepS S H H' → Dq S (MO M σd) H' v d → Q v H'
def tOfT (m : DT) : TT := fun σ H Q => ∃ (S : Sr) (M : Addr → Prop) (H0 : Hp) (σd : DSt) (Qd : Bool → Prop), Ev S M H0 H σ σd ∧ m σd Qd ∧ ∀ b H', Qd b → Ev S M H0 H' σ σd → KeepS S H H' → Q b H'
theorem le_of {m : DE} : LE (tOfE m) m := fun S M H0 H σ σd Qd Q E h k => ⟨S, M, H0, σd, Qd, E, h, k⟩
theorem lt_ofT {m : DT} : LT (tOfT m) m := fun S M H0 H σ σd Qd Q E h k => ⟨S, M, H0, σd, Qd, E, h, k⟩
theorem PD.pe {X : Cx} {e : Expr} {m : DE} (h : PD X e m) : PE X e (tOfE m) := by
  obtain ⟨t, p, l⟩ := h
  exact ⟨fun pins s σ H Q I ⟨S, M, H0, σd, Qd, E, q, k⟩ => p.run pins s σ H Q I (l S M H0 H σ σd Qd Q E q k)⟩
theorem PDT.pt {X : Cx} {e : Expr} {m : DT} (h : PDT X e m) : PT X e (tOfT m) := by
  obtain ⟨t, p, l⟩ := h
  exact ⟨fun pins s σ H Q I ⟨S, M, H0, σd, Qd, E, q, k⟩ => p.run pins s σ H Q I (l S M H0 H σ σd Qd Q E q k)⟩

/-! ### what is walked -/
/-- all that no one may change stands -/
def Stands (M : Addr → Prop) (H1 H : Hp) : Prop := ∀ a o, ¬ M a → H1 a = some o → H a = some o
structure Wk (S : Sr) (M : Addr → Prop) (H1 : Hp) (J : It) (ys : List D) : Prop where
  ex : ∃ (G : Hp → Prop) (Y : Nat → Hp → V → Hp → Prop), Walk J ys.length G Y ∧ (∀ H, Stands M H1 H → G H) ∧ ∀ i H x H', i < ys.length → Stands M H1 H → Y i H x H' →
    Same H H' ∧ ∀ M' : Addr → Prop, (∀ a, M' a → H a ≠ none) → (∀ a o, ¬ M a → H1 a = some o → ¬ M' a) → ∃ d, ys[i]? = some d ∧ Dq S M' H' x d
def LI (wi : TI) (mi : DA) : Prop := ∀ (S : Sr) (M : Addr → Prop) (H0 H : Hp) (σ : L2.St) (σd : DSt) (Qd : List D → Prop) (R : It → Hp → Prop), Ev S M H0 H σ σd → mi σd Qd →
  (∀ ys J H1, Qd ys → Ev S M H0 H1 σ σd → KeepS S H H1 → Wk S (MO M σd) H1 J ys → R J H1) → wi σ H R
theorem wk_list {K : PySem.W.Frag} {S : Sr} {M : Addr → Prop} {H : Hp} {a : Addr} {xs : List V} {ds : List D} (na : ¬ M a) (e : H a = some (.lst xs)) (r : Dqs S M H xs ds) : Wk S M H (Itl K a) ds := by
  refine ⟨fun H => SqL K H a xs, YAt xs, (by rw [← r.length]; exact walk_list (K := K) (a := a) (xs := xs)), fun H2 st => Or.inl (Or.inl (st a _ na e)), fun i H2 x H3 hi st y => ?_⟩
  obtain ⟨e3, hx⟩ := y
  subst e3
  refine ⟨Same.refl _, fun M' _ hM => ?_⟩
  obtain ⟨d, hd, q⟩ := r.getV hx
  exact ⟨d, hd, q.go fun b o n eb => ⟨hM b o n eb, st b o n eb⟩⟩
theorem wk_tup {K : PySem.W.Frag} {S : Sr} {M : Addr → Prop} {H : Hp} {a : Addr} {xs : List V} {ds : List D} (na : ¬ M a) (e : H a = some (.tup xs)) (r : Dqs S M H xs ds) : Wk S M H (Itt K a) ds := by
  refine ⟨fun H => SqT K H a xs, YAt xs, (by rw [← r.length]; exact walk_tup (K := K) (a := a) (xs := xs)), fun H2 st => Or.inl (Or.inl (st a _ na e)), fun i H2 x H3 hi st y => ?_⟩
  obtain ⟨e3, hx⟩ := y
  subst e3
  refine ⟨Same.refl _, fun M' _ hM => ?_⟩
  obtain ⟨d, hd, q⟩ := r.getV hx
  exact ⟨d, hd, q.go fun b o n eb => ⟨hM b o n eb, st b o n eb⟩⟩
def intsD (lo : Int) (n : Nat) : List D := (List.range n).map fun i : Nat => PyData.int (lo + (i : Int))
theorem wk_rng {S : Sr} {M : Addr → Prop} {H : Hp} {lo : Int} {n : Nat} : Wk S M H (Itr lo n) (intsD lo n) := by
  have hl : (intsD lo n).length = n := by simp [intsD]
  refine ⟨_, _, (by rw [hl]; exact walk_range), fun _ _ => trivial, fun i H2 x H3 hi st y => ?_⟩
  obtain ⟨e3, hx⟩ := y
  subst e3
  rw [hl] at hi
  exact ⟨Same.refl _, fun M' _ _ => ⟨.int (lo + i), by simp [intsD, hi], hx ▸ .int _⟩⟩
def dItL (m : DE) : DA := fun σd Q => m σd fun d => match d with | .list ds => Q ds | _ => False
def dItT (m : DE) : DA := fun σd Q => m σd fun d => match d with | .tuple ds => Q ds | _ => False
theorem li_list {K : PySem.W.Frag} {t : TE} {m : DE} (h : LE t m) : LI (iList K t) (dItL m) := by
  intro S M H0 H σ σd Qd R E hm k
  refine h S M H0 H σ σd _ _ E hm fun d v H1 q E1 k1 r1 => ?_
  cases r1 <;> first | exact q.elim | skip
  rename_i a xs ds na e r
  exact ⟨a, rfl, ⟨xs, .inl (.inl e)⟩, k _ _ H1 q E1 k1 (wk_list na e r)⟩
theorem li_tup {K : PySem.W.Frag} {t : TE} {m : DE} (h : LE t m) : LI (iTup K t) (dItT m) := by
  intro S M H0 H σ σd Qd R E hm k
  refine h S M H0 H σ σd _ _ E hm fun d v H1 q E1 k1 r1 => ?_
  cases r1 <;> first | exact q.elim | skip
  rename_i a xs ds na e r
  exact ⟨a, rfl, ⟨xs, .inl (.inl e)⟩, k _ _ H1 q E1 k1 (wk_tup na e r)⟩
def dRng1 (m : DA) : DA := fun σd Q => m σd fun ds => match ds with | [.int j] => (-(2 ^ 62) ≤ j ∧ j < 2 ^ 62) ∧ Q (intsD 0 j.toNat) | _ => False
theorem li_rng1 {n : Nat} {t : TA} {m : DA} (h : LA n t m) : LI (iRng1 t) (dRng1 m) := by
  intro S M H0 H σ σd Qd R E hm k
  refine h S M H0 H σ σd _ _ E hm fun ds vs H1 q E1 k1 r1 _ => ?_
  split at q
  · cases r1 with
    | cons a b =>
      cases b; cases a
      exact ⟨_, rfl, q.1.1, q.1.2, k _ _ H1 q.2 E1 k1 wk_rng⟩
  · exact q.elim
def dRng2 (m : DA) : DA := fun σd Q => m σd fun ds => match ds with | [.int i, .int j] => (-(2 ^ 62) ≤ i ∧ i < 2 ^ 62 ∧ -(2 ^ 62) ≤ j ∧ j < 2 ^ 62) ∧ Q (intsD i (j - i).toNat) | _ => False
theorem li_rng2 {n : Nat} {t : TA} {m : DA} (h : LA n t m) : LI (iRng2 t) (dRng2 m) := by
  intro S M H0 H σ σd Qd R E hm k
  refine h S M H0 H σ σd _ _ E hm fun ds vs H1 q E1 k1 r1 _ => ?_
  split at q
  · cases r1 with
    | cons a b =>
      cases b with
      | cons b c =>
        cases c; cases a; cases b
        exact ⟨_, _, rfl, q.1, k _ _ H1 q.2 E1 k1 wk_rng⟩
  · exact q.elim
def zipD (xs ys : List D) : List D := List.zipWith (fun x y => .tuple [x, y]) xs ys
def dZip (m : DA) : DA := fun σd Q => m σd fun ds => match ds with | [.list xs, .list ys] => Q (zipD xs ys) | _ => False
theorem li_zip {K : PySem.W.Frag} {n : Nat} {t : TA} {m : DA} (h : LA n t m) : LI (iZip K t) (dZip m) := by
  intro S M H0 H σ σd Qd R E hm k
  refine h S M H0 H σ σd _ _ E hm fun ds vs H1 q E1 k1 r1 _ => ?_
  split at q
  · rename_i ds es
    cases r1 with
    | cons a b =>
      cases b with
      | cons b c =>
        cases c
        cases a with
        | @lst p xs _ na ea ra =>
        cases b with
        | @lst q' ys _ nb eb rb =>
        have hl : (zipD ds es).length = min xs.length ys.length := by simp [zipD, ra.length, rb.length]
        refine ⟨p, q', xs, ys, rfl, .inl (.inl ea), .inl (.inl eb), k _ _ H1 q E1 k1 ⟨_, _, walk_zip hl, fun H2 st => ⟨.inl (.inl (st _ _ na ea)), .inl (.inl (st _ _ nb eb))⟩, fun i H2 x H3 hi st y => ?_⟩⟩
        obtain ⟨T, x1, y1, e1, hT, e3, hx, hy⟩ := y
        subst e1; subst e3
        have sm := Same.upd (o := .tup [x1, y1]) hT
        refine ⟨sm, fun M' h1 h2 => ?_⟩
        obtain ⟨d, hd, qd⟩ := ra.getV hx
        obtain ⟨e, he, qe⟩ := rb.getV hy
        have g : ∀ b o, ¬ MO M σd b → H1 b = some o → ¬ M' b ∧ upd H2 T (.tup [x1, y1]) b = some o := fun b o n eb => ⟨h2 b o n eb, sm b o (st b o n eb)⟩
        refine ⟨.tuple [d, e], by simp [zipD, List.getElem?_zipWith, hd, he], .tup (fun z => h1 T z hT) upd_same (.cons (qd.go g) (.cons (qe.go g) .nil))⟩
  · exact q.elim

/-! ### for -/
def dFor (mi : DA) (g : DG) (mb : DS) : DS := fun Dd σd => mi σd fun ys => ∃ W : Nat → DSt → Prop, W 0 σd ∧ (∀ i y σ', ys[i]? = some y → W i σ' → g y σ' fun σ2 => mb { Dd with nx := W (i + 1), ct := W (i + 1), bk := Dd.nx } σ2) ∧ ∀ σ', W ys.length σ' → Dd.nx σ'
theorem keep_unless {S : Sr} {M : Addr → Prop} {H0 H H' : Hp} {σ : L2.St} {σd : DSt} (E : Ev S M H0 H σ σd) (k : KeepS S (less H σd) H') : KeepS S H0 H' := fun a o e n => by
  have q := E.keep a o e n
  refine k a o ?_ n
  rw [less_ne (fun ⟨ds, z⟩ => absurd (E.new a ds z) (by rw [e]; exact fun y => (nomatch y))), q]
theorem ls_for {wi : TI} {g : TG} {tb : TS} {mi : DA} {dg : DG} {mb : DS} (hi : LI wi mi) (hg : LG g dg) (hb : LS Wx tb mb) : LS Wx (tFor wi g tb) (dFor mi dg mb) := by
  intro S M H0 H σ σd Dd Dn E hm r
  refine hi S M H0 H σ σd _ _ E hm fun ys J H1 q E1 k1 wk => ?_
  obtain ⟨G, Y, w, hG, hY⟩ := wk.ex
  obtain ⟨W, w0, wt, wd⟩ := q
  have st : ∀ {H2 σ' σd'}, Ev S M (less H1 σd) H2 σ' σd' → Stands (MO M σd) H1 H2 := fun E2 a o n e => E1.unKeep E2 n e
  refine for_it w (fun i σ' H2 => ∃ σd', W i σd' ∧ Ev S M (less H1 σd) H2 σ' σd') ⟨σd, w0, E1.based⟩ (fun i σ' H2 _ ⟨σd', _, E2⟩ => hG H2 (st E2)) ?_ ?_
  · rintro i x σ' H2 H3 hi' ⟨σd', wi', E2⟩ y
    obtain ⟨sm, hd⟩ := hY i H2 x H3 hi' (st E2) y
    have E3 := E2.same sm
    obtain ⟨d, hd1, hd2⟩ := hd (MO M σd') E2.mtO fun a o n e => E1.ownOld E2 n e
    refine hg S M (less H1 σd) H3 σ' σd' x d _ _ E3 hd2 (wt i d σd' hd1 wi') fun σd2 σ2 q2 E4 => ?_
    refine hb S M (less H1 σd) H3 σ2 σd2 _ _ E4 q2 ⟨fun a b c q E => ⟨a, q, E⟩, fun d v H' q k s m r' => r.2.1 d v H' q (keep_unless E1 k) s m r', fun a b c q E => r.1 a b c q (E1.unbased E), fun a b c q E => ⟨a, q, E⟩, fun e a b c q E => r.2.2.2.2 e a b c q (E1.unbased E)⟩
  · rintro σ' H2 ⟨σd', w', E2⟩
    exact r.1 _ _ _ (wd σd' w') (E1.unbased E2)

/-! ### list comprehensions -/
/-- a target sets the block's own slots alone -/
def Sets (g : TG) (vs : List Nat) : Prop := ∀ (v : V) (σ : L2.St) (H : Hp) (Q Q' : L2.St → Hp → Prop), g v σ H Q → (∀ σ' H', Q σ' H' → wipe σ' vs = wipe σ vs → Q' σ' H') → g v σ H Q'
def SetsS (g : TGs) (vs : List Nat) : Prop := ∀ (us : List V) (σ : L2.St) (H : Hp) (Q Q' : L2.St → Hp → Prop), g us σ H Q → (∀ σ' H', Q σ' H' → wipe σ' vs = wipe σ vs → Q' σ' H') → g us σ H Q'
theorem wipe_set {i : Nat} {x : Option V} : ∀ {vs : List Nat} (σ : L2.St), i ∈ vs → wipe (σ.set i x) vs = wipe σ vs
  | [], σ, h => by simp at h
  | v :: vs, σ, h => by
    unfold wipe
    by_cases e : v = i
    · subst e
      by_cases hm : v ∈ vs
      · rw [wipe_set σ hm]
      · have c : wipe (σ.set v x) vs = (wipe σ vs).set v x := by
          clear h
          induction vs with
          | nil => rfl
          | cons u us ih =>
            simp only [List.mem_cons, not_or] at hm
            show (wipe (σ.set v x) us).set u none = ((wipe σ us).set u none).set v x
            rw [ih hm.2, List.set_comm _ _ hm.1]
        rw [c, List.set_set]
    · rw [wipe_set σ ((List.mem_cons.mp h).resolve_left fun z => e z.symm)]
theorem wipe_wipe {vs : List Nat} (σ : L2.St) : ∀ {us : List Nat}, (∀ u ∈ us, u ∈ vs) → wipe (wipe σ us) vs = wipe σ vs
  | [], _ => rfl
  | u :: us, h => by
    show wipe ((wipe σ us).set u none) vs = _
    rw [wipe_set _ (h u (by simp)), wipe_wipe σ fun x hx => h x (by simp [hx])]
theorem sets_name {i : Nat} {vs : List Nat} (h : i ∈ vs) : Sets (gName i) vs := fun v σ H Q Q' q k => k _ _ q (wipe_set σ h)
theorem sets_nil {vs : List Nat} : SetsS gNil vs := fun us σ H Q Q' q k => ⟨q.1, k _ _ q.2 rfl⟩
theorem sets_cons {gs : TGs} {vs : List Nat} {i : Nat} (hi : i ∈ vs) (h : SetsS gs vs) : SetsS (gCons (gName i) gs) vs := by
  rintro us σ H Q Q' ⟨v, r, e, q⟩ k
  refine ⟨v, r, e, ?_⟩
  exact h r (σ.set i (some v)) H Q Q' q fun σ' H' q' z => k σ' H' q' (z.trans (wipe_set σ hi))
theorem sets_tup {K : PySem.W.Frag} {n : Nat} {gs : TGs} {vs : List Nat} (h : SetsS gs vs) : Sets (gTup K n gs) vs := fun v σ H Q Q' ⟨a, xs, e, s, l, q⟩ k => ⟨a, xs, e, s, l, h xs σ H Q Q' q k⟩
def dwipe (σd : DSt) : List Nat → DSt
  | [] => σd
  | v :: vs => (dwipe σd vs).set v .emp
theorem Ev.drop {S : Sr} {M : Addr → Prop} {H0 H : Hp} {σ : L2.St} {σd : DSt} (E : Ev S M H0 H σ σd) (i : Nat) : Ev S M H0 H (σ.set i none) (σd.set i .emp) := by
  have sub : ∀ a, MO M (σd.set i .emp) a → MO M σd a := fun a h => by
    rcases h with h | ⟨ds, h⟩
    · exact .inl h
    · rcases List.mem_or_eq_of_mem_set h with h | h
      · exact .inr ⟨ds, h⟩
      · cases h
  have g : ∀ a o, ¬ MO M σd a → H a = some o → ¬ MO M (σd.set i .emp) a ∧ H a = some o := fun a o n e => ⟨fun z => n (sub a z), e⟩
  have ow : ∀ {j : Nat} {a : Addr} {ds : List D}, (σd.set i .emp)[j]? = some (Sl.own a ds) → σd[j]? = some (Sl.own a ds) := fun {j a ds} h => by
    rw [List.getElem?_set] at h
    split at h
    · first
        | cases h
        | (split at h <;> cases h)
    · exact h
  refine ⟨by rw [List.length_set, List.length_set]; exact E.len, fun j o s h1 h2 => ?_, fun j k a ds es h1 h2 => E.uni j k a ds es (ow h1) (ow h2), fun a ds h => ?_, E.src, E.src0, E.keep, E.mt, E.mt0⟩
  · rw [List.getElem?_set] at h1 h2
    by_cases hj : i = j
    · rw [if_pos hj] at h1 h2
      split at h2
      · cases h2; trivial
      · cases h2
    · rw [if_neg hj] at h1 h2
      have z := E.sl j o s h1 h2
      cases s with
      | emp => trivial
      | val d => obtain ⟨w, e, q⟩ := z; exact ⟨w, e, q.go g⟩
      | own a ds => obtain ⟨e, xs, h, q⟩ := z; exact ⟨e, xs, h, q.go g⟩
  · rcases List.mem_or_eq_of_mem_set h with h | h
    · exact E.new a ds h
    · cases h
theorem Ev.wipe {S : Sr} {M : Addr → Prop} {H0 H : Hp} {σ : L2.St} {σd : DSt} (E : Ev S M H0 H σ σd) : ∀ vs, Ev S M H0 H (L2.wipe σ vs) (dwipe σd vs)
  | [] => E
  | v :: vs => (E.wipe vs).drop v
end PH

/-! The list comprehension's rule, and the rules of loops for expressions and statements. -/
namespace PH
open PySem PySem.Spec L2
open PyProof.Rows (envOfC)

section
variable {S : Sr} {M M' : Addr → Prop} {H0 H H1 H2 : Hp} {σ : L2.St} {σd : DSt}
theorem Ev.remake (E : Ev S M H0 H1 σ σd) (g : ∀ a o, ¬ MO M σd a → H1 a = some o → ¬ MO M' σd a ∧ H2 a = some o) (ho : ∀ a ds, Sl.own a ds ∈ σd → H2 a = H1 a ∧ ¬ M' a)
    (src : SrcOk S M' H2) (mt : ∀ a, M' a → H2 a ≠ none) : Ev S M' (less H2 σd) H2 σ σd := by
  have no : ∀ a, M' a → ¬ ∃ ds, Sl.own a ds ∈ σd := fun a h ⟨ds, z⟩ => (ho a ds z).2 h
  refine ⟨E.len, fun i o s h1 h2 => ?_, E.uni, fun a ds h => less_own h, src, fun p c e => ?_, fun a o e _ => (less_some e).1, mt, fun a h => ?_⟩
  · have z := E.sl i o s h1 h2
    cases s with
    | emp => trivial
    | val d => obtain ⟨w, e, q⟩ := z; exact ⟨w, e, q.go g⟩
    | own a ds => obtain ⟨e, xs, h, q⟩ := z; exact ⟨e, xs, by rw [(ho a ds (List.mem_of_getElem? h2)).1]; exact h, q.go g⟩
  · obtain ⟨h1, h2, _⟩ := src p c e
    exact ⟨by rw [less_ne (no p h1)]; exact mt p h1, by rw [less_ne (no c h2)]; exact mt c h2⟩
  · rw [less_ne (no a h)]; exact mt a h
/-- own slots out of sight -/
def Sl.clean : Sl → Sl
  | .own _ _ => .emp
  | s => s
def clean (σd : DSt) : DSt := σd.map Sl.clean
theorem clean_no {a : Addr} {ds : List D} : Sl.own a ds ∉ clean σd := fun h => by
  obtain ⟨s, _, e⟩ := List.mem_map.mp h
  cases s <;> cases e
theorem MO_clean {M : Addr → Prop} {a : Addr} : MO M (clean σd) a ↔ M a := ⟨fun h => h.elim id fun ⟨ds, z⟩ => absurd z clean_no, .inl⟩
theorem Ev.clean (E : Ev S M H0 H σ σd) : Ev S (MO M σd) (fun a => H a) H σ (PH.clean σd) := by
  have src : SrcOk S (MO M σd) H := fun p c e => let ⟨a, b, r⟩ := E.src p c e; ⟨.inl a, .inl b, r⟩
  refine ⟨by unfold PH.clean; rw [List.length_map]; exact E.len, fun i o s h1 h2 => ?_, fun i j a ds es h1 _ => absurd (List.mem_of_getElem? h1) clean_no, fun a ds h => absurd h clean_no, src, fun p c e => ?_, .refl, E.mtO, E.mtO⟩
  · unfold PH.clean at h2
    rw [List.getElem?_map] at h2
    cases q : σd[i]? with
    | none => rw [q] at h2; cases h2
    | some s' =>
      rw [q] at h2
      have z := E.sl i o s' h1 q
      cases s' with
      | emp => cases h2; trivial
      | own a ds => cases h2; trivial
      | val d =>
        cases h2
        obtain ⟨v, e, r⟩ := z
        exact ⟨v, e, r.go fun a o n e => ⟨fun y => n (MO_clean.mp y), e⟩⟩
  · obtain ⟨h1, h2, _⟩ := src p c e
    exact ⟨E.mtO p h1, E.mtO c h2⟩
theorem fresh_back (E : Ev S M H0 H σ σd) (k : KeepS S H H1) {p : Addr} (hp : H1 p = none) (src : SrcOk S M H1) : H p = none := by
  cases z : H p with
  | none => rfl
  | some o =>
    by_cases w : ∃ p' c', S = some (p', c') ∧ (p = p' ∨ p = c')
    · obtain ⟨p', c', q1, q2⟩ := w
      obtain ⟨_, _, _, ns, l, mm, tt, h1, h2⟩ := src p' c' q1
      rcases q2 with q2 | q2
      · rw [← q2, hp] at h2; cases h2
      · rw [← q2, hp] at h1; cases h1
    · rw [k p o z fun p' c' q1 => ⟨fun y => w ⟨p', c', q1, .inl y⟩, fun y => w ⟨p', c', q1, .inr y⟩⟩] at hp
      cases hp
end
theorem dwipe_no {σd : DSt} {a : Addr} {es : List D} : ∀ {vs : List Nat}, Sl.own a es ∉ dwipe (clean σd) vs
  | [], h => clean_no h
  | v :: vs, h => by
    unfold dwipe at h
    rcases List.mem_or_eq_of_mem_set h with h | h
    · exact dwipe_no h
    · cases h
/-- a comprehension, by an invariant of what is made so far; own lists are out of sight in its parts -/
def dLcc (mi : DA) (g : DG) (mt : DT) (me : DE) (vs : List Nat) : DA := fun σd Q => mi σd fun ys => ys.length ≤ 1000000 ∧ ∃ W : Nat → List D → Prop, W 0 [] ∧
  (∀ i y acc, ys[i]? = some y → acc.length ≤ i → W i acc → g y (dwipe (clean σd) vs) fun σ2 => mt σ2 fun b => if b = true then me σ2 fun z => W (i + 1) (acc ++ [z]) else W (i + 1) acc) ∧ ∀ acc, W ys.length acc → Q acc
theorem ln_lc {wi : TI} {g : TG} {tt : TT} {te : TE} {vs : List Nat} {mi : DA} {dg : DG} {mt : DT} {me : DE} (hi : LI wi mi) (hg : LG g dg) (sg : Sets g vs) (ht : LT tt mt) (he : LE te me) : LN (tLc wi g tt te vs) (dLcc mi dg mt me vs) := by
  intro S M H0 H σ σd Qd Q E hm k
  refine hi S M H0 H σ σd _ _ E hm fun ys J H1 q E1 k1 wk => ?_
  obtain ⟨G, Y, w, hG, hY⟩ := wk.ex
  obtain ⟨hl, W, w0, wt, wd⟩ := q
  intro Dl hD
  have nown : ∀ a ds, Sl.own a ds ∈ σd → a ≠ Dl := fun a ds z y => by
    subst y
    obtain ⟨i, hi⟩ := List.getElem?_of_mem z
    obtain ⟨o, _, _, xs, e, _⟩ := E1.slot hi
    rw [hD] at e; cases e
  have nsrc : ∀ p c, S = some (p, c) → p ≠ Dl ∧ c ≠ Dl := fun p c e => by
    obtain ⟨_, _, _, ns, l, m, t, h1, h2⟩ := E1.src p c e
    exact ⟨ne_of_none h2 hD, ne_of_none h1 hD⟩
  let M' : Addr → Prop := fun a => M a ∨ a = Dl
  have moS : ∀ a, MO M' σd a → MO M σd a ∨ a = Dl := fun a h => by
    rcases h with (h | h) | h
    · exact .inl (.inl h)
    · exact .inr h
    · exact .inl (.inr h)
  have moT : ∀ a, (MO M σd a ∨ a = Dl) → MO M' σd a := fun a h => by
    rcases h with (h | h) | h
    · exact .inl (.inl h)
    · exact .inr h
    · exact .inl (.inr h)
  let Pv : Nat → Hp → Prop := fun i H2 => ∃ (acc : List V) (ds : List D), H2 Dl = some (.lst acc) ∧ Dqs S (MO M' σd) H2 acc ds ∧ W i ds ∧ ds.length ≤ i ∧ (∃ Hb, Ev S M' Hb H2 σ σd) ∧ KeepS S H1 H2
  have st : ∀ {i H2}, Pv i H2 → Stands (MO M σd) H1 H2 := fun {i H2} ⟨_, _, _, _, _, _, _, kk⟩ a o n e => kk a o e fun p c z => by
    obtain ⟨hp, hc, _⟩ := E1.src p c z
    exact ⟨fun y => n (.inl (y ▸ hp)), fun y => n (.inl (y ▸ hc))⟩
  refine lc_it w Pv ?_ (fun i H2 _ p => hG H2 (st p)) ?_ ?_
  · refine ⟨[], [], upd_same, .nil, w0, Nat.le_refl _, ⟨_, E1.remake (M' := M') (H2 := upd H1 Dl (.lst [])) (fun a o n e => ?_) (fun a ds z => ?_) (fun p c e => ?_) (fun a h => ?_)⟩, .of (Same.upd hD)⟩
    · exact ⟨fun z => (moS a z).elim n fun y => ne_of_none e hD y, by rw [upd_ne (ne_of_none e hD)]; exact e⟩
    · exact ⟨upd_ne (nown a ds z), fun y => y.elim (E1.ownM z) (nown a ds z)⟩
    · obtain ⟨h1, h2, h3, ns, l, m, t, h4, h5⟩ := E1.src p c e
      exact ⟨.inl h1, .inl h2, h3, ns, l, m, t, by rw [upd_ne (nsrc p c e).2]; exact h4, by rw [upd_ne (nsrc p c e).1]; exact h5⟩
    · rcases h with h | h
      · by_cases y : a = Dl
        · rw [y, upd_same]; exact fun z => (nomatch z)
        · rw [upd_ne y]; exact E1.mt a h
      · rw [h, upd_same]; exact fun z => (nomatch z)
  · intro i x H2 H3 hi' pv yy
    have stp := st pv
    obtain ⟨acc, ds, hacc, racc, wi', hle, ⟨Hb, E2⟩, kk⟩ := pv
    obtain ⟨sm, hd⟩ := hY i H2 x H3 hi' stp yy
    have EC := (E2.clean.wipe vs)
    have EC3 := EC.same sm
    have mocl : ∀ a, MO (MO M' σd) (dwipe (clean σd) vs) a → MO M' σd a := fun a h => by
      rcases h with h | ⟨es, h⟩
      · exact h
      · exact absurd h dwipe_no
    obtain ⟨d, hd1, hd2⟩ := hd (MO (MO M' σd) (dwipe (clean σd) vs)) (fun a h => E2.mtO a (mocl a h)) fun a o n e z => by
      rcases moS a (mocl a z) with y | y
      · exact n y
      · exact ne_of_none e hD y
    have wt1 := wt i d ds hd1 hle wi'
    refine sg x (wipe σ vs) H3 (fun σ2 Hx => Hx = H3 ∧ ∃ σd2, Ev S (MO M' σd) H2 H3 σ2 σd2 ∧ mt σd2 fun b => if b = true then me σd2 fun z => W (i + 1) (ds ++ [z]) else W (i + 1) ds) _
      (hg S (MO M' σd) H2 H3 _ _ x d _ _ EC3 hd2 wt1 fun σd2 σ2 q2 E4 => ⟨rfl, σd2, E4, q2⟩) ?_
    rintro σ2 Hx ⟨rfl, σd2, E4, q2⟩ hw
    have E2x := E2.same sm
    refine ⟨hw.trans (wipe_wipe σ fun _ h => h), ht S (MO M' σd) H2 Hx σ2 σd2 _ _ E4 q2 fun b H5 q5 E5 k5 => ?_⟩
    have src5 : ∀ {Hy}, SrcOk S (MO M' σd) Hy → SrcOk S M' Hy := fun {Hy} s p c e => let ⟨a, b, _⟩ := E2.src p c e; let ⟨_, _, r⟩ := s p c e; ⟨a, b, r⟩
    have ne : ∀ p c, S = some (p, c) → Dl ≠ p ∧ Dl ≠ c := fun p c e => ⟨(nsrc p c e).1.symm, (nsrc p c e).2.symm⟩
    cases b with
    | false =>
      have q6 : W (i + 1) ds := by simpa using q5
      have E6 := E2x.ext k5 (src5 E5.src)
      show Pv (i + 1) H5
      exact ⟨acc, ds, k5 _ _ (sm _ _ hacc) ne, E2x.dqs k5 (E2.dqs (.of sm) racc), q6, Nat.le_succ_of_le hle, ⟨_, E6⟩, (kk.trans (.of sm)).trans k5⟩
    | true =>
      have q6 : me σd2 fun z => W (i + 1) (ds ++ [z]) := by simpa using q5
      show te σ2 H5 _
      refine he S (MO M' σd) H2 H5 σ2 σd2 _ _ E5 q6 fun z v H6 q7 E6 k6 r6 => ?_
      have e6 : H6 Dl = some (.lst acc) := k6 _ _ (k5 _ _ (sm _ _ hacc) ne) ne
      have r6' : Dqs S (MO M' σd) H6 acc ds := (E2x.ext k5 (src5 E5.src)).dqs k6 (E2x.dqs k5 (E2.dqs (.of sm) racc))
      have E7 := (E2x.ext k5 (src5 E5.src)).ext k6 (src5 E6.src)
      refine ⟨acc, e6, ?_, ?_⟩
      · rw [racc.length, sizeLine_eq]; omega
      · have moDl : MO M' σd Dl := .inl (.inr rfl)
        have go : ∀ a o, ¬ MO M' σd a → H6 a = some o → ¬ MO M' σd a ∧ upd H6 Dl (.lst (acc ++ [v])) a = some o := fun a o n e => ⟨n, by rw [upd_ne (fun y : a = Dl => n (y ▸ moDl))]; exact e⟩
        have rv : Dq S (MO M' σd) H6 v z := r6.go fun a o n e => ⟨fun y => n (.inl y), e⟩
        refine ⟨acc ++ [v], ds ++ [z], upd_same, (r6'.append (.cons rv .nil)).go go, q7, by simp; omega, ⟨_, E7.remake (M' := M') (H2 := upd H6 Dl (.lst (acc ++ [v]))) go (fun a es y => ?_) (fun p c e => ?_) (fun a h => ?_)⟩, ?_⟩
        · exact ⟨upd_ne (nown a es y), fun y' => y'.elim (E1.ownM y) (nown a es y)⟩
        · obtain ⟨h1, h2, h3, ns, l, m, t, h4, h5⟩ := E7.src p c e
          exact ⟨h1, h2, h3, ns, l, m, t, by rw [upd_ne (nsrc p c e).2]; exact h4, by rw [upd_ne (nsrc p c e).1]; exact h5⟩
        · by_cases y : a = Dl
          · rw [y, upd_same]; exact fun z => (nomatch z)
          · rw [upd_ne y]; exact E7.mt a h
        · have kx := ((kk.trans (.of sm)).trans k5).trans k6
          exact fun a o e n => by rw [upd_ne (ne_of_none e hD)]; exact kx a o e n
  · rintro H2 ⟨acc, ds, hacc, racc, wi', hle, ⟨Hb, E2⟩, kk⟩
    have src2 : SrcOk S M H2 := fun p c e => let ⟨a, b, _⟩ := E1.src p c e; let ⟨_, _, r⟩ := E2.src p c e; ⟨a, b, r⟩
    exact k ds Dl acc H2 (wd ds wi') (E1.ext kk src2) (k1.trans kk) (fresh_back E k1 hD E1.src) hacc (racc.go fun a o n e => ⟨fun z => n (moT a z), e⟩)
end PH

/-! Rules of loops and comprehensions by Python's constructs; more of lists. -/
namespace PH
open PySem PySem.Spec L2
open PyProof.Rows (envOfC)
variable {Wx : WX}

section
variable {X : Cx} {e a b iter tg elt : Expr} {es : List Expr} {pos : Pos} {m ma mb : DE} {md : DA} {n : Nat}
def PDI (X : Cx) (tg iter : Expr) (mi : DA) : Prop := ∃ wi, PI X tg iter wi ∧ LI wi mi
theorem pdi_list (h : PD X e m) : PDI X tg e (dItL m) := let ⟨_, h1, l1⟩ := h; ⟨_, pi_list h1, li_list (K := X.K) l1⟩
theorem pdi_tup (h : PD X e m) : PDI X tg e (dItT m) := let ⟨_, h1, l1⟩ := h; ⟨_, pi_tup h1, li_tup (K := X.K) l1⟩
theorem pdi_rng1 {p : Pos} (hg : Gl X "range") (hm : X.mg "range" = none) (ha : PDA X [a] n md) (hs : starEach [a] X.env = [(false, eval a X.env)] := by rfl) : PDI X tg (.Call (.Name "range" p) [a] [] pos) (dRng1 md) :=
  let ⟨_, h1, l1⟩ := ha; ⟨_, pi_range1 hg hm h1 hs, li_rng1 l1⟩
theorem pdi_zip {p tpos : Pos} {elts : List Expr} {kk : Nat} (hg : Gl X "zip") (hm : X.mg "zip" = none) (ha : PDA X [a, b] n md) (hs : starEach [a, b] X.env = (false, eval a X.env) :: starEach [b] X.env := by rfl) (hpl : (backTo pos (starEach [b] X.env)).any (·.1) = false := by rfl) :
    PDI X (.Tuple elts kk tpos) (.Call (.Name "zip" p) [a, b] [] pos) (dZip md) := let ⟨_, h1, l1⟩ := ha; ⟨_, pi_zip hg hm h1 hs hpl, li_zip (K := X.K) l1⟩
theorem psd_for {body : List Stmt} {mi : DA} {g : DG} {mbd : DS} (hp : PassesOwn (model X.prog X.w) X.A X.env X.xe) (hc : X.calm = true) (hi : PDI X tg iter mi) (hg : PDG X tg g) (hb : PDSs Wx X body mbd) (hs : ∀ x, foldedSetIterable iter X.env x = pure x := by intro _; rfl) :
    PDS Wx X (.For tg iter body [] pos) (dFor mi g mbd) := let ⟨_, h1, l1⟩ := hi; let ⟨_, h2, l2⟩ := hg; let ⟨_, h3, l3⟩ := hb; ⟨_, ps_for hp hc h1 h2 h3 hs, ls_for l1 l2 l3⟩
/-! while -/
def dWhile (c : DT) (mb : DS) : DS := fun Dd σd => ∃ W : Nat → DSt → Prop, (∃ k, W k σd) ∧ ∀ k σ', W k σ' → c σ' fun b => if b = true then mb { Dd with nx := fun σ2 => ∃ k', k' < k ∧ W k' σ2, ct := fun σ2 => ∃ k', k' < k ∧ W k' σ2, bk := Dd.nx } σ' else Dd.nx σ'
theorem ls_while {c : TT} {tb : TS} {dc : DT} {mb : DS} (hc : LT c dc) (hb : LS Wx tb mb) : LS Wx (tWhile c tb) (dWhile dc mb) := by
  intro S M H0 H σ σd Dd Dn E hm r
  obtain ⟨W, ⟨k0, w0⟩, turn⟩ := hm
  refine ⟨fun k σ' H2 => ∃ σ2, W k σ2 ∧ Ev S M H0 H2 σ' σ2, ⟨k0, σd, w0, E⟩, ?_⟩
  rintro k σ' H2 ⟨σ2, w2, E2⟩
  refine hc S M H0 H2 σ' σ2 _ _ E2 (turn k σ2 w2) fun b H3 q E3 k3 => ?_
  cases b with
  | false => exact r.1 _ _ _ (by simpa using q) E3
  | true =>
    show ∃ N : L2.St → Hp → Prop, _
    refine ⟨fun σ4 H4 => ∃ σ5, (∃ k', k' < k ∧ W k' σ5) ∧ Ev S M H0 H4 σ4 σ5, fun σ4 H4 ⟨σ5, ⟨k', hk, w⟩, E5⟩ => ⟨k', hk, σ5, w, E5⟩, ?_⟩
    rw [if_pos rfl] at q
    exact hb S M H0 H3 σ' σ2 _ _ E3 q ⟨fun a b c q E => ⟨a, q, E⟩, r.2.1, fun a b c q E => r.1 a b c q E, fun a b c q E => ⟨a, q, E⟩, r.2.2.2.2⟩
theorem psd_while {c : Expr} {body : List Stmt} {dc : DT} {mbd : DS} (hp : PassesOwn (model X.prog X.w) X.A X.env X.xe) (hc : PDT X c dc) (hb : PDSs Wx X body mbd) : PDS Wx X (.While c body [] pos) (dWhile dc mbd) :=
  let ⟨_, h1, l1⟩ := hc; let ⟨_, h2, l2⟩ := hb; ⟨_, ps_while hp h1 h2, ls_while l1 l2⟩
/-! comprehensions -/
theorem lt_yes : LT tYes (fun _ Q => Q true) := fun S M H0 H σ σd Qd Q E h k => k true H h E .refl
def dYes : DT := fun _ Q => Q true
theorem pdn_lc {scope : Scope} {own : List (Str × Nat)} {mi : DA} {g : TG} {dg : DG} {me : DE} (hc : X.calm = true) (hN : X.N.Nodup) (hi : PDI X tg iter mi) (ok : blkC X.N X.env.scope scope own = true)
    (hg : ∀ (s : Shared) (H : Hp) (C : Addr) (cl : List (Str × Addr)) (fp : List Addr), PG (X.blk s H scope (compEnvC scope cl C X.env) fp) tg g) (lg : LG g dg) (sg : Sets g (own.map (·.2)))
    (he : ∀ (s : Shared) (H : Hp) (C : Addr) (cl : List (Str × Addr)) (fp : List Addr), PD (X.blk s H scope (compEnvC scope cl C X.env) fp) elt me) (hs : ∀ x, foldedSetIterable iter X.env x = pure x := by intro _; rfl) :
    PDN X (.ListComp elt [⟨tg, iter, [], 0⟩] scope pos) (dLcc mi dg dYes me (own.map (·.2))) :=
  let ⟨_, h1, l1⟩ := hi; ⟨_, pe_lc hc hN h1 (blkOk_by ok) hg (fun _ _ _ _ _ => pts_nil) (fun s H C cl fp => (he s H C cl fp).pe) hs, ln_lc l1 lg sg lt_yes le_of⟩
theorem pdn_lci {c : Expr} {scope : Scope} {own : List (Str × Nat)} {mi : DA} {g : TG} {dg : DG} {mt : DT} {me : DE} (hc : X.calm = true) (hN : X.N.Nodup) (hi : PDI X tg iter mi) (ok : blkC X.N X.env.scope scope own = true)
    (hg : ∀ (s : Shared) (H : Hp) (C : Addr) (cl : List (Str × Addr)) (fp : List Addr), PG (X.blk s H scope (compEnvC scope cl C X.env) fp) tg g) (lg : LG g dg) (sg : Sets g (own.map (·.2)))
    (ht : ∀ (s : Shared) (H : Hp) (C : Addr) (cl : List (Str × Addr)) (fp : List Addr), PDT (X.blk s H scope (compEnvC scope cl C X.env) fp) c mt)
    (he : ∀ (s : Shared) (H : Hp) (C : Addr) (cl : List (Str × Addr)) (fp : List Addr), PD (X.blk s H scope (compEnvC scope cl C X.env) fp) elt me) (hs : ∀ x, foldedSetIterable iter X.env x = pure x := by intro _; rfl) :
    PDN X (.ListComp elt [⟨tg, iter, [c], 0⟩] scope pos) (dLcc mi dg mt me (own.map (·.2))) :=
  let ⟨_, h1, l1⟩ := hi; ⟨_, pe_lc hc hN h1 (blkOk_by ok) hg (fun s H C cl fp => pts_one (ht s H C cl fp).pt) (fun s H C cl fp => (he s H C cl fp).pe) hs, ln_lc l1 lg sg lt_ofT le_of⟩
/-- y = [..], never changed -/
theorem psd_setLc {i : Nat} {y : Str} {py spos : Pos} {scope : Scope} {own : List (Str × Nat)} {mi : DA} {g : TG} {dg : DG} {me : DE} (hc : X.calm = true) (hN : X.N.Nodup) (hy : X.N[i]? = some y) (hyl : X.env.scope.names.lookup y = some .local)
    (hsw : swapsWith (.ListComp elt [⟨tg, iter, [], 0⟩] scope pos) (some (.Name y py)) spos.line X.env = pure true) (hi : PDI X tg iter mi) (ok : blkC X.N X.env.scope scope own = true)
    (hg : ∀ (s : Shared) (H : Hp) (C : Addr) (cl : List (Str × Addr)) (fp : List Addr), PG (X.blk s H scope (compEnvC scope cl C X.env) fp) tg g) (lg : LG g dg) (sg : Sets g (own.map (·.2)))
    (he : ∀ (s : Shared) (H : Hp) (C : Addr) (cl : List (Str × Addr)) (fp : List Addr), PD (X.blk s H scope (compEnvC scope cl C X.env) fp) elt me) (hs : ∀ x, foldedSetIterable iter X.env x = pure x := by intro _; rfl) :
    PDS Wx X (.Assign [.Name y py] (.ListComp elt [⟨tg, iter, [], 0⟩] scope pos) spos) (dAsg (dLst (dLcc mi dg dYes me (own.map (·.2)))) (dgName i)) :=
  let ⟨_, h1, l1⟩ := hi; ⟨_, ps_setLc hc hN hy hyl hsw h1 (blkOk_by ok) hg (fun _ _ _ _ _ => pts_nil) (fun s H C cl fp => (he s H C cl fp).pe) hs, ls_asg (ln_lc l1 lg sg lt_yes le_of).le (lg_name i)⟩
theorem psd_setLcO {i : Nat} {y : Str} {py spos : Pos} {scope : Scope} {own : List (Str × Nat)} {mi : DA} {g : TG} {dg : DG} {me : DE} (hc : X.calm = true) (hN : X.N.Nodup) (hy : X.N[i]? = some y) (hyl : X.env.scope.names.lookup y = some .local)
    (hsw : swapsWith (.ListComp elt [⟨tg, iter, [], 0⟩] scope pos) (some (.Name y py)) spos.line X.env = pure true) (hi : PDI X tg iter mi) (ok : blkC X.N X.env.scope scope own = true)
    (hg : ∀ (s : Shared) (H : Hp) (C : Addr) (cl : List (Str × Addr)) (fp : List Addr), PG (X.blk s H scope (compEnvC scope cl C X.env) fp) tg g) (lg : LG g dg) (sg : Sets g (own.map (·.2)))
    (he : ∀ (s : Shared) (H : Hp) (C : Addr) (cl : List (Str × Addr)) (fp : List Addr), PD (X.blk s H scope (compEnvC scope cl C X.env) fp) elt me) (hs : ∀ x, foldedSetIterable iter X.env x = pure x := by intro _; rfl) :
    PDS Wx X (.Assign [.Name y py] (.ListComp elt [⟨tg, iter, [], 0⟩] scope pos) spos) (dOwn i (dLcc mi dg dYes me (own.map (·.2)))) :=
  let ⟨_, h1, l1⟩ := hi; ⟨_, ps_setLc hc hN hy hyl hsw h1 (blkOk_by ok) hg (fun _ _ _ _ _ => pts_nil) (fun s H C cl fp => (he s H C cl fp).pe) hs, ls_own (ln_lc l1 lg sg lt_yes le_of)⟩
/-! own lists -/
theorem psd_own {i : Nat} {x : Str} {pos' : Pos} (hN : X.N.Nodup) (hi : X.N[i]? = some x) (hx : Loc X.env.scope x) (he : PDN X e md) (hs : swapsWith e (some (.Name x pos')) pos.line X.env = pure false := by rfl)
    (hf : X.fn x = true ∨ X.env.scope.names.lookup x = some .local := by first | exact .inl rfl | exact .inr rfl) : PDS Wx X (.Assign [.Name x pos'] e pos) (dOwn i md) :=
  let ⟨_, h1, l1⟩ := he; ⟨_, ps_set hN hi hx h1 hs hf, ls_own l1⟩
def dFrz (i : Nat) (m : DS) : DS := fun Dd σd => match σd[i]? with
  | some (.own a ds) => m Dd (σd.set i (.val (.list ds)))
  | _ => m Dd σd
theorem ls_frz {t : TS} {i : Nat} {ms : DS} (h : LS Wx t ms) : LS Wx t (dFrz i ms) := by
  intro S M H0 H σ σd Dd Dn E hm r
  unfold dFrz at hm
  split at hm
  · rename_i a ds e
    exact h S M H0 H σ _ Dd Dn (E.frz e) hm r
  · exact h S M H0 H σ σd Dd Dn E hm r
theorem pss_frz {st : List Stmt} {ms : DS} (i : Nat) (h : PDSs Wx X st ms) : PDSs Wx X st (dFrz i ms) := let ⟨_, h1, l1⟩ := h; ⟨_, h1, ls_frz l1⟩
theorem psd_frz {st : Stmt} {ms : DS} (i : Nat) (h : PDS Wx X st ms) : PDS Wx X st (dFrz i ms) := let ⟨_, h1, l1⟩ := h; ⟨_, h1, ls_frz l1⟩
/-- x.append(e), x an own list -/
def dApp (i : Nat) (m : DE) : DS := fun Dd σd => match σd[i]? with
  | some (.own a ds) => ds.length ≤ 1000000 ∧ m σd fun z => Dd.nx (σd.set i (.own a (ds ++ [z])))
  | _ => False
theorem ls_app {K : PySem.W.Frag} {te : TE} {i : Nat} (h : LE te m) : LS Wx (tDrop (tBM K "list" rAppend (tVar i) (tCons te tNil))) (dApp i m) := by
  intro S M H0 H σ σd Dd Dn E hm r
  unfold dApp at hm
  split at hm
  · rename_i a ds e
    obtain ⟨o, e2, e3, xs, hx, rx⟩ := E.slot e
    subst e3
    refine ⟨.ref a, e2, Or.inl ⟨rfl, _, Or.inl (Or.inl hx)⟩, ?_⟩
    refine h S M H0 H σ σd _ _ E hm.2 fun z v H' q E' k' r' => ?_
    have hx' : H' a = some (.lst xs) := k' a _ hx (E.ownNe (List.mem_of_getElem? e))
    refine ⟨a, xs, v, rfl, rfl, hx', by rw [rx.length, sizeLine_eq]; have := hm.1; omega, ?_⟩
    exact r.1 _ _ _ q (E'.upd e ((E.dqs k' rx).append (.cons r' .nil)))
  · exact hm.elim
theorem psd_app {x : Str} {px apos cpos : Pos} (i : Nat) (hN : X.N[i]? = some x) (hv : Vis X.env.scope x) (he : PD X e m) (hs : swapsWith (.Call (.Attribute (.Name x px) "append" apos) [e] [] cpos) none pos.line X.env = pure false := by rfl)
    (hd : (x == ("__debug__" : Str)) = false := by decide) (hcd : (x == ("__classdict__" : Str)) = false := by decide)
    (hbase : attributeBase (.Name x px) "append" X.env (eval (.Name x px) X.env) = eval (.Name x px) X.env := by rfl)
    (hfew : ((backTo cpos (starEach [e] X.env)).all (fun x => !x.1) && (backToKw cpos (keywordEach [] X.env)).all (fun x => x.1.isSome)
      && decide (([e] : List Expr).length + ([] : List Keyword).length + (if ([] : List Keyword).isEmpty then 0 else 1) < 30)) = true := by rfl)
    (hline : (apos.endLine == cpos.line) = true := by rfl) (hse : starEach [e] X.env = (false, eval e X.env) :: starEach [] X.env := by rfl) (hpl : (backTo cpos (starEach [] X.env)).any (·.1) = false := by rfl) :
    PDS Wx X (.Expr (.Call (.Attribute (.Name x px) "append" apos) [e] [] cpos) pos) (dApp i m) :=
  let ⟨_, h1, l1⟩ := he
  ⟨_, ps_expr (pe_bm PySem.F.plainAttrs_list PySem.F.slot_list_append PySem.F.type_list_append mt_append (pe_var hN hv hd hcd) (pa_cons h1 pa_nil hse) hbase hfew hline hse hpl) hs, ls_app l1⟩
/-! list + list, list * int -/
def dCat : DR2 := fun x y Q => match x, y with
  | .list xs, .list ys => xs.length + ys.length ≤ 10000000 ∧ Q (.list (xs ++ ys))
  | _, _ => False
theorem lr_cat : LR rCat dCat := by
  intro S M H x y dx dy Qd Q hm rx ry h k
  unfold dCat at h
  split at h
  · cases rx with
    | @lst _ us _ na ea ra =>
    cases ry with
    | @lst _ ws _ nb eb rb =>
    refine ⟨_, _, _, _, rfl, rfl, ea, eb, by rw [ra.length, rb.length, sizeLine_eq]; omega, fun p hp => ?_⟩
    have sm := Same.upd (o := HO.lst (us ++ ws)) hp
    exact k _ _ _ h.2 sm (.lst (fun z => hm p z hp) upd_same ((ra.append rb).go fun a o n e => ⟨n, sm a o e⟩))
  · exact h.elim
theorem pd_cat (ha : PD X a ma) (hb : PD X b mb) : PD X (.BinOp a .Add b pos) (dOp dCat ma mb) := pd_bin op_cat lr_cat ha hb
def repD (k : Nat) (xs : List D) : List D := (List.replicate k xs).flatten
theorem Dqs.flat {S : Sr} {M : Addr → Prop} {H : Hp} {vs : List V} {ds : List D} (r : Dqs S M H vs ds) : ∀ k, Dqs S M H (List.replicate k vs).flatten (List.replicate k ds).flatten
  | 0 => .nil
  | k + 1 => by
    rw [List.replicate_succ, List.replicate_succ, List.flatten_cons, List.flatten_cons]
    exact r.append (Dqs.flat r k)
def dRepL : DR2 := fun x y Q => match x, y with
  | .list xs, .int k => (-(2 ^ 63) ≤ k ∧ k < 2 ^ 63 ∧ xs.length * k.toNat ≤ 10000000) ∧ Q (.list (repD k.toNat xs))
  | _, _ => False
theorem lr_rep : LR rRep dRepL := by
  intro S M H x y dx dy Qd Q hm rx ry h kk
  unfold dRepL at h
  split at h
  · rename_i k
    cases rx with
    | @lst _ us _ na ea ra =>
    cases ry
    refine ⟨_, _, _, rfl, rfl, ea, h.1.1, h.1.2.1, by rw [ra.length, sizeLine_eq]; have := h.1.2.2; omega, fun p hp => ?_⟩
    have sm := Same.upd (o := HO.lst (List.replicate k.toNat us).flatten) hp
    exact kk _ _ _ h.2 sm (.lst (fun z => hm p z hp) upd_same ((ra.flat _).go fun a o n e => ⟨n, sm a o e⟩))
  · exact h.elim
theorem pd_rep (ha : PD X a ma) (hb : PD X b mb) : PD X (.BinOp a .Mult b pos) (dOp dRepL ma mb) := pd_bin op_rep lr_rep ha hb
/-! all, any -/
def boolsD : List D → Option (List Bool)
  | [] => some []
  | .bool b :: r => (boolsD r).map (b :: ·)
  | _ => none
theorem boolsD_vs {S : Sr} {M : Addr → Prop} {H : Hp} : ∀ {vs : List V} {ds : List D} {bs : List Bool}, Dqs S M H vs ds → boolsD ds = some bs → vs = bs.map V.bl
  | _, _, _, .nil, h => by cases h; rfl
  | _, _, _, .cons a r, h => by
    cases a <;> simp only [boolsD] at h <;> try cases h
    obtain ⟨b', h1, h2⟩ := Option.map_eq_some_iff.mp h
    subst h2
    rw [boolsD_vs r h1]; rfl
def dAll : DRC := fun ds Q => match ds with
  | [.list xs] => (match boolsD xs with | some bs => Q (.bool (bs.all id)) | none => False)
  | _ => False
theorem lc_all {K : PySem.W.Frag} : LC (rAll K) dAll := by
  intro S M H xs ds Qd Q hm r h k
  unfold dAll at h
  split at h
  · split at h
    · rename_i bs e
      cases r with
      | cons a b =>
        cases b
        cases a with
        | lst na ea ra => exact ⟨_, bs, rfl, .inl (.inl (by rw [← boolsD_vs ra e]; exact ea)), k _ _ H h (Same.refl _) (.bl _)⟩
    · exact h.elim
  · exact h.elim
end
end PH

/-! A law's end for defs that may say repr. -/
namespace PH
open PySem PySem.Spec L2
open PyProof.Rows (envOfC AllBare IntsAre)

section
variable {P : Program} {w : World} {K : PySem.W.Frag} {mg mb : Str → Option Value} {k : Nat} {fa a : Addr} {fd : FuncData} {x : Str} {sp : Sp} {s1 : Shared} {vs : List Value} {ns : List Int}
/-- the run from one abstract heap that has at most the script -/
theorem goneH (KX : K.In s1.heap) (hns : s1.heap.Ns mainGlobals mg) (hb : s1.heap.Ns builtinsNs mb) (hbb : ∀ y : Str, y ≠ "__name__" → mb y = bootBuiltins y) (hlim : s1.heap.NoLimit) (hg : s1.gens = #[])
    (ha : s1.heap.get? a = some { cls := .type "list", data := .seq vs.toArray }) (hr : Room k callerA) (F : ∀ base : Heap, K.In base → base.Ns mainGlobals mg → FnG P w K mg base k fa fd [x] sp)
    (hbind : ∀ (s : Shared) (u : Value), BindsTo s fd ⟨[u], []⟩ [(x, u)]) (H : Hp) (hO : Only H) (hsp : sp [.ref a] H (fun v _ => v = .bl true) E0) (hok : HOk P w H s1.heap) (hA : ∀ b, H b ≠ none → b = a) (hK : H a ≠ none → K.lookup a = none) :
    codeAny (model P w) callerA (.call (.ref fa) ⟨[.ref a], []⟩) (fun r s' => r = .ok (.ret (.bool true)) ∧ OldK s1.heap s'.heap ∧ s'.os = s1.os ∧ AllBare s'.gens) s1 := by
  have tracked : ∀ {b : Addr} {u : HO}, H b = some u → b = a := fun {b u} q => hA b (by rw [q]; exact fun z => (nomatch z))
  have notDict : ∀ {b : Addr} {o : Obj} {es : Array DictEntry} {ep : Nat}, s1.heap.get? b = some o → o.data = .dict es ep → H b = none := by
    intro b o es ep e d
    cases q : H b with
    | none => rfl
    | some u =>
      obtain rfl := tracked q
      rw [ha] at e
      cases e
      exact absurd (show Data.seq vs.toArray _ = Data.dict es ep from d) (fun z => nomatch z)
  have nsB : ∀ {b : Addr} {m : Str → Option Value}, s1.heap.Ns b m → (hidT s1.heap H).Ns b m := by
    rintro b m ⟨o, es, ep, e, d, r⟩
    exact ⟨o, es, ep, hidT_get e (notDict e d), d, r⟩
  have inB : K.In (hidT s1.heap H) := by
    intro b o e
    refine hidT_get (KX b o e) ?_
    cases q : H b with
    | none => rfl
    | some u =>
      obtain rfl := tracked q
      rw [hK (by rw [q]; exact fun z => (nomatch z))] at e
      cases e
  have md : Mod K mg (hidT s1.heap H) := ⟨inB, nsB hns, ⟨mb, nsB hb, hbb⟩, let ⟨mc, h1, h2⟩ := hlim; ⟨mc, nsB h1, h2⟩⟩
  have env : Env0 P w K mg (hidT s1.heap H) callerA [] s1 H :=
    { frames := rfl, mod := md, bs := fun b o e => of_hidT e, bsz := Nat.le_of_eq (hidT_size _ _), funs := trivial,
      frf := fun b hb => absurd (show b ∈ ([] : List Addr) from hb) (by simp), hok := hok, bare := .of_eq hg }
  have run := (F _ inB (nsB hns)).go callerA [] s1 H ⟨[.ref a], []⟩ [.ref a] [.ref a] (fun v _ => v = .bl true) hr rfl env (hbind s1 (.ref a)) (.cons rfl .nil) hsp
  refine codeAny_mono run ?_
  intro r s' h
  cases r with
  | error e => exact False.elim h
  | ok fl =>
    cases fl with
    | next => exact False.elim h
    | brk => exact False.elim h
    | cont => exact False.elim h
    | ret u =>
      obtain ⟨v, H', os, bare, un, hok', ru, qv⟩ := h
      cases (show v = .bl true from qv)
      cases (show u = Value.bool true from ru)
      refine ⟨rfl, OldK.of_keep ?_, os, bare⟩
      intro b o e
      cases q : H b with
      | none => exact un.keep b o e q (fun z => absurd (show b ∈ ([] : List Addr) from z) (by simp)) (by simp)
      | some u =>
        rcases hO b with z | ⟨ob, xs, z⟩
        · rw [q] at z; cases z
        · obtain ⟨e1, _⟩ := hok b _ z
          obtain ⟨e2, _⟩ := hok' b _ (un.frzs b ob _ z)
          rw [e] at e1
          cases e1
          exact e2
theorem lawGo (KX : K.In s1.heap) (hns : s1.heap.Ns mainGlobals mg) (hb : s1.heap.Ns builtinsNs mb) (hbb : ∀ y : Str, y ≠ "__name__" → mb y = bootBuiltins y) (hlim : s1.heap.NoLimit) (hg : s1.gens = #[])
    (ha : s1.heap.get? a = some { cls := .type "list", data := .seq vs.toArray }) (hi : IntsAre vs ns) (hl : ns.length ≤ sizeLine) (hr : Room k callerA) (F : ∀ base : Heap, K.In base → base.Ns mainGlobals mg → FnG P w K mg base k fa fd [x] sp)
    (hbind : ∀ (s : Shared) (u : Value), BindsTo s fd ⟨[u], []⟩ [(x, u)]) (hsp : ∀ H : Hp, Only H → SqL K H a (ns.map V.int) → sp [.ref a] H (fun v _ => v = .bl true) E0) :
    codeAny (model P w) callerA (.call (.ref fa) ⟨[.ref a], []⟩) (fun r s' => r = .ok (.ret (.bool true)) ∧ OldK s1.heap s'.heap ∧ s'.os = s1.os ∧ AllBare s'.gens) s1 := by
  have rv := vals_ints hi
  have lv := hi.length
  cases hk : K.lookup a with
  | some o =>
    have e := KX a o hk
    rw [ha] at e
    cases e
    have sq : SqL K (fun _ => none) a (ns.map V.int) := .inr ⟨_, vs.toArray, _, hk, rfl, rfl, rfl, by rw [List.size_toArray, lv]; exact hl, by simpa using rv⟩
    refine goneH KX hns hb hbb hlim hg ha hr F hbind (fun _ => none) (fun _ => .inl rfl) (hsp _ (fun _ => .inl rfl) sq) ?_ (fun b z => absurd rfl z) (fun z => absurd rfl z)
    intro b u z
    cases (show (none : Option HO) = some u from z)
  | none =>
    let Hs : Hp := fun b => if b = a then some (.frz { cls := .type "list", data := .seq vs.toArray } (.lst (ns.map V.int))) else none
    have h1 : Hs a = some (.frz { cls := .type "list", data := .seq vs.toArray } (.lst (ns.map V.int))) := if_pos rfl
    have h2 : ∀ b, b ≠ a → Hs b = none := fun b n => if_neg n
    have only : Only Hs := fun b => by
      by_cases n : b = a
      · subst n; exact .inr ⟨_, _, h1⟩
      · exact .inl (h2 b n)
    refine goneH KX hns hb hbb hlim hg ha hr F hbind Hs only (hsp Hs only (.inl (.inr ⟨_, h1⟩))) ?_ ?_ fun _ => hk
    · intro b u z
      by_cases n : b = a
      · subst n
        cases h1.symm.trans z
        exact ⟨ha, by rw [List.length_map]; exact hl, vs, _, rv, ha⟩
      · rw [h2 b n] at z; cases z
    · intro b z
      by_cases n : b = a
      · exact n
      · exact absurd (h2 b n) z
end
/-- the end of a law's row: from the law's promise to the goal that the head leaves -/
theorem walkG {l : PySem.W.OpenLaw} {n k : Nat} {q : Program} {loose : List Str} {XP : (Str → Option Value) → Heap → Prop} {YP : World → Heap → Prop} {d : DefRec} {K : Params → PySem.W.Frag} {sp : PySem.W.Frag → Sp} {x : Str}
    (hn : l.most = some n) (hn2 : n ≤ sizeLine) (hdf : d.params.defaults = []) (hr : Room k callerA) (hY : ∀ (w : World) (h : Heap), YP w h → (K w.params).In h)
    (F : ∀ (w : World) (mg : Str → Option Value) (fa : Addr) (h : Heap), (K w.params).In h → h.Ns mainGlobals mg → mg d.name = some (.ref fa) →
      ∃ fd : FuncData, (∀ (s : Shared) (u : Value), BindsTo s fd ⟨[u], []⟩ [(x, u)]) ∧ ∀ base : Heap, (K w.params).In base → base.Ns mainGlobals mg → FnG l.prog w (K w.params) mg base k fa fd [x] (sp (K w.params)))
    (hsp : ∀ (K : PySem.W.Frag) (H : Hp) (a : Addr) (ns : List Int), ns.length ≤ n → (∀ z ∈ ns, Builtin.Int.intBits z ≤ 1048576) → Only H → SqL K H a (ns.map V.int) → sp K [.ref a] H (fun v _ => v = .bl true) E0) :
    PySem.W.WalkO q loose XP YP l.row.toRowW d [] (fun f vs => PySem.call f vs) := by
  refine Att.attach_callB hn hdf ?_
  intro w s₀ s₁ mg mb fa o pm cd doc a vs ns G Y ho hd hcd hmg hobj hints hlen hbits hg
  have KX := hY w _ Y
  obtain ⟨fd, hb, hF⟩ := F w mg fa _ KX G.T.g hmg
  exact lawGo KX G.T.g G.T.b G.T.builtins G.T.nolimit hg hobj hints (Nat.le_trans hlen hn2) hr hF hb (fun H hO hS => hsp (K w.params) H a ns hlen hbits hO hS)
end PH

/-! The head: facts by names and one Bool more; a law's end over it. -/
namespace PH
open PySem PySem.Spec L2
open PyProof.Rows (envOfC AllBare IntsAre)

structure SaysE (fa : List He.Fa) (fn : List He.DefD) (ex : PySem.W.Frag → Bool) (K : PySem.W.Frag) : Prop where
  d : He.SaysD fa fn K
  more : ex K = true
abbrev AlE : Type := He.AlD × Bool
def obsE (n : Nat) (fa : List He.Fa) (fn : List He.DefD) (ex : PySem.W.Frag → Bool) (g : Addr → Option Obj) : AlE := (He.obsD fa fn (He.frG g (He.asD g n)), ex (He.frG g (He.asD g n)))
def hookE (n : Nat) (fa : List He.Fa) (fn : List He.DefD) (ex : PySem.W.Frag → Bool) : PySem.W.Hook where
  α := AlE
  obs := fun s => obsE n fa fn ex s.heap.get?
  val := fun _ => (He.valD fn, true)
  says := fun _ h => ∃ K : PySem.W.Frag, K.In h ∧ SaysE fa fn ex K
  of := fun _ _ e => ⟨_, He.frG_in, congrArg (fun z : AlE => z.1) e, congrArg (fun z : AlE => z.2) e⟩
  keeps := fun _ _ _ ⟨K, hK, c⟩ k => ⟨K, PySem.W.Frag.In.keeps hK k, c⟩
theorem obsE_eq {n : Nat} {fa : List He.Fa} {fn : List He.DefD} {ex : PySem.W.Frag → Bool} {g : Addr → Option Obj} {s : Shared} (h : ∀ a, g a = s.heap.get? a) : obsE n fa fn ex g = (hookE n fa fn ex).obs s := by
  have e : g = s.heap.get? := funext h
  rw [e] <;> rfl
theorem toFun {K : PySem.W.Frag} {x qual : Str} {st : Stmt} {f : Addr} {fd : FuncData} (F : FunD K x qual (defArgs st) (defBody st) (defScope st) [] [] f fd) : Fun K x qual st f fd := by
  obtain ⟨oc, od, dV, kV, doc, pm, an, cdv, ct, osl, e, lk, hc, hd, _⟩ := F.ex
  rcases hd with ⟨_, hd⟩ | ⟨hd, _⟩
  · subst hd
    exact ⟨⟨oc, od, kV, doc, pm, an, cdv, ct, osl, e, lk, hc⟩, F.kp⟩
  · exact absurd rfl hd
/-- a name of the module that stands for a built-in function -/
def bltB (K : PySem.W.Frag) (x : Str) (id : String) : Bool := match PySem.W.nsIn K mainGlobals x with
  | some (some (.builtin j)) => decide (j = id)
  | _ => false
theorem bltB_ok {K : PySem.W.Frag} {h : Heap} {mg : Str → Option Value} {x : Str} {id : String} (X : K.In h) (G : h.Ns mainGlobals mg) (c : bltB K x id = true) : mg x = some (.builtin id) := by
  unfold bltB at c
  split at c
  · rename_i j e
    have := of_decide_eq_true c
    subst this
    exact PySem.W.mg_of X G e
  · cases c
theorem walkGE {l : PySem.W.OpenLaw} {n k : Nat} {q : Program} {loose : List Str} {XP : (Str → Option Value) → Heap → Prop} {YP : World → Heap → Prop} {d : DefRec} {x : Str}
    (hn : l.most = some n) (hn2 : n ≤ sizeLine) (hdf : d.params.defaults = []) (hr : Room k callerA)
    (F : ∀ (w : World) (mg : Str → Option Value) (fa : Addr) (h : Heap), YP w h → h.Ns mainGlobals mg → mg d.name = some (.ref fa) →
      ∃ (K : PySem.W.Frag) (fd : FuncData) (sp : Sp), K.In h ∧ (∀ (s : Shared) (u : Value), BindsTo s fd ⟨[u], []⟩ [(x, u)]) ∧
        (∀ (H : Hp) (a : Addr) (ns : List Int), ns.length ≤ n → (∀ z ∈ ns, Builtin.Int.intBits z ≤ 1048576) → Only H → SqL K H a (ns.map V.int) → sp [.ref a] H (fun v _ => v = .bl true) E0) ∧
        ∀ base : Heap, K.In base → base.Ns mainGlobals mg → FnG l.prog w K mg base k fa fd [x] sp) :
    PySem.W.WalkO q loose XP YP l.row.toRowW d [] (fun f vs => PySem.call f vs) := by
  refine Att.attach_callB hn hdf ?_
  intro w s₀ s₁ mg mb fa o pm cd doc a vs ns G Y ho hd hcd hmg hobj hints hlen hbits hg
  obtain ⟨K, fd, sp, KX, hb, hsp, hF⟩ := F w mg fa _ Y G.T.g hmg
  exact lawGo KX G.T.g G.T.b G.T.builtins G.T.nolimit hg hobj hints (Nat.le_trans hlen hn2) hr hF hb (fun H hO hS => hsp H a ns hlen hbits hO hS)
end PH

/-! Defs by name; a law's promise. -/
namespace PH
open PySem PySem.Spec L2
open PyProof.Rows (envOfC AllBare IntsAre)

/-- a def of the text, under its name -/
def Dfn (K : PySem.W.Frag) (mg : Str → Option Value) (x : Str) (st : Stmt) : Prop := ∃ (f : Addr) (fd : FuncData), mg x = some (.ref f) ∧ Fun K x x st f fd
section
variable (P : Program) (w : World) (K : PySem.W.Frag) (mg : Str → Option Value) (base : Heap)
/-- a def that keeps its promise, by its name -/
def NameOk (k : Nat) (x : Str) (ps : List Str) (sp : Sp) : Prop := ∃ (f : Addr) (fd : FuncData), mg x = some (.ref f) ∧ PySem.W.keepIn K (.ref f) = true ∧ Binds K fd ps [] ∧ FnG P w K mg base k f fd ps sp
def DefOk (k : Nat) (x : Str) (ps : List Str) (spd : DSp) : Prop := NameOk P w K mg base k x ps (SpD ps.length spd)
end
def BindOk (x : Str) (ps : List Str) (st : Stmt) : Prop := ∀ (kV doc pm : Value) (an : Option Addr) (cdv ct : Value) (us : List Value), us.length = ps.length →
  bindArgs (PySem.W.fnOf x x (defArgs st) (defBody st) (defScope st) .none kV doc pm an cdv ct) ⟨us, []⟩ = pure (ps.zip us)
section
variable {P : Program} {w : World} {K : PySem.W.Frag} {mg : Str → Option Value} {base : Heap}
theorem nameOk {k : Nat} {x : Str} {st : Stmt} {N ps : List Str} {sp : Sp} (hd : Dfn K mg x st) (S : FnScope N ps (defScope st)) (bnd : BindOk x ps st) (len : ∀ vs H Q E, sp vs H Q E → vs.length = ps.length)
    (hb : ∀ (f : Addr) (cdv : Value) (A : Around) (outer : List Env) (s : Shared) (H : Hp) (vs : List V) (Q : VK), Room k (A.deeper (envOfC x (defScope st) s.heap.objs.size f cdv)) → A.guards = some [] → sp vs H Q E0 →
      ∃ t, PSs (cxOf CX0 P w K mg base N x (defScope st) f cdv A outer s H E0).nox (defBody st) t ∧ t { nx := fun _ H' => Q .non H', rt := Q } (L2.start N vs) H) : NameOk P w K mg base (k + 1) x ps sp := by
  obtain ⟨f, fd, hm, F⟩ := hd
  exact ⟨f, fd, hm, F.kp, F.binds bnd, fnG_body F S len fun cdv A outer s H vs Q => hb f cdv A outer s H vs Q⟩
theorem defOk {k : Nat} {x : Str} {st : Stmt} {N ps : List Str} {spd : DSp} {m : DS} (hd : Dfn K mg x st) (S : FnScope N ps (defScope st)) (bnd : BindOk x ps st)
    (hb : ∀ (f : Addr) (cdv : Value) (A : Around) (outer : List Env) (s : Shared) (H : Hp), Room k (A.deeper (envOfC x (defScope st) s.heap.objs.size f cdv)) → A.guards = some [] →
      PDSs W0 (cxOf CX0 P w K mg base N x (defScope st) f cdv A outer s H E0).nox (defBody st) m)
    (hm : ∀ ds Qd, ds.length = ps.length → spd ds Qd → m { nx := fun _ => Qd .none, rt := Qd } (dstart N.length ds)) : DefOk P w K mg base (k + 1) x ps spd := by
  obtain ⟨f, fd, hmg, F⟩ := hd
  exact ⟨f, fd, hmg, F.kp, F.binds bnd, fnD F S (hb f) hm⟩
end
section
variable {X : Cx} {k j : Nat} {x : Str} {p pos : Pos} {e : Expr} {es : List Expr} {ps : List Str} {spd : DSp} {m : DA}
theorem pd_fn (D : DefOk X.prog X.w X.K X.mg X.base j x ps spd) (hr : Room k X.A) (hj : j ≤ k) (hgu : X.A.guards = some []) (ha : PDA X (e :: es) ps.length m) (hg : Gl X x := by rfl) (hdb : (x == ("__debug__" : Str)) = false := by decide)
    (he : starEach (e :: es) X.env = (false, eval e X.env) :: starEach es X.env := by rfl) (hpl : (backTo pos (starEach es X.env)).any (·.1) = false := by rfl) : PD X (.Call (.Name x p) (e :: es) [] pos) (dCall spd m) :=
  let ⟨_, _, hm, kp, hb, F⟩ := D; pd_call F (hr.mono hj) hgu hg hm kp hb ha hdb he hpl
theorem pd_fn0 (D : DefOk X.prog X.w X.K X.mg X.base j x [] spd) (hr : Room k X.A) (hj : j ≤ k) (hgu : X.A.guards = some []) (hg : Gl X x := by rfl) (hdb : (x == ("__debug__" : Str)) = false := by decide) : PD X (.Call (.Name x p) [] [] pos) (dCall0 spd) :=
  let ⟨_, _, hm, kp, hb, F⟩ := D; pd_call0 F (hr.mono hj) hgu hg hm kp hb hdb
end
/-- what a law is asked: at every script True -/
def spLaw (K : PySem.W.Frag) : Sp := fun vs H Q _ => ∃ (a : Addr) (ns : List Int), vs = [.ref a] ∧ SqL K H a (ns.map V.int) ∧ ns.length ≤ 63 ∧ (∀ z ∈ ns, Builtin.Int.intBits z ≤ 1048576) ∧ ∀ H', Q (.bl true) H'
theorem spLaw_len {K : PySem.W.Frag} : ∀ vs H Q E, spLaw K vs H Q E → vs.length = 1 := fun _ _ _ _ ⟨_, _, e, _⟩ => by rw [e]; rfl
theorem ifT {b : Bool} {A B : Prop} (h : b = true) (a : A) : if b = true then A else B := by rw [if_pos h]; exact a
theorem ifF {b : Bool} {A B : Prop} (h : b = false) (a : B) : if b = true then A else B := by rw [h]; exact iteF a
/-! ### the source of drawn numbers -/
def spPick : DSp := fun ds Q => ∃ m : Int, ds = [SRC, .int m] ∧ m < 2 ^ 30 ∧ ∀ k : Int, 0 ≤ k → (k < m ∨ k = 0) → Q (.int k)
/-- open_cells: a new source -/
def spCells (K : PySem.W.Frag) : Sp := fun vs H Q _ => ∃ (a : Addr) (ns : List Int), vs = [.ref a] ∧ SqL K H a (ns.map V.int) ∧ ns.length ≤ 63 ∧ (∀ z ∈ ns, Builtin.Int.intBits z ≤ 1048576) ∧
  ∀ (p c : Addr) (ms : List Int) (l m t : Int) (H' : Hp), H p = none → H c = none → p ≠ c → Same H H' → H' c = some (.lst (ms.map V.int)) → H' p = some (.dK (srcKvs c l m t)) → Q (.ref p) H'
theorem srcKvs_val (c : Addr) (l m t : Int) : valV (srcKvs c l m t) (.inr "cells") = some (.ref c) ∧ valV (srcKvs c l m t) (.inr "left") = some (.int l) ∧ valV (srcKvs c l m t) (.inr "mixed") = some (.int m) ∧ valV (srcKvs c l m t) (.inr "turn") = some (.int t) :=
  ⟨by rfl, by rfl, by rfl, by rfl⟩
theorem srcKvs_left (c : Addr) (l m t l' : Int) : putK (srcKvs c l m t) (.inr "left") (.int l') = srcKvs c l' m t := by rfl
theorem srcKvs_turn (c : Addr) (l m t t' : Int) : putK (srcKvs c l m t) (.inr "turn") (.int t') = srcKvs c l m t' := by rfl
end PH

/-! + and * of any kind; slices. -/
namespace PH
open PySem PySem.Spec L2
open PyProof.Rows (envOfC AllBare IntsAre)
section
variable {X : Cx} {a b e : Expr} {pos : Pos} {ma mb : DE} {m : DA}
theorem opr_or {f : Value → Value → Sem Value} {r r' : R2} (h : OpR X f r) (h' : OpR X f r') : OpR X f (fun x y H Q => r x y H Q ∨ r' x y H Q) := by
  intro pins s σ H x y v u Q I rx ry q
  rcases q with q | q
  · exact h pins s σ H x y v u Q I rx ry q
  · exact h' pins s σ H x y v u Q I rx ry q
def dAddA : DR2 := fun x y Q => match x, y with
  | .int i, .int j => Q (.int (i + j))
  | .list xs, .list ys => xs.length + ys.length ≤ 10000000 ∧ Q (.list (xs ++ ys))
  | _, _ => False
abbrev rAddA : R2 := fun x y H Q => rI0 (fun i j => .int (i + j)) x y H Q ∨ rCat x y H Q
theorem lr_addA : LR rAddA dAddA := by
  intro S M H x y dx dy Qd Q hm rx ry h k
  unfold dAddA at h
  split at h
  · exact .inl (lr_I0 (f := fun i j => i + j) S M H x y _ _ Qd Q hm rx ry h k)
  · exact .inr (lr_cat S M H x y _ _ Qd Q hm rx ry h k)
  · exact h.elim
theorem pd_addA (ha : PD X a ma) (hb : PD X b mb) : PD X (.BinOp a .Add b pos) (dOp dAddA ma mb) := pd_bin (opr_or op_add op_cat) lr_addA ha hb
def dMulA : DR2 := fun x y Q => match x, y with
  | .int i, .int j => CMB i j ∧ Q (.int (i * j))
  | .list xs, .int k => (-(2 ^ 63) ≤ k ∧ k < 2 ^ 63 ∧ xs.length * k.toNat ≤ 10000000) ∧ Q (.list (repD k.toNat xs))
  | _, _ => False
abbrev rMulA : R2 := fun x y H Q => rI CMB (fun i j => .int (i * j)) x y H Q ∨ rRep x y H Q
theorem lr_mulA : LR rMulA dMulA := by
  intro S M H x y dx dy Qd Q hm rx ry h k
  unfold dMulA at h
  split at h
  · exact .inl (lr_I (C := CMB) (f := fun i j => i * j) S M H x y _ _ Qd Q hm rx ry h k)
  · exact .inr (lr_rep S M H x y _ _ Qd Q hm rx ry h k)
  · exact h.elim
theorem pd_mulA (ha : PD X a ma) (hb : PD X b mb) : PD X (.BinOp a .Mult b pos) (dOp dMulA ma mb) := pd_bin (opr_or op_mulB op_rep) lr_mulA ha hb
end
end PH
namespace PH
open L2
theorem blk {N : List PySem.Str} {sc scope : PySem.Scope} {own : List (PySem.Str × Nat)} (h : blkC N sc scope own = true) : blkC N sc scope own = true := h
end PH

/-! The law's own def, at every base. -/
namespace PH
open PySem PySem.Spec L2
open PyProof.Rows (envOfC AllBare IntsAre)
theorem lawOk {P : Program} {w : World} {K : PySem.W.Frag} {mg : Str → Option Value} {k : Nat} {x p : Str} {st : Stmt} {N : List Str} {sp : Sp} (hd : Dfn K mg x st) (S : FnScope N [p] (defScope st)) (bnd : BindOk x [p] st) (len : ∀ vs H Q E, sp vs H Q E → vs.length = 1)
    (hb : ∀ (base : Heap) (f : Addr) (cdv : Value) (A : Around) (outer : List Env) (s : Shared) (H : Hp) (vs : List V) (Q : VK), Room k (A.deeper (envOfC x (defScope st) s.heap.objs.size f cdv)) → A.guards = some [] → sp vs H Q E0 →
      ∃ t, PSs (cxOf CX0 P w K mg base N x (defScope st) f cdv A outer s H E0).nox (defBody st) t ∧ t { nx := fun _ H' => Q .non H', rt := Q } (L2.start N vs) H) :
    ∃ (f : Addr) (fd : FuncData), mg x = some (.ref f) ∧ (∀ (s : Shared) (u : Value), BindsTo s fd ⟨[u], []⟩ [(p, u)]) ∧ ∀ base : Heap, FnG P w K mg base (k + 1) f fd [p] sp := by
  obtain ⟨f, fd, hm, F⟩ := hd
  have F' := F
  obtain ⟨oc, od, kV, doc, pm, an, cdv, ct, osl, rfl, lk, hcd⟩ := F'.ex
  refine ⟨f, _, hm, fun s u => BindsTo.of_eq (bnd kV doc pm an cdv ct [u] rfl), fun base => fnG_body F S len fun cdv A outer s H vs Q => hb base f cdv A outer s H vs Q⟩
end PH

/-! Defs that raise; try. -/
namespace PH
open PySem PySem.Spec L2
open PyProof.Rows (envOfC AllBare IntsAre)
/-- what a def that may raise promises: of its data, of the value, of the name of the class that it raises -/
abbrev DSpX := List D → (D → Prop) → (Str → Prop) → Prop
def SpX (mg : Str → Option Value) (n : Nat) (spd : DSpX) : Sp := fun vs H Q E => ∃ (S : Sr) (M : Addr → Prop) (ds : List D) (Qd : D → Prop) (Ed : Str → Prop), (∀ a, M a → H a ≠ none) ∧ SrcOk S M H ∧ Dqs S M H vs ds ∧ vs.length = n ∧ spd ds Qd Ed ∧
  (∀ d v H', Qd d → KeepS S H H' → SrcOk S M H' → Dq S M H' v d → Q v H') ∧ ∀ x c H', Ed x → mg x = some c → KeepS S H H' → SrcOk S M H' → E c none H'
structure FnGX (P : Program) (w : World) (K : PySem.W.Frag) (mg : Str → Option Value) (base : Heap) (k : Nat) (f : Addr) (fd : FuncData) (ps : List Str) (sp : Sp) : Prop where
  len : ∀ vs H Q E, sp vs H Q E → vs.length = ps.length
  go : ∀ (A : Around) (outer : List Env) (s : Shared) (H : Hp) (args : Args) (us : List Value) (vs : List V) (Q : VK) (E : XK), Room k A → A.guards = some [] →
    Env0 P w K mg base A outer s H → BindsTo s fd args (ps.zip us) → Vals vs us → sp vs H Q E → codeAny (model P w) A (.call (.ref f) args) (CR (L2.CX P w) outer P w H s Q E) s
section
variable {P : Program} {w : World} {K : PySem.W.Frag} {mg : Str → Option Value} {base : Heap} {k : Nat} {f : Addr} {fd : FuncData} {ps : List Str} {sp : Sp}
theorem fnGX_body {x qual : Str} {st : Stmt} {N : List Str} (F : Fun K x qual st f fd) (S : FnScope N ps (defScope st)) (len : ∀ vs H Q E, sp vs H Q E → vs.length = ps.length)
    (hb : ∀ (cdv : Value) (A : Around) (outer : List Env) (s : Shared) (H : Hp) (vs : List V) (Q : VK) (E : XK), Room k (A.deeper (envOfC qual (defScope st) s.heap.objs.size f cdv)) → A.guards = some [] → sp vs H Q E →
      ∃ t, PSs (cxOf (L2.CX P w) P w K mg base N qual (defScope st) f cdv A outer s H E) (defBody st) t ∧ t { nx := fun _ H' => Q .non H', rt := Q } (L2.start N vs) H) :
    FnGX P w K mg base (k + 1) f fd ps sp := by
  obtain ⟨oc, od, kV, doc, pm, an, cdv, ct, osl, rfl, lk, hcd⟩ := F.ex
  refine ⟨len, ?_⟩
  intro A outer s H args us vs Q E hr hg e0 hbind rv hsp
  have lv := len _ _ _ _ hsp
  have inK : K.In s.heap := e0.mod.kin.keeps (fun b o e => (e0.bs b o e).1)
  have noL : s.heap.NoLimit := e0.mod.nolimit.keeps (fun b o e => (e0.bs b o e).1)
  have kinds : ∀ y ∈ ps.zip us, (defScope st).names.lookup y.1 = some .local ∨
      ((defScope st).names.lookup y.1 = some .cell ∧ ((cellsFrom (s.heap.objs.size + 1) (defScope st).names []).lookup y.1).isSome = true) := by
    rintro ⟨n, v⟩ hy
    rcases S.par n (List.of_mem_zip hy).1 with q | q
    · exact .inl q
    · exact .inr ⟨q, PySem.W.cellsFrom_some _ _ _ (.inl q)⟩
  refine codeAny_call_function hr.depth (inK _ _ lk) rfl S.co S.gen rfl (PySem.W.codeRec_of inK hcd) (hbind _ _ _ _ ?_)
  refine wpAny_newFunctionEnv_cells S.kind kinds ?_
  intro env he s1 xc
  subst he
  refine ⟨noL.keeps xc.toInCall.keep, codeAny_func ?_⟩
  obtain ⟨t, ht, hq⟩ := hb cdv A outer s H vs Q E (hr.deeper _) hg hsp
  have J0 : Inv (cxOf (L2.CX P w) P w K mg base N qual (defScope st) f cdv A outer s H E) [] (L2.start N vs) H s1 := inv_start S hr.hd e0 lv rv xc
  refine wpAny_mono (ht.run [] s1 (L2.start N vs) H _ J0 hq) (fun fl s' hs => ?_) (fun e s' hs => hs)
  cases fl with
  | ret u =>
    obtain ⟨v, σ', H', J, rr, q⟩ := hs
    exact ⟨v, H', J.os, J.bare, J.base, J.hok, rr, q⟩
  | next =>
    obtain ⟨σ', H', J, q⟩ := hs
    exact ⟨V.non, H', J.os, J.bare, J.base, J.hok, rfl, q⟩
  | brk => obtain ⟨_, _, _, q⟩ := hs; exact False.elim q
  | cont => obtain ⟨_, _, _, q⟩ := hs; exact False.elim q
/-- where nothing is let out -/
theorem FnGX.quiet {sp' : Sp} (F : FnGX P w K mg base k f fd ps sp) (h : ∀ vs H Q E, sp' vs H Q E → sp vs H Q E0) : FnG P w K mg base k f fd ps sp' := by
  refine ⟨fun vs H Q E q => F.len _ _ _ _ (h vs H Q E q), fun A outer s H args us vs Q hr hg e0 hb rv q => ?_⟩
  refine codeAny_mono (F.go A outer s H args us vs Q E0 hr hg e0 hb rv (h _ _ _ _ q)) fun r s' hq => ?_
  cases r with
  | ok fl =>
    cases fl with
    | ret u => exact hq
    | next => exact hq
    | brk => exact hq
    | cont => exact hq
  | error e =>
    obtain ⟨_, _, _, _, _, _, _, _, _, _, _, _, z⟩ := hq
    exact z.elim
end
section
variable (P : Program) (w : World) (K : PySem.W.Frag) (mg : Str → Option Value) (base : Heap)
def DefX (k : Nat) (x : Str) (ps : List Str) (spd : DSpX) : Prop := ∃ (f : Addr) (fd : FuncData), mg x = some (.ref f) ∧ PySem.W.keepIn K (.ref f) = true ∧ Binds K fd ps [] ∧ FnGX P w K mg base k f fd ps (SpX mg ps.length spd)
end
/-- the body's let-outs, by a class's value -/
abbrev WD (E : XK) : WX := fun cls d _ H => E cls d H
theorem defX {P : Program} {w : World} {K : PySem.W.Frag} {mg : Str → Option Value} {base : Heap} {k : Nat} {x : Str} {st : Stmt} {N ps : List Str} {spd : DSpX} {m : DS} (hd : Dfn K mg x st) (S : FnScope N ps (defScope st)) (bnd : BindOk x ps st)
    (hb : ∀ (f : Addr) (cdv : Value) (A : Around) (outer : List Env) (s : Shared) (H : Hp) (E : XK), Room k (A.deeper (envOfC x (defScope st) s.heap.objs.size f cdv)) → A.guards = some [] →
      Takes (cxOf (L2.CX P w) P w K mg base N x (defScope st) f cdv A outer s H E) (WD E) → PDSs (WD E) (cxOf (L2.CX P w) P w K mg base N x (defScope st) f cdv A outer s H E) (defBody st) m)
    (hm : ∀ ds Qd Ed, ds.length = ps.length → spd ds Qd Ed → m { nx := fun _ => Qd .none, rt := Qd, rx := fun c _ => ∃ n, Ed n ∧ mg n = some c } (dstart N.length ds)) : DefX P w K mg base (k + 1) x ps spd := by
  obtain ⟨f, fd, hmg, F⟩ := hd
  refine ⟨f, fd, hmg, F.kp, F.binds bnd, fnGX_body F S (fun vs H Q E h => by obtain ⟨_, _, _, _, _, _, _, _, l, _⟩ := h; exact l) fun cdv A outer s H vs Q E hr hg h => ?_⟩
  obtain ⟨S', M, ds, Qd, Ed, hM, so, rs, hl, hsp, h6, h7⟩ := h
  obtain ⟨t, h1, l⟩ := hb f cdv A outer s H E hr hg (takes_of rfl rfl rfl rfl)
  refine ⟨t, h1, l S' M H H _ _ _ _ (ev_start hM so rs) (hm ds Qd Ed (by rw [← rs.length, hl]) hsp) ⟨fun σd σ H' q E2 => ?_, fun d v H' q k so _ r => h6 d v H' q k so r, fun _ _ _ q _ => q.elim, fun _ _ _ q _ => q.elim, fun c σd σ H' q E2 => ?_⟩⟩
  · exact h6 _ _ _ q E2.keep E2.src .non
  · obtain ⟨n, q1, q2⟩ := q
    exact h7 n c H' q1 q2 E2.keep E2.src
section
variable {X : Cx} {k j : Nat} {f : Addr} {fd : FuncData} {ps : List Str} {sp : Sp} {x : Str} {p pos : Pos} {e : Expr} {es : List Expr} {t : TA} {Wx : WX}
theorem runGX {pins : List (Addr × Obj)} {σ : L2.St} {H : Hp} {s : Shared} {Q : VK} {us : List Value} {vs : List V} {E : L2.St → XK} (F : FnGX X.prog X.w X.K X.mg X.base k f fd ps sp) (hr : Room k X.A) (hg : X.A.guards = some [])
    (hb : Binds X.K fd ps []) (hx : PassesAt (L2.CX X.prog X.w) X σ (E σ)) (I : Inv X pins σ H s) (r : Vals vs us) (h : sp vs H Q (E σ)) : wpAny (model X.prog X.w) X.A (call (.ref f) us) (EP X pins σ Q) X.xe s := by
  have hl : us.length = ps.length := by rw [← r.length]; exact F.len _ _ _ _ h
  have b := hb s us I.kIn (by rw [List.append_nil]; exact hl)
  rw [List.append_nil] at b
  refine wpAny_call (codeAny_mono (F.go X.A X.stack s H ⟨us, []⟩ us vs Q (E σ) hr hg I.env0 b r h) fun r s' hq => ?_)
  cases r with
  | error e => exact hx pins H s e s' I hq
  | ok fl =>
    cases fl with
    | ret u => exact I.after hq
    | next => exact False.elim hq
    | brk => exact False.elim hq
    | cont => exact False.elim hq
theorem pe_callGX {E : L2.St → XK} (F : FnGX X.prog X.w X.K X.mg X.base k f fd ps sp) (hr : Room k X.A) (hgu : X.A.guards = some []) (hg : Gl X x) (hm : X.mg x = some (.ref f)) (hk : PySem.W.keepIn X.K (.ref f) = true) (hb : Binds X.K fd ps []) (hx : ∀ σ, PassesAt (L2.CX X.prog X.w) X σ (E σ))
    (ha : PA X (e :: es) t) (hdb : (x == ("__debug__" : Str)) = false := by decide) (he : starEach (e :: es) X.env = (false, eval e X.env) :: starEach es X.env := by rfl) (hpl : (backTo pos (starEach es X.env)).any (·.1) = false := by rfl) :
    PE X (.Call (.Name x p) (e :: es) [] pos) (tCallS sp E t) := by
  refine ⟨fun pins s σ H Q I h => ?_⟩
  refine wpAny_Call_Name_kw (ld_glob I hg hm ?_ hdb)
  refine PySem.W.callWith_K (h₀ := X.base) I.ok.mod.kin hk (thn (ha.run pos pins s σ H _ I h) fun us s1 ⟨vs, H1, I1, r, q⟩ => ⟨I1.kIn, ?_⟩) he hpl
  exact runGX F hr hgu hb (hx σ) I1 r q
/-! statements that are one call of a def that may raise -/
def dRetX (mg : Str → Option Value) (spd : DSpX) (m : DA) : DS := fun Dd σd => m σd fun ds => spd ds Dd.rt fun n => ∀ c, mg n = some c → Dd.rx c σd
theorem ls_retX {mg : Str → Option Value} {n : Nat} {spd : DSpX} {t : TA} {m : DA} (h : LA n t m) : LS Wx (tRet (tCallS (SpX mg n spd) (WE Wx) t)) (dRetX mg spd m) := by
  intro S M H0 H σ σd Dd Dn E hm r
  refine h S M H0 H σ σd _ _ E hm fun ds vs H1 q E1 k1 r1 hl => ?_
  have so : SrcOk S (MO M σd) H1 := fun p c e => let ⟨a, b, r⟩ := E1.src p c e; ⟨.inl a, .inl b, r⟩
  refine ⟨S, MO M σd, ds, _, _, E1.mtO, so, r1, hl, q, fun d v H2 q k2 s2 r2 => ?_, fun x c H2 q hc k2 s2 => ?_⟩
  · have s3 : SrcOk S M H2 := fun p c e => let ⟨a, b, _⟩ := E1.src p c e; let ⟨_, _, r⟩ := s2 p c e; ⟨a, b, r⟩
    have E2 := E1.ext k2 s3
    exact r.2.1 d v H2 q E2.keep E2.src E2.mt (r2.go fun a o n e => ⟨fun z => n (.inl z), e⟩)
  · have s3 : SrcOk S M H2 := fun p c e => let ⟨a, b, _⟩ := E1.src p c e; let ⟨_, _, r⟩ := s2 p c e; ⟨a, b, r⟩
    exact r.2.2.2.2 c σd σ H2 (q c hc) (E1.ext k2 s3)
theorem psd_retX {mg : Str → Option Value} {spd : DSpX} {m : DA} (D : DefX X.prog X.w X.K mg X.base j x ps spd) (tk : Takes X Wx) (hr : Room k X.A) (hj : j ≤ k) (hgu : X.A.guards = some []) (ha : PDA X (e :: es) ps.length m) (hg : Gl X x := by rfl) (hdb : (x == ("__debug__" : Str)) = false := by decide)
    (he : starEach (e :: es) X.env = (false, eval e X.env) :: starEach es X.env := by rfl) (hpl : (backTo pos (starEach es X.env)).any (·.1) = false := by rfl) (eM : X.mg = mg := by rfl) : PDS Wx X (.Return (some (.Call (.Name x p) (e :: es) [] pos)) pos') (dRetX mg spd m) := by
  subst eM
  exact let ⟨_, _, hm, kp, hb, F⟩ := D; let ⟨_, h1, l1⟩ := ha; ⟨_, ps_ret (pe_callGX F (hr.mono hj) hgu hg hm kp hb (fun σ => passAt tk σ) h1 hdb he hpl), ls_retX l1⟩
/-- a raising def where it raises nothing -/
theorem DefX.quiet {P : Program} {w : World} {K : PySem.W.Frag} {mg : Str → Option Value} {base : Heap} {spd : DSpX} (D : DefX P w K mg base j x ps spd) {spd' : DSp} (h : ∀ ds Q, spd' ds Q → spd ds Q fun _ => False) : DefOk P w K mg base j x ps spd' := by
  obtain ⟨f, fd, hm, kp, hb, F⟩ := D
  refine ⟨f, fd, hm, kp, hb, F.quiet fun vs H Q E ⟨S, M, ds, Qd, a1, a2, a3, a4, a5, a6⟩ => ⟨S, M, ds, Qd, _, a1, a2, a3, a4, h _ _ a5, a6, fun _ _ _ z => z.elim⟩⟩
theorem takesW0 : Takes X W0 := takes0
/-! raise X() -/
structure OwnX (K : PySem.W.Frag) (mg : Str → Option Value) (x : Str) (C : Addr) (bmB : List Value) (newId : String) : Prop where
  gC : mg x = some (.ref C)
  kC : PySem.W.keepIn K (.ref C) = true
  ex : PySem.W.excIn K C bmB newId = true
  su : PySem.W.subIn K (.ref C) (.type "BaseException") = some true
  ty : PySem.W.typeIn K (.ref C) = some (.type "type")
theorem pmk_own0 {C : Addr} {bmB : List Value} {B newId initId : String} (F : ExcBaseFacts B newId initId bmB) (O : OwnX X.K X.mg x C bmB newId) (hg : Gl X x) (hdb : (x == ("__debug__" : Str)) = false := by decide) : PMk X (.Call (.Name x p) [] [] pos) (fun _ H Q => Q (.ref C) none H) := by
  intro pins s σ H Q I h
  refine wpAny_Call_Name_kw (ld_glob I hg O.gC ?_ hdb)
  refine PySem.W.callWith_K0 I.kIn O.kC ?_
  obtain ⟨bm, N, nm, qn, bs, hdct, sn, sub, ab, col, dd, k0, k1, k2, k3, k5, mN, hC, hN, hni, T⟩ := exc_obj I.kIn O.ex
  refine wpAny_call_exc_subT F T hC hN hni (fun h' e hm => ?_) (by show 0 ≤ sizeLine; omega)
  exact mk_of I hm (raises_own O.su O.ty) h (I.hok.gone hm.new)
def dRaise (mg : Str → Option Value) (n : Str) : DS := fun Dd σd => ∀ c, mg n = some c → Dd.rx c σd
theorem psd_raise0 {mg : Str → Option Value} {C : Addr} {bmB : List Value} {B newId initId : String} {pos' : Pos} (F : ExcBaseFacts B newId initId bmB) (O : OwnX X.K mg x C bmB newId) (hc : X.calm = true) (tk : Takes X Wx) (hg : Gl X x := by rfl) (hdb : (x == ("__debug__" : Str)) = false := by decide) :
    (eM : X.mg = mg) → PDS Wx X (.Raise (some (.Call (.Name x p) [] [] pos)) none pos') (dRaise mg x) := fun eM => by
  subst eM
  exact ⟨_, ps_raise hc tk (pmk_own0 F O hg hdb), fun S M H0 H σ σd Dd Dn E hm r => r.2.2.2.2 _ σd σ H (hm _ O.gC) E⟩
/-! try -/
def tSof (Wx : WX) (m : DS) : TS := fun Dn σ H => ∃ (S : Sr) (M : Addr → Prop) (H0 : Hp) (σd : DSt) (Dd : DEnds), Ev S M H0 H σ σd ∧ m Dd σd ∧ ER Wx S M H0 Dd Dn
theorem pds_ps {st : List Stmt} {m : DS} (h : PDSs Wx X st m) : PSs X st (tSof Wx m) := by
  obtain ⟨t, h1, l⟩ := h
  exact ⟨fun pins s σ H D I ⟨S, M, H0, σd, Dd, E, hm, r⟩ => h1.run pins s σ H D I (l S M H0 H σ σd Dd D E hm r)⟩
def dTry (K : PySem.W.Frag) (mg : Str → Option Value) (n : Str) (mb ms : DS) : DS := fun Dd σd => ∃ c, mg n = some c ∧ mb { Dd with rx := fun cls σd' => ∃ b, PySem.W.exmOne K cls c = some b ∧ (b = true → ms Dd σd') ∧ (b = false → Dd.rx cls σd') } σd
theorem ls_try {K : PySem.W.Frag} {mg : Str → Option Value} {n : Str} {c : Value} (hc : mg n = some c) {mb ms : DS} : LS Wx (fun D σ H => tSof (wOnly K c (fun _ _ _ => tSof Wx ms) Wx D) mb D σ H) (dTry K mg n mb ms) := by
  intro S M H0 H σ σd Dd Dn E hm r
  obtain ⟨c', hc', hm⟩ := hm
  cases hc.symm.trans hc'
  refine ⟨S, M, H0, σd, _, E, hm, r.1, r.2.1, r.2.2.1, r.2.2.2.1, fun cls σd' σ' H' q E' => ?_⟩
  obtain ⟨b, hb, h1, h2⟩ := q
  exact ⟨b, hb, fun hb a _ => ⟨S, M, H0, σd', Dd, E', h1 hb, r⟩, fun hb => r.2.2.2.2 cls σd' σ' H' (h2 hb) E'⟩
theorem psd_try {K : PySem.W.Frag} {mg : Str → Option Value} {b₀ : Stmt} {body suite : List Stmt} {np pos' : Pos} {c : Value} {mb ms : DS} (hs : X.stack = X.env :: X.outer) (hf : X.env.frame = some X.env.locals) (hm : mg x = some c) (tk : Takes X Wx) (hg : Gl X x)
    (hb : ∀ (W : WX) (pn : List (Addr × Obj)) (xe : Value → Shared → Prop), Takes (X.tr pn xe) W → PDSs W (X.tr pn xe) body mb) (hsu : ∀ (a : Addr) (oe : Obj) (pn : List (Addr × Obj)), PDSs Wx (X.suite a ((a, oe) :: pn)) (b₀ :: suite) ms) (hdb : (x == ("__debug__" : Str)) = false := by decide) :
    (eM : X.mg = mg) → (eK : X.K = K) → PDS Wx X (.Try body [.ExceptHandler (some (.Name x np)) none (b₀ :: suite) pos'] [] [] pos) (dTry K mg x mb ms) := fun eM eK => by
  subst eM
  subst eK
  exact ⟨_, ps_try_only (tb := fun W => tSof W mb) (ts := fun _ _ _ => tSof Wx ms) hs hf ⟨hg, hdb, .inl hm⟩ tk (fun W pn xe tk' _ => pds_ps (hb W pn xe tk')) (fun a oe cls d pn _ _ => pds_ps (hsu a oe pn)), ls_try hm⟩
end
end PH

/-! gcd and max of three; is for bools; an own class's facts as one Bool. -/
namespace PySem.W
open PySem PySem.Calls
theorem g3_run (a : Int) (t : Tok) (b : Int) (u : Tok) (c : Int) (v : Tok) : Gives (Builtin.«math.gcd» ⟨[.int a t, .int b u, .int c v], []⟩) (.int (((((Nat.gcd 0 a.natAbs).gcd b.natAbs).gcd c.natAbs : Nat) : Int))) :=
  .of_wp fun M A E s Q h => by obtain ⟨hp, g, d, tk, os⟩ := s; wp_walk; exact ⟨_, rfl, h⟩
theorem g3_args (a b c : Value) : argsOk "math.gcd" ⟨[a, b, c], []⟩ := by unfold argsOk; kernel_rfl
end PySem.W
namespace PH
open PySem PySem.Spec L2
open PyProof.Rows (envOfC AllBare IntsAre)
section
variable {X : Cx}
def dGcd3 : DRC := fun ds Q => match ds with | [.int a, .int b, .int c] => Q (.int (((Nat.gcd (Nat.gcd a.natAbs b.natAbs) c.natAbs : Nat)) : Int)) | _ => False
def rGcd3 : List V → Hp → VK → Prop := fun vs H Q => ∃ a b c : Int, vs = [.int a, .int b, .int c] ∧ Q (.int (((Nat.gcd (Nat.gcd a.natAbs b.natAbs) c.natAbs : Nat)) : Int)) H
theorem lc_gcd3 : LC rGcd3 dGcd3 := by
  intro S M H xs ds Qd Q hm r h k
  unfold dGcd3 at h
  split at h
  · cases r with
    | cons a r =>
    cases r with
    | cons b r =>
    cases r with
    | cons c r =>
    cases r; cases a; cases b; cases c
    exact ⟨_, _, _, rfl, k _ _ H h (Same.refl _) (.int _)⟩
  · exact h.elim
theorem cr_gcd3 : CallR X (.builtin "math.gcd") rGcd3 := by
  intro pins s σ H vs us Q I r h
  obtain ⟨a, b, c, rfl, q⟩ := h
  obtain ⟨u1, u2, u3, rfl, ⟨t1, rfl⟩, ⟨t2, rfl⟩, ⟨t3, rfl⟩⟩ := vals3 r
  have g := PySem.W.g3_run a t1 b t2 c t3
  rw [Nat.gcd_zero_left] at g
  exact PySem.call_function_meets PySem.W.MGF.kind_gcd PySem.W.MGF.plain_gcd PySem.W.MGF.entry_gcd (PySem.W.g3_args _ _ _) g.meets ⟨.int _, H, I.tok _, ⟨_, rfl⟩, q⟩
def dMax3 : DRC := fun ds Q => match ds with | [.int a, .int b, .int c] => Q (.int (max (max a b) c)) | _ => False
theorem lc_max3 : LC (rNuC3 nuMax3) dMax3 := by
  intro S M H xs ds Qd Q hm r h k
  unfold dMax3 at h
  split at h
  · rename_i a b c
    cases r with
    | cons x r =>
    cases r with
    | cons y r =>
    cases r with
    | cons z r =>
    cases r; cases x; cases y; cases z
    refine ⟨_, _, _, .int (max (max a b) c), rfl, ?_, k _ _ H h (Same.refl _) (.int _)⟩
    by_cases h1 : a < b
    · by_cases h2 : b < c
      · simp [nuMax3, nuMax2, nuLt, nuCB, h1, h2]; omega
      · simp [nuMax3, nuMax2, nuLt, nuCB, h1, h2]; omega
    · by_cases h2 : a < c
      · simp [nuMax3, nuMax2, nuLt, nuCB, h1, h2]; omega
      · simp [nuMax3, nuMax2, nuLt, nuCB, h1, h2]; omega
  · exact h.elim
def dIsB (neg : Bool) : DR2 := fun x y Q => match x, y with | .bool a, .bool b => Q (.bool (if neg = true then !(a == b) else a == b)) | _, _ => False
def rIsB (neg : Bool) : R2 := fun x y H Q => ∃ a b, x = .bl a ∧ y = .bl b ∧ Q (.bl (if neg = true then !(a == b) else a == b)) H
theorem lr_isB {neg : Bool} : LR (rIsB neg) (dIsB neg) := by
  intro S M H x y dx dy Qd Q hm rx ry h k
  unfold dIsB at h
  split at h
  · cases rx; cases ry
    exact ⟨_, _, rfl, rfl, k _ _ H h (Same.refl _) (.bl _)⟩
  · exact h.elim
theorem op_isB : OpR X (compareOp .Is) (rIsB false) := by
  intro pins s σ H x y v u Q I rx ry h
  obtain ⟨a, b, rfl, rfl, q⟩ := h
  cases rx; cases ry
  refine PyProof.Rows.is_bool (fin_bl I q ?_)
  cases a <;> cases b <;> rfl
theorem op_isnotB : OpR X (compareOp .IsNot) (rIsB true) := by
  intro pins s σ H x y v u Q I rx ry h
  obtain ⟨a, b, rfl, rfl, q⟩ := h
  cases rx; cases ry
  refine PyProof.Rows.isnot_bool (fin_bl I q ?_)
  cases a <;> cases b <;> rfl
variable {a b : Expr} {ma mb : DE} {pos : Pos}
theorem pdt_isB {j pos2 : _} {c : Bool} (ha : PD X a ma) : PDT X (.Compare a [.Is] [.Constant (.bool c) j pos2] pos) (dBoolT (dOp (dIsB false) ma (dC (.bool c)))) := pdt_cmp op_isB lr_isB ha pd_bl (nomark _)
theorem pdt_isnotB {j pos2 : _} {c : Bool} (ha : PD X a ma) : PDT X (.Compare a [.IsNot] [.Constant (.bool c) j pos2] pos) (dBoolT (dOp (dIsB true) ma (dC (.bool c)))) := pdt_cmp op_isnotB lr_isB ha pd_bl (nomark _)
end
/-- an own class of ValueError's, by the module's name -/
def ownB (K : PySem.W.Frag) (x : Str) : Bool := match PySem.W.nsIn K mainGlobals x with
  | some (some (.ref C)) => PySem.W.keepIn K (.ref C) && PySem.W.excIn K C [.type "ValueError", .type "Exception", .type "BaseException", .type "object"] "ValueError.__new__" && (PySem.W.subIn K (.ref C) (.type "BaseException") == some true) && (PySem.W.typeIn K (.ref C) == some (.type "type")) && (PySem.W.exmOne K (.ref C) (.ref C) == some true)
  | _ => false
abbrev OwnV (K : PySem.W.Frag) (mg : Str → Option Value) (x : Str) : Prop := ∃ C, OwnX K mg x C [.type "ValueError", .type "Exception", .type "BaseException", .type "object"] "ValueError.__new__" ∧ PySem.W.exmOne K (.ref C) (.ref C) = some true
theorem ownB_ok {K : PySem.W.Frag} {h : Heap} {mg : Str → Option Value} {x : Str} (X : K.In h) (G : h.Ns mainGlobals mg) (c : ownB K x = true) : OwnV K mg x := by
  unfold ownB at c
  split at c
  · rename_i C e
    simp only [Bool.and_eq_true, beq_iff_eq] at c
    exact ⟨C, ⟨PySem.W.mg_of X G e, c.1.1.1.1, c.1.1.1.2, c.1.1.2, c.1.2⟩, c.2⟩
  · cases c
end PH

/-! a op b op c. -/
namespace PH
open PySem PySem.Spec L2
open PyProof.Rows (envOfC AllBare IntsAre)
section
variable {X : Cx} {a b c : Expr} {pos : Pos} {ma mb mc : DE}
def dChain (dr dr' : DR2) (ma mb mc : DE) : DE := fun σd Q => ma σd fun x => mb σd fun y => dr x y fun z => match z with
  | .bool k => (if k = true then mc σd fun w => dr' y w Q else Q (.bool false))
  | _ => False
theorem le_chain {r r' : R2} {dr dr' : DR2} {ta tb tc : TE} (l : LR r dr) (l' : LR r' dr') (ha : LE ta ma) (hb : LE tb mb) (hc : LE tc mc) : LE (tChain r r' ta tb tc) (dChain dr dr' ma mb mc) := by
  intro S M H0 H σ σd Qd Q E h k
  refine ha S M H0 H σ σd _ _ E h fun x v H1 q E1 k1 r1 => ?_
  refine hb S M H0 H1 σ σd _ _ E1 q fun y u H2 q E2 k2 r2 => ?_
  refine l S (MO M σd) H2 v u x y _ _ E2.mtO (E1.dq k2 r1) r2 q fun d w H3 q s r3 => ?_
  have E3 := E2.same s
  cases r3 <;> first | exact q.elim | skip
  rename_i z
  refine ⟨z, rfl, ?_⟩
  cases z with
  | false => exact k _ _ H3 q E3 (k1.trans (k2.trans (.of s))) (.bl _)
  | true =>
    refine hc S M H0 H3 σ σd _ _ E3 q fun y' u' H4 q4 E4 k4 r4 => ?_
    refine l' S (MO M σd) H4 u u' y y' _ _ E4.mtO (E3.dq k4 (E2.dq (.of s) r2)) r4 q4 fun d w H5 q5 s5 r5 => ?_
    exact k d w H5 q5 (E4.same s5) (k1.trans (k2.trans ((KeepS.of s).trans (k4.trans (.of s5))))) r5
theorem pdt_chainEq (hu : X.A.units + 64 < cLine) (ha : PD X a ma) (hb : PD X b mb) (hc : PD X c mc) (hm : lastMarks [.Eq, .Eq] [b, c] = false := by with_unfolding_all rfl) : PDT X (.Compare a [.Eq, .Eq] [b, c] pos) (dBoolT (dChain dEq dEq ma mb mc)) :=
  let ⟨_, h1, l1⟩ := ha; let ⟨_, h2, l2⟩ := hb; let ⟨_, h3, l3⟩ := hc; ⟨_, pt_chain (op_eqA hu) (op_eqA hu) h1 h2 h3 hm, lt_of (le_chain lr_eq lr_eq l1 l2 l3)⟩
end
end PH

/-! Statements one by one, the rest of a body kept folded. -/
namespace PH
open PySem PySem.Spec L2
theorem eSeq {m n : DS} {Dd : DEnds} {σd : DSt} : dSeq m n Dd σd = m { Dd with nx := n Dd } σd := rfl
theorem dFor_k {mi : DA} {g : DG} {mb rest : DS} {Dd : DEnds} {σd : DSt} (ys : List D) (W : DSt → Prop) (hi : ∀ R : List D → Prop, R ys → mi σd R) (h0 : W σd)
    (ht : ∀ y, y ∈ ys → ∀ σ', W σ' → g y σ' fun σ2 => mb { Dd with nx := W, ct := W, bk := rest Dd } σ2) (hr : ∀ σ', W σ' → rest Dd σ') : dSeq (dFor mi g mb) rest Dd σd :=
  hi _ ⟨fun _ => W, h0, fun _ y σ' e w => ht y (List.mem_of_getElem? e) σ' w, hr⟩
/-- if c: body, the rest once: either way P holds behind it -/
theorem dIf_k {c : DT} {t e rest : DS} {Dd : DEnds} {σd : DSt} (b : Bool) (P : DSt → Prop) (hc : ∀ R : Bool → Prop, R b → c σd R) (ht : b = true → ∀ N : DSt → Prop, (∀ σ, P σ → N σ) → t { Dd with nx := N } σd)
    (he : b = false → ∀ N : DSt → Prop, (∀ σ, P σ → N σ) → e { Dd with nx := N } σd) (hr : ∀ σ, P σ → rest Dd σ) : dSeq (dIf c t e) rest Dd σd :=
  hc _ (by cases b with
    | true => exact iteT (ht rfl _ hr)
    | false => exact iteF (he rfl _ hr))
/-- if c: .., never -/
theorem dIf_no {c : DT} {t rest : DS} {Dd : DEnds} {σd : DSt} (hc : ∀ R : Bool → Prop, R false → c σd R) (hr : rest Dd σd) : dSeq (dIf c t dNext) rest Dd σd := hc _ (iteF hr)
theorem dAsg_k {m : DE} {i : Nat} {rest : DS} {Dd : DEnds} {σd : DSt} (P : D → Prop) (hm : ∀ R : D → Prop, (∀ d, P d → R d) → m σd R) (hr : ∀ d, P d → rest Dd (σd.set i (.val d))) : dSeq (dAsg m (dgName i)) rest Dd σd := hm _ hr
end PH
namespace PH
open PySem PySem.Spec L2
theorem dSeq_g {m n : DS} {Dd : DEnds} {σd : DSt} (P : DSt → Prop) (hm : ∀ N : DSt → Prop, (∀ σ, P σ → N σ) → m { Dd with nx := N } σd) (hn : ∀ σ, P σ → n Dd σ) : dSeq m n Dd σd := hm _ hn
end PH

/-! < of data; slices; in, not in; is None. -/
namespace PH
open PySem PySem.Spec L2
open PyProof.Rows (envOfC AllBare IntsAre)
section
variable {X : Cx} {a b e : Expr} {pos p2 : Pos} {ma mb : DE}
/-! < of data -/
def dLtD : DR2 := fun x y Q => match x, y with
  | .int i, .int j => Q (.bool (decide (i < j)))
  | .tuple xs, .tuple ys => PySem.W.alike (.tuple xs) (.tuple ys) = true ∧ (PyData.tuple xs).canLay0 = true ∧ (PyData.tuple ys).canLay0 = true ∧ (PyData.tuple xs).depth ≤ 60 ∧ Q (.bool (PySem.W.dataLt (.tuple xs) (.tuple ys)))
  | _, _ => False
def rLtD (K : PySem.W.Frag) : R2 := fun x y H Q => ∃ d e, Dp K H x d ∧ Dp K H y e ∧ PySem.W.alike d e = true ∧ d ≠ .none ∧ d.depth ≤ 60 ∧ Q (.bl (PySem.W.dataLt d e)) H
theorem op_ltD (hu : X.A.units + 64 < cLine) : OpR X (compareOp .Lt) (rLtD X.K) := by
  intro pins s σ H x y v u Q I rx ry h
  obtain ⟨d, e, hd, he, al, nn, dp, q⟩ := h
  obtain ⟨as, r1⟩ := Dp.reads I d x v hd rx
  obtain ⟨bs, r2⟩ := Dp.reads I e y u he ry
  exact PySem.W.lt_data r1 r2 al nn (by omega) ⟨.bl _, H, I, rfl, q⟩
abbrev rLtA (K : PySem.W.Frag) : R2 := fun x y H Q => rI0 (fun i j => .bl (decide (i < j))) x y H Q ∨ rLtD K x y H Q
theorem lr_ltD : LR (rLtA X.K) dLtD := by
  intro S M H x y dx dy Qd Q hm rx ry h k
  unfold dLtD at h
  split at h
  · exact .inl (lr_B0 (f := fun i j => decide (i < j)) S M H x y _ _ Qd Q hm rx ry h k)
  · obtain ⟨h1, h2, h3, h4, h5⟩ := h
    exact .inr ⟨_, _, rx.dp h2, ry.dp h3, h1, (fun z => nomatch z), h4, k _ _ H h5 (Same.refl _) (.bl _)⟩
  · exact h.elim
theorem pd_ltD (hu : X.A.units + 64 < cLine) (ha : PD X a ma) (hb : PD X b mb) : PD X (.Compare a [.Lt] [b] pos) (dOp dLtD ma mb) := pd_cmp (opr_or op_lt (op_ltD hu)) lr_ltD ha hb (nomark _)
theorem pdt_ltD (hu : X.A.units + 64 < cLine) (ha : PD X a ma) (hb : PD X b mb) : PDT X (.Compare a [.Lt] [b] pos) (dBoolT (dOp dLtD ma mb)) := pdt_cmp (opr_or op_lt (op_ltD hu)) lr_ltD ha hb (nomark _)
theorem dLt_ii {i j k l : Int} {Q : D → Prop} (h : Q (.bool (decide (i < k ∨ (i = k ∧ j < l))))) : dLtD (.tuple [.int i, .int j]) (.tuple [.int k, .int l]) Q := by
  refine ⟨by simp [PySem.W.alike, PySem.W.alikeAll], by simp [PyData.canLay0, PyData.canLayAll0], by simp [PyData.canLay0, PyData.canLayAll0], by simp [PyData.depth, PyData.depthAll], ?_⟩
  have e : PySem.W.dataLt (.tuple [.int i, .int j]) (.tuple [.int k, .int l]) = decide (i < k ∨ (i = k ∧ j < l)) := by
    simp only [PySem.W.dataLt, PySem.W.keyToks, PySem.W.keyToksAll, List.cons_append, List.nil_append]
    simp only [PyProof.Rows.lexLt]
    simp only [PyProof.Rows.itemLt]
    rcases Int.lt_trichotomy i k with z | z | z
    · simp [z]
    · subst z; simp
    · have h1 : ¬ i < k := by omega
      have h2 : ¬ i = k := by omega
      simp [z, h1, h2]
  rw [e]; exact h
/-! slices -/
abbrev DO := DSt → (Option Int → Prop) → Prop
def LO (t : TO) (m : DO) : Prop := ∀ (S : Sr) (M : Addr → Prop) (H0 H : Hp) (σ : L2.St) (σd : DSt) (Qd : Option Int → Prop) (Q : Option Int → Hp → Prop), Ev S M H0 H σ σd → m σd Qd →
  (∀ o H', Qd o → Ev S M H0 H' σ σd → KeepS S H H' → Q o H') → t σ H Q
def PDO (X : Cx) (e : Option Expr) (m : DO) : Prop := ∃ t, PO X e t ∧ LO t m
def dNoPart : DO := fun _ Q => Q none
def dPart (m : DE) : DO := fun σd Q => m σd fun d => match d with | .int i => Q (some i) | _ => False
theorem pdo_none : PDO X none dNoPart := ⟨_, po_none, fun S M H0 H σ σd Qd Q E h k => k none H h E .refl⟩
theorem pdo_some (h : PD X e ma) : PDO X (some e) (dPart ma) := by
  obtain ⟨t, h1, l1⟩ := h
  refine ⟨_, po_some h1, fun S M H0 H σ σd Qd Q E h k => l1 S M H0 H σ σd _ _ E h fun d v H1 q E1 k1 r1 => ?_⟩
  cases r1 <;> first | exact q.elim | skip
  exact ⟨_, rfl, k _ H1 q E1 k1⟩
def cutD (xs : List D) (lo hi : Option Int) : List D := (xs.drop (HT.sIx xs.length 0 lo)).take (HT.sIx xs.length xs.length hi - HT.sIx xs.length 0 lo)
theorem Dqs.cut {S : Sr} {M : Addr → Prop} {H : Hp} {xs : List V} {ds : List D} (r : Dqs S M H xs ds) (lo hi : Option Int) : Dqs S M H (cutV xs lo hi) (cutD ds lo hi) := by
  unfold cutV cutD
  rw [r.length]
  exact (r.drop _).take _
def dSlA (x : D) (lo hi : Option Int) (Q : D → Prop) : Prop := match x with
  | .list xs => Q (.list (cutD xs lo hi))
  | .tuple xs => Q (.tuple (cutD xs lo hi))
  | _ => False
def dSl (m : DE) (lo hi : DO) : DE := fun σd Q => m σd fun x => lo σd fun l => hi σd fun u => dSlA x l u Q
abbrev rSlE (K : PySem.W.Frag) : V → Option Int → Option Int → Hp → VK → Prop := fun x lo hi H Q => rSlL K x lo hi H Q ∨ rSlA K x lo hi H Q
theorem le_sl {t : TE} {tl th : TO} {m : DE} {lo hi : DO} (h : LE t m) (hl : LO tl lo) (hh : LO th hi) : LE (tSl (rSlE X.K) t tl th) (dSl m lo hi) := by
  intro S M H0 H σ σd Qd Q E hm k
  refine h S M H0 H σ σd _ _ E hm fun d v H1 q E1 k1 r1 => hl S M H0 H1 σ σd _ _ E1 q fun l H2 q E2 k2 => hh S M H0 H2 σ σd _ _ E2 q fun u H3 q E3 k3 => ?_
  have r3 := E2.dq k3 (E1.dq k2 r1)
  have kk := k1.trans (k2.trans k3)
  cases r3 with
  | non => exact q.elim
  | bl b => exact q.elim
  | int i => exact q.elim
  | str x => exact q.elim
  | dic n e => exact q.elim
  | src e => exact q.elim
  | @lst a xs ds na e r =>
    refine .inl ⟨a, xs, rfl, .inl (.inl e), fun p hp => ?_⟩
    have s := Same.upd (o := .lst (cutV xs l u)) hp
    refine k _ _ _ q (E3.same s) (kk.trans (.of s)) (.lst (fun z => E3.mtO p z hp) upd_same ?_)
    exact E3.dqs (.of s) (r.cut l u)
  | @tup a xs ds na e r =>
    have hlen := r.length
    refine .inr ⟨a, xs, rfl, .inl (.inl e), fun hw => ?_, fun hw p hp => ?_⟩
    · have e2 : cutD ds l u = ds := by
        unfold cutD
        rw [← hlen, hw.1, hw.2, hlen]
        simp
      refine k _ _ H3 q E3 kk ?_
      rw [e2]
      exact .tup na e r
    · have s := Same.upd (o := .tup (cutV xs l u)) hp
      refine k _ _ _ q (E3.same s) (kk.trans (.of s)) (.tup (fun z => E3.mtO p z hp) upd_same ?_)
      exact E3.dqs (.of s) (r.cut l u)
theorem pd_sl {lo hi : Option Expr} {ml mh : DO} (ha : PD X e ma) (hl : PDO X lo ml) (hh : PDO X hi mh) : PD X (.Subscript e (.Slice lo hi none p2) pos) (dSl ma ml mh) :=
  let ⟨_, h1, l1⟩ := ha; let ⟨_, h2, l2⟩ := hl; let ⟨_, h3, l3⟩ := hh; ⟨_, pe_slice (SlR.or sl_list sl_tupA) h1 h2 h3, le_sl l1 l2 l3⟩
/-! in, not in -/
def dIn (neg : Bool) : DR2 := fun x y Q => match y with
  | .list ds => SeqAt.shaped x = true ∧ SeqAt.shaped (.list ds) = true ∧ Q (.bool (if neg = true then !(ds.any fun z => PyData.eqv z x) else ds.any fun z => PyData.eqv z x))
  | .tuple ds => SeqAt.shaped x = true ∧ SeqAt.shaped (.list ds) = true ∧ Q (.bool (if neg = true then !(ds.any fun z => PyData.eqv z x) else ds.any fun z => PyData.eqv z x))
  | _ => False
def rInT (K : PySem.W.Frag) (neg : Bool) : R2 := fun x y H Q => ∃ d ds, Dp K H x d ∧ (Dp K H y (.list ds) ∨ Dp K H y (.tuple ds)) ∧ SeqAt.shaped d = true ∧ SeqAt.shaped (.list ds) = true ∧ Q (.bl (if neg = true then !(ds.any fun z => PyData.eqv z d) else ds.any fun z => PyData.eqv z d)) H
theorem op_inT (hu : X.A.units + 65 < cLine) : OpR X (compareOp .In) (rInT X.K false) := by
  intro pins s σ H x y v u Q I rx ry h
  obtain ⟨d, ds, hd, he, sd, se, q⟩ := h
  obtain ⟨as, r1⟩ := Dp.reads I d x v hd rx
  rcases he with he | he
  · obtain ⟨bs, r2⟩ := Dp.reads I (.list ds) y u he ry
    exact SeqAt.in_list_reads r2 r1 (SeqAt.canLay_of_shaped se) (SeqAt.canLay_of_shaped sd) (PyProof.Rows.room_in_shaped sd hu) ⟨.bl _, H, I, rfl, q⟩
  · obtain ⟨bs, r2⟩ := Dp.reads I (.tuple ds) y u he ry
    exact SeqAt.in_tuple_reads r2 r1 (SeqAt.canLay_of_shaped se) (SeqAt.canLay_of_shaped sd) (PyProof.Rows.room_in_shaped sd hu) ⟨.bl _, H, I, rfl, q⟩
theorem op_notInT (hu : X.A.units + 65 < cLine) : OpR X (compareOp .NotIn) (rInT X.K true) := by
  intro pins s σ H x y v u Q I rx ry h
  obtain ⟨d, ds, hd, he, sd, se, q⟩ := h
  obtain ⟨as, r1⟩ := Dp.reads I d x v hd rx
  rcases he with he | he
  · obtain ⟨bs, r2⟩ := Dp.reads I (.list ds) y u he ry
    exact SeqAt.notIn_list_reads r2 r1 (SeqAt.canLay_of_shaped se) (SeqAt.canLay_of_shaped sd) (PyProof.Rows.room_in_shaped sd hu) ⟨.bl _, H, I, rfl, q⟩
  · obtain ⟨bs, r2⟩ := Dp.reads I (.tuple ds) y u he ry
    exact SeqAt.notIn_tuple_reads r2 r1 (SeqAt.canLay_of_shaped se) (SeqAt.canLay_of_shaped sd) (PyProof.Rows.room_in_shaped sd hu) ⟨.bl _, H, I, rfl, q⟩
theorem shaped_lay {ds : List D} (h : SeqAt.shaped (.list ds) = true) : (PyData.tuple ds).canLay0 = true := by
  have := lay_of h
  simpa [PyData.canLay0] using this
theorem lr_inT {neg : Bool} : LR (rInT X.K neg) (dIn neg) := by
  intro S M H x y dx dy Qd Q hm rx ry h k
  unfold dIn at h
  split at h
  · obtain ⟨h1, h2, h3⟩ := h
    exact ⟨_, _, rx.dp (lay_of h1), .inl (ry.dp (lay_of h2)), h1, h2, k _ _ H h3 (Same.refl _) (.bl _)⟩
  · obtain ⟨h1, h2, h3⟩ := h
    exact ⟨_, _, rx.dp (lay_of h1), .inr (ry.dp (shaped_lay h2)), h1, h2, k _ _ H h3 (Same.refl _) (.bl _)⟩
  · exact h.elim
theorem pd_in (hu : X.A.units + 65 < cLine) (ha : PD X a ma) (hb : PD X b mb) (hm : behindInMarks .In b = false := by rfl) : PD X (.Compare a [.In] [b] pos) (dOp (dIn false) ma mb) := pd_cmp (op_inT hu) lr_inT ha hb hm
theorem pd_notin (hu : X.A.units + 65 < cLine) (ha : PD X a ma) (hb : PD X b mb) (hm : behindInMarks .NotIn b = false := by rfl) : PD X (.Compare a [.NotIn] [b] pos) (dOp (dIn true) ma mb) := pd_cmp (op_notInT hu) lr_inT ha hb hm
theorem pdt_in (hu : X.A.units + 65 < cLine) (ha : PD X a ma) (hb : PD X b mb) (hm : behindInMarks .In b = false := by rfl) : PDT X (.Compare a [.In] [b] pos) (dBoolT (dOp (dIn false) ma mb)) := pdt_cmp (op_inT hu) lr_inT ha hb hm
theorem pdt_notin (hu : X.A.units + 65 < cLine) (ha : PD X a ma) (hb : PD X b mb) (hm : behindInMarks .NotIn b = false := by rfl) : PDT X (.Compare a [.NotIn] [b] pos) (dBoolT (dOp (dIn true) ma mb)) := pdt_cmp (op_notInT hu) lr_inT ha hb hm
/-! is None -/
def isNon : D → Bool
  | .none => true
  | _ => false
def dIsN (neg : Bool) : DR2 := fun x y Q => match y with | .none => Q (.bool (if neg = true then !isNon x else isNon x)) | _ => False
theorem isNon_iff {S : Sr} {M : Addr → Prop} {H : Hp} {x : V} {d : D} (r : Dq S M H x d) : decide (x = V.non) = isNon d := by
  cases r <;> simp [isNon]
theorem lr_isN : LR (fun x y H Q => y = .non ∧ Q (.bl (decide (x = .non))) H) (dIsN false) := by
  intro S M H x y dx dy Qd Q hm rx ry h k
  unfold dIsN at h
  split at h
  · cases ry
    refine ⟨rfl, ?_⟩
    rw [isNon_iff rx]
    exact k _ _ H h (Same.refl _) (.bl _)
  · exact h.elim
theorem lr_notN : LR (fun x y H Q => y = .non ∧ Q (.bl (!decide (x = .non))) H) (dIsN true) := by
  intro S M H x y dx dy Qd Q hm rx ry h k
  unfold dIsN at h
  split at h
  · cases ry
    refine ⟨rfl, ?_⟩
    rw [isNon_iff rx]
    exact k _ _ H h (Same.refl _) (.bl _)
  · exact h.elim
theorem pd_isN (ha : PD X a ma) (hb : PD X b mb) : PD X (.Compare a [.Is] [b] pos) (dOp (dIsN false) ma mb) := pd_cmp op_isN lr_isN ha hb (nomark _)
theorem pd_notN (ha : PD X a ma) (hb : PD X b mb) : PD X (.Compare a [.IsNot] [b] pos) (dOp (dIsN true) ma mb) := pd_cmp op_notN lr_notN ha hb (nomark _)
theorem pdt_isN (ha : PD X a ma) (hb : PD X b mb) : PDT X (.Compare a [.Is] [b] pos) (dBoolT (dOp (dIsN false) ma mb)) := pdt_cmp op_isN lr_isN ha hb (nomark _)
theorem pdt_notN (ha : PD X a ma) (hb : PD X b mb) : PDT X (.Compare a [.IsNot] [b] pos) (dBoolT (dOp (dIsN true) ma mb)) := pdt_cmp op_notN lr_notN ha hb (nomark _)

/-! targets of comprehensions; y = [.. if ..] -/
theorem dgl_nil : ∀ ds σd Q, dgNil ds σd Q → ds.length = 0 := fun ds σd Q h => by cases ds with | nil => rfl | cons _ _ => exact h.elim
theorem dgl_cons {i n : Nat} {dg : DGs} (q : ∀ ds σd Q, dg ds σd Q → ds.length = n) : ∀ ds σd Q, dgCons (dgName i) dg ds σd Q → ds.length = n + 1 := fun ds σd Q z => by
  cases ds with
  | nil => exact z.elim
  | cons d r => exact congrArg (· + 1) (q r _ Q z)
theorem psd_setLci {Wx : WX} {tg iter elt c : Expr} {i : Nat} {y : Str} {py spos : Pos} {scope : Scope} {own : List (Str × Nat)} {mi : DA} {g : TG} {dg : DG} {mt : DT} {me : DE} (hc : X.calm = true) (hN : X.N.Nodup) (hy : X.N[i]? = some y) (hyl : X.env.scope.names.lookup y = some .local)
    (hsw : swapsWith (.ListComp elt [⟨tg, iter, [c], 0⟩] scope pos) (some (.Name y py)) spos.line X.env = pure true) (hi : PDI X tg iter mi) (ok : blkC X.N X.env.scope scope own = true)
    (hg : ∀ (s : Shared) (H : Hp) (C : Addr) (cl : List (Str × Addr)) (fp : List Addr), PG (X.blk s H scope (compEnvC scope cl C X.env) fp) tg g) (lg : LG g dg) (sg : Sets g (own.map (·.2)))
    (ht : ∀ (s : Shared) (H : Hp) (C : Addr) (cl : List (Str × Addr)) (fp : List Addr), PDT (X.blk s H scope (compEnvC scope cl C X.env) fp) c mt)
    (he : ∀ (s : Shared) (H : Hp) (C : Addr) (cl : List (Str × Addr)) (fp : List Addr), PD (X.blk s H scope (compEnvC scope cl C X.env) fp) elt me) (hs : ∀ x, foldedSetIterable iter X.env x = pure x := by intro _; rfl) :
    PDS Wx X (.Assign [.Name y py] (.ListComp elt [⟨tg, iter, [c], 0⟩] scope pos) spos) (dAsg (dLst (dLcc mi dg mt me (own.map (·.2)))) (dgName i)) :=
  let ⟨_, h1, l1⟩ := hi; ⟨_, ps_setLc hc hN hy hyl hsw h1 (blkOk_by ok) hg (fun s H C cl fp => pts_one (ht s H C cl fp).pt) (fun s H C cl fp => (he s H C cl fp).pe) hs, ls_asg (ln_lc l1 lg sg lt_ofT le_of).le (lg_name i)⟩
end
end PH
namespace PH
open L2
theorem _root_.L2.Room.units2 {k : Nat} {A : PySem.Around} (r : L2.Room k A) : A.units + 65 < PySem.cLine := by have := r.un; omega
end PH

/-! sum, tuple(..), list(..); x, y = [], ..; lists new from calls. -/
namespace PH
open PySem PySem.Spec L2
open PyProof.Rows (envOfC AllBare IntsAre)
/-! sum, any, tuple, list -/
def intsOf : List D → Option (List Int)
  | [] => some []
  | .int b :: r => (intsOf r).map (b :: ·)
  | _ => none
theorem intsOf_vs {S : Sr} {M : Addr → Prop} {H : Hp} : ∀ {vs : List V} {ds : List D} {bs : List Int}, Dqs S M H vs ds → intsOf ds = some bs → vs = bs.map V.int
  | _, _, _, .nil, h => by cases h; rfl
  | _, _, _, .cons a r, h => by
    cases a <;> simp only [intsOf] at h <;> try cases h
    obtain ⟨b', h1, h2⟩ := Option.map_eq_some_iff.mp h
    subst h2
    rw [intsOf_vs r h1]; rfl
theorem intsOf_map (ns : List Int) : intsOf (ns.map PyData.int) = some ns := by
  induction ns with
  | nil => rfl
  | cons n ns ih => simp [intsOf, ih]
def dSum : DRC := fun ds Q => match ds with
  | [.list xs] => (match intsOf xs with | some ns => Q (.int ns.sum) | none => False)
  | _ => False
theorem lc_sum {K : PySem.W.Frag} : LC (rSum K) dSum := by
  intro S M H xs ds Qd Q hm r h k
  unfold dSum at h
  split at h
  · split at h
    · rename_i bs e
      cases r with
      | cons a b =>
        cases b
        cases a with
        | lst na ea ra => exact ⟨_, bs, rfl, .inl (.inl (by rw [← intsOf_vs ra e]; exact ea)), k _ _ H h (Same.refl _) (.int _)⟩
    · exact h.elim
  · exact h.elim
def dAny : DRC := fun ds Q => match ds with
  | [.list xs] => (match boolsD xs with | some bs => Q (.bool (bs.any id)) | none => False)
  | _ => False
theorem lc_any {K : PySem.W.Frag} : LC (rAny K) dAny := by
  intro S M H xs ds Qd Q hm r h k
  unfold dAny at h
  split at h
  · split at h
    · rename_i bs e
      cases r with
      | cons a b =>
        cases b
        cases a with
        | lst na ea ra => exact ⟨_, bs, rfl, .inl (.inl (by rw [← boolsD_vs ra e]; exact ea)), k _ _ H h (Same.refl _) (.bl _)⟩
    · exact h.elim
  · exact h.elim
def dTupOf : DRC := fun ds Q => match ds with
  | [.list xs] => Q (.tuple xs)
  | [.tuple xs] => Q (.tuple xs)
  | _ => False
theorem lc_tupOf {K : PySem.W.Frag} : LC (fun xs H Q => ∃ p ys, xs = [.ref p] ∧ ((SqL K H p ys ∧ ∀ l, H l = none → Q (.ref l) (upd H l (.tup ys))) ∨ (SqT K H p ys ∧ Q (.ref p) H))) dTupOf := by
  intro S M H xs ds Qd Q hm r h k
  unfold dTupOf at h
  split at h
  · cases r with
    | cons a b =>
      cases b
      cases a with
      | @lst a' vs _ na ea ra =>
        refine ⟨_, _, rfl, .inl ⟨.inl (.inl ea), fun l hl => ?_⟩⟩
        have s := Same.upd (o := .tup vs) hl
        exact k _ _ _ h s (.tup (fun z => hm l z hl) upd_same (ra.go fun a o n e => ⟨n, s a o e⟩))
  · cases r with
    | cons a b =>
      cases b
      cases a with
      | tup na ea ra => exact ⟨_, _, rfl, .inr ⟨.inl (.inl ea), k _ _ H h (Same.refl _) (.tup na ea ra)⟩⟩
  · exact h.elim
def dLstOf : DRC := fun ds Q => match ds with
  | [.list xs] => Q (.list xs)
  | [.tuple xs] => Q (.list xs)
  | _ => False
theorem lc_lstOf {K : PySem.W.Frag} : LC (fun xs H Q => ∃ p ys, xs = [.ref p] ∧ (SqL K H p ys ∨ SqT K H p ys) ∧ ∀ l, H l = none → Q (.ref l) (upd H l (.lst ys))) dLstOf := by
  intro S M H xs ds Qd Q hm r h k
  unfold dLstOf at h
  split at h
  · cases r with
    | cons a b =>
      cases b
      cases a with
      | @lst a' vs _ na ea ra =>
        refine ⟨_, _, rfl, .inl (.inl (.inl ea)), fun l hl => ?_⟩
        have s := Same.upd (o := .lst vs) hl
        exact k _ _ _ h s (.lst (fun z => hm l z hl) upd_same (ra.go fun a o n e => ⟨n, s a o e⟩))
  · cases r with
    | cons a b =>
      cases b
      cases a with
      | @tup a' vs _ na ea ra =>
        refine ⟨_, _, rfl, .inr (.inl (.inl ea)), fun l hl => ?_⟩
        have s := Same.upd (o := .lst vs) hl
        exact k _ _ _ h s (.lst (fun z => hm l z hl) upd_same (ra.go fun a o n e => ⟨n, s a o e⟩))
  · exact h.elim
/-! a frame with one place more that none may reach -/
section
variable {S : Sr} {M : Addr → Prop} {H0 H H2 : Hp} {σ : L2.St} {σd : DSt}
theorem Ev.noMO (E : Ev S M H0 H σ σd) {p : Addr} (h : H p = none) : ¬ MO M σd p := fun z => E.mtO p z h
theorem Ev.plus (E : Ev S M H0 H σ σd) (k : KeepS S H H2) (src : SrcOk S M H2) {p : Addr} (hp : H p = none) (h2 : H2 p ≠ none) (hmt : ∀ a, M a → H2 a ≠ none) : Ev S (fun a => M a ∨ a = p) (less H2 σd) H2 σ σd := by
  refine E.remake (fun a o n e => ⟨fun z => ?_, (E.kp k a o n e).2⟩) (fun a ds z => ?_) (fun p' c e => ?_) (fun a z => ?_)
  · rcases z with (z | z) | z
    · exact n (.inl z)
    · rw [z, hp] at e; cases e
    · exact n (.inr z)
  · obtain ⟨i, hi⟩ := List.getElem?_of_mem z
    obtain ⟨o, _, _, xs, e, _⟩ := E.slot hi
    refine ⟨by rw [k a _ e (E.ownNe z), e], fun y => ?_⟩
    rcases y with y | y
    · exact E.ownM z y
    · rw [y, hp] at e; cases e
  · obtain ⟨a, b, r⟩ := src p' c e
    exact ⟨.inl a, .inl b, r⟩
  · rcases z with z | z
    · exact hmt a z
    · rw [z]; exact h2
theorem Ev.forget (E : Ev S M H0 H σ σd) (i : Nat) (x : Option V) : Ev S M H0 H (σ.set i x) (σd.set i .emp) := by
  have sub : ∀ a, MO M (σd.set i .emp) a → MO M σd a := fun a h => by
    rcases h with h | ⟨ds, h⟩
    · exact .inl h
    · rcases List.mem_or_eq_of_mem_set h with h | h
      · exact .inr ⟨ds, h⟩
      · cases h
  have g : ∀ a o, ¬ MO M σd a → H a = some o → ¬ MO M (σd.set i .emp) a ∧ H a = some o := fun a o n e => ⟨fun z => n (sub a z), e⟩
  have ow : ∀ {j : Nat} {a : Addr} {ds : List D}, (σd.set i .emp)[j]? = some (Sl.own a ds) → σd[j]? = some (Sl.own a ds) := fun {j a ds} h => by
    rw [List.getElem?_set] at h
    split at h
    · first
        | cases h
        | (split at h <;> cases h)
    · exact h
  refine ⟨by rw [List.length_set, List.length_set]; exact E.len, fun j o s h1 h2 => ?_, fun j k a ds es h1 h2 => E.uni j k a ds es (ow h1) (ow h2), fun a ds h => ?_, E.src, E.src0, E.keep, E.mt, E.mt0⟩
  · rw [List.getElem?_set] at h1 h2
    by_cases hj : i = j
    · rw [if_pos hj] at h1 h2
      split at h2
      · cases h2; trivial
      · cases h2
    · rw [if_neg hj] at h1 h2
      have z := E.sl j o s h1 h2
      cases s with
      | emp => trivial
      | val d => obtain ⟨w, e, q⟩ := z; exact ⟨w, e, q.go g⟩
      | own a ds => obtain ⟨e, xs, h, q⟩ := z; exact ⟨e, xs, h, q.go g⟩
  · rcases List.mem_or_eq_of_mem_set h with h | h
    · exact E.new a ds h
    · cases h
end
/-! x, y = [], e; x is changed behind -/
section
variable {X : Cx} {Wx : WX} {b : Expr} {pos p1 : Pos}
def dParO (i j : Nat) (m : DE) : DS := fun Dd σd => m σd fun e => ∀ p, Dd.nx ((σd.set i (Sl.own p [])).set j (.val e))
theorem ls_parO {i j : Nat} {te : TE} {me : DE} (h : LE te me) : LS Wx (tPar i j (tCons (tLst tNil) (tCons te tNil))) (dParO i j me) := by
  intro S M H0 H σ σd Dd Dn E hm r
  unfold tPar tCons
  refine (ln_lst la_nil) S M H0 H σ σd (fun ds => ds = []) _ E rfl fun ds p xs H1 q E1 k1 hp e1 r1 => ?_
  subst q
  have E1' := E.plus k1 E1.src hp (by rw [e1]; exact fun z => nomatch z) E1.mt
  refine h S _ _ H1 σ σd _ _ E1' hm fun d v H2 q E2 k2 r2 => ?_
  have src2 : SrcOk S M H2 := fun p' c e => let ⟨a, b, _⟩ := E1.src p' c e; let ⟨_, _, z⟩ := E2.src p' c e; ⟨a, b, z⟩
  have E2' := E1.ext k2 src2
  have np : ∀ p' c, S = some (p', c) → p ≠ p' ∧ p ≠ c := fun p' c e => by
    obtain ⟨a, b, _⟩ := E.src p' c e
    exact ⟨fun z => E.mt p' a (z ▸ hp), fun z => E.mt c b (z ▸ hp)⟩
  have e2 : H2 p = some (.lst xs) := k2 p _ e1 np
  have r1' : Dqs S (fun a => MO M σd a ∨ a = p) H2 xs [] := by cases r1; exact .nil
  refine ⟨_, _, rfl, r.1 _ _ _ (q p) ((E2'.own (i := i) E (k1.trans k2) hp e2 r1').put (r2.go fun a o n e => ⟨fun z => n ?_, e⟩))⟩
  rcases z with z | ⟨ds, z⟩
  · exact .inl (.inl z)
  · rcases List.mem_or_eq_of_mem_set z with z | z
    · exact .inr ⟨ds, z⟩
    · cases z; exact .inl (.inr rfl)
theorem psd_parO {i j : Nat} {x y : Str} {px py pt : Pos} {kt k2 pt2} {me : DE} (hc : X.calm = true) (hN : X.N.Nodup) (hi : X.N[i]? = some x) (hj : X.N[j]? = some y) (hij : i ≠ j)
    (hx : X.env.scope.names.lookup x = some .local) (hy : X.env.scope.names.lookup y = some .local) (hb : PD X b me)
    (hw : swappedStores [.Tuple [.Name x px, .Name y py] kt pt] (.Tuple [.List [] p1, b] k2 pt2) X.env = pure (some [x, y]))
    (hs1 : starEach [.List [] p1, b] X.env = (false, eval (.List [] p1) X.env) :: starEach [b] X.env := by rfl) (hs2 : starEach [b] X.env = (false, eval b X.env) :: starEach [] X.env := by rfl)
    (hs : swapsWithSole [.Tuple [.Name x px, .Name y py] kt pt] (.Tuple [.List [] p1, b] k2 pt2) pos.line X.env = pure false := by rfl) :
    PDS Wx X (.Assign [.Tuple [.Name x px, .Name y py] kt pt] (.Tuple [.List [] p1, b] k2 pt2) pos) (dParO i j me) := let ⟨_, h1, l1⟩ := hb; ⟨_, ps_par hc hN hi hj hij hx hy (pa_cons (pe_lst pa_nil) (pa_cons h1 pa_nil hs2) hs1) hw hs, ls_parO l1⟩
end
end PH

/-! Lists that calls hand out are new; such within a new list, changed behind. -/
namespace PH
open PySem PySem.Spec L2
open PyProof.Rows (envOfC AllBare IntsAre)
mutual
/-- no list, no dict in it -/
def listFree : D → Bool
  | .list _ => false
  | .dict _ => false
  | .tuple xs => listFrees xs
  | _ => true
def listFrees : List D → Bool
  | [] => true
  | x :: xs => listFree x && listFrees xs
end
section
variable {S : Sr} {M M' : Addr → Prop} {H : Hp}
mutual
theorem Dq.lf (hM : ∀ b, M' b → M b ∨ ∃ xs, H b = some (.lst xs)) : ∀ {d : D} {v : V}, Dq S M H v d → listFree d = true → Dq S M' H v d
  | _, _, .non, _ => .non
  | _, _, .bl b, _ => .bl b
  | _, _, .int i, _ => .int i
  | _, _, .str x, _ => .str x
  | _, _, .lst n e r, h => by simp [listFree] at h
  | _, _, .tup n e r, h => .tup (fun z => by
      rcases hM _ z with z | ⟨xs, z⟩
      · exact n z
      · rw [e] at z; cases z) e (Dqs.lf hM r (by simpa [listFree] using h))
  | _, _, .dic _ _, h => by simp [listFree] at h
  | _, _, .src _, h => by simp [listFree] at h
theorem Dqs.lf (hM : ∀ b, M' b → M b ∨ ∃ xs, H b = some (.lst xs)) : ∀ {ds : List D} {vs : List V}, Dqs S M H vs ds → listFrees ds = true → Dqs S M' H vs ds
  | _, _, .nil, _ => .nil
  | _, _, .cons a b, h => by
    simp only [listFrees, Bool.and_eq_true] at h
    exact .cons (Dq.lf hM a h.1) (Dqs.lf hM b h.2)
end
end
/-- a list that a call hands out, the arguments without lists: it is new -/
theorem lf_call {n : Nat} {spd : DSp} {tA : TA} {mA : DA} (hA : LA n tA mA) {S : Sr} {M : Addr → Prop} {H0 H : Hp} {σ : L2.St} {σd : DSt} (d1 : List D) {Q : VK} (E : Ev S M H0 H σ σd) (hl : listFrees d1 = true)
    (hm : mA σd fun ds => listFrees ds = true ∧ spd ds fun d => d = .list d1)
    (k : ∀ (a : Addr) (xs : List V) (H' : Hp), H a = none → KeepS S H H' → Ev S M H0 H' σ σd → H' a = some (.lst xs) → Dqs S (fun b => MO M σd b ∨ b = a) H' xs d1 → Q (.ref a) H') : tCallG (SpD n spd) tA σ H Q := by
  refine hA S M H0 H σ σd _ _ E hm fun ds vs HA q EA kA rA hlen => ?_
  let M1 : Addr → Prop := fun b => MO M σd b ∨ ∃ xs, HA b = some (.lst xs)
  have so : SrcOk S M1 HA := fun p c e => let ⟨a, b, r⟩ := EA.src p c e; ⟨.inl (.inl a), .inl (.inl b), r⟩
  have mt1 : ∀ a, M1 a → HA a ≠ none := fun a h => by
    rcases h with h | ⟨xs, h⟩
    · exact EA.mtO a h
    · rw [h]; exact fun z => nomatch z
  refine ⟨S, M1, ds, _, mt1, so, rA.lf (fun b z => z) q.1, hlen, q.2, fun d v H' qd k' s' r' => ?_⟩
  subst qd
  cases r' with
  | @lst a xs _ na e r =>
    have hsrc : ∀ p c, S = some (p, c) → a ≠ p ∧ a ≠ c := fun p c e' => by
      obtain ⟨h1, h2, _⟩ := so p c e'
      exact ⟨fun z => na (z ▸ h1), fun z => na (z ▸ h2)⟩
    have an : HA a = none := by
      cases z : HA a with
      | none => rfl
      | some o =>
        have := k' a o z hsrc
        rw [e] at this
        cases this
        exact absurd (.inr ⟨xs, z⟩) na
    have src2 : SrcOk S M H' := fun p c e' => let ⟨a, b, _⟩ := EA.src p c e'; let ⟨_, _, z⟩ := s' p c e'; ⟨a, b, z⟩
    have E' := EA.ext k' src2
    refine k a xs H' (fresh_back E kA an EA.src) (kA.trans k') E' e (r.lf (fun b z => ?_) hl)
    rcases z with z | z
    · exact .inl (.inl z)
    · exact .inr ⟨xs, by rw [z]; exact e⟩
section
variable {X : Cx} {Wx : WX}
def dNest (i nF nG : Nat) (spF spG : DSp) (mA mB : DA) (mT : DT) : DS := fun Dd σd => ∃ d1 d2 : List D, (mA σd fun ds => listFrees ds = true ∧ spF ds fun d => d = .list d1) ∧ (mB σd fun ds => listFrees ds = true ∧ spG ds fun d => d = .list d2) ∧
  (listFrees d1 = true ∧ listFrees d2 = true ∧ d1.length ≤ 1000000 ∧ d2.length ≤ 1000000 ∧ i < σd.length) ∧ (mT (σd.set i (.val (.list [.list d1, .list d2]))) fun b => b = false) ∧ Dd.nx (σd.set i .emp)
theorem ls_nest {K : PySem.W.Frag} {i nF nG : Nat} {spF spG : DSp} {tA tB : TA} {mA mB : DA} {tT : TT} {mT : DT} {tR : TS} (hA : LA nF tA mA) (hB : LA nG tB mB) (hT : LT tT mT) :
    LS Wx (tSeq (tAsg (tLst (tCons (tCallG (SpD nF spF) tA) (tCons (tCallG (SpD nG spG) tB) tNil))) (gName i)) (tSeq (tIfS tT tR tNext)
      (tSeq (tDrop (tBM K "list" rAppend (tOp (rIx K) (tVar i) (tC (.int 0))) (tCons (tC .non) tNil))) (tDrop (tBM K "list" rAppend (tOp (rIx K) (tVar i) (tC (.int 1))) (tCons (tC .non) tNil)))))) (dNest i nF nG spF spG mA mB mT) := by
  intro S M H0 H σ σd Dd Dn E hm r
  obtain ⟨d1, d2, ha, hb, ⟨l1, l2, n1, n2, hi⟩, ht, hnx⟩ := hm
  have hi' : i < σ.length := by rw [← E.len]; exact hi
  unfold tSeq tAsg tLst tCons
  refine lf_call hA d1 E l1 ha fun a1 xs1 H1 f1 k1 E1 e1 r1 => ?_
  refine lf_call hB d2 E1 l2 hb fun a2 xs2 H2 f2 k2 E2 e2 r2 => ⟨by show 2 ≤ sizeLine; rw [sizeLine_eq]; omega, fun p hp => ?_⟩
  have ns1 : ∀ p c, S = some (p, c) → a1 ≠ p ∧ a1 ≠ c := fun p' c e' => by
    obtain ⟨a, b, _⟩ := E.src p' c e'
    exact ⟨fun z => E.mt p' a (z ▸ f1), fun z => E.mt c b (z ▸ f1)⟩
  have ns2 : ∀ p c, S = some (p, c) → a2 ≠ p ∧ a2 ≠ c := fun p' c e' => by
    obtain ⟨a, b, _⟩ := E1.src p' c e'
    exact ⟨fun z => E1.mt p' a (z ▸ f2), fun z => E1.mt c b (z ▸ f2)⟩
  have e1' : H2 a1 = some (.lst xs1) := k2 a1 _ e1 ns1
  have n12 : a1 ≠ a2 := fun z => by rw [z, f2] at e1; cases e1
  have np1 : a1 ≠ p := ne_of_none e1' hp
  have np2 : a2 ≠ p := ne_of_none e2 hp
  have s3 : Same H2 (upd H2 p (.lst [.ref a1, .ref a2])) := Same.upd hp
  have E3 := E2.same s3
  have o1 : ¬ MO M σd a1 := E.noMO f1
  have o2 : ¬ MO M σd a2 := E1.noMO f2
  have o3 : ¬ MO M σd p := E2.noMO hp
  have r1' : Dqs S (MO M σd) (upd H2 p (.lst [.ref a1, .ref a2])) xs1 d1 := (r1.go fun a o n e => ⟨fun z => n (.inl z), (E1.kp k2 a o (fun z => n (.inl z)) e).2⟩).go fun a o n e => ⟨n, s3 a o e⟩
  have r2' : Dqs S (MO M σd) (upd H2 p (.lst [.ref a1, .ref a2])) xs2 d2 := r2.go fun a o n e => ⟨fun z => n (.inl z), s3 a o e⟩
  have D3 : Dq S (MO M σd) (upd H2 p (.lst [.ref a1, .ref a2])) (.ref p) (.list [.list d1, .list d2]) :=
    .lst o3 upd_same (.cons (.lst o1 (s3 _ _ e1') r1') (.cons (.lst o2 (s3 _ _ e2) r2') .nil))
  have E3' := E3.put (i := i) D3
  show tIfS tT tR tNext _ (σ.set i (some (.ref p))) _
  unfold tIfS
  refine hT S M H0 _ _ _ _ _ E3' ht fun b H4 qb E4 k4 => ?_
  subst qb
  rw [if_neg (by decide)]
  have nsp : ∀ p' c, S = some (p', c) → p ≠ p' ∧ p ≠ c := fun p' c e' => by
    obtain ⟨a, b, _⟩ := E2.src p' c e'
    exact ⟨fun z => E2.mt p' a (z ▸ hp), fun z => E2.mt c b (z ▸ hp)⟩
  have ep : H4 p = some (.lst [.ref a1, .ref a2]) := k4 p _ upd_same nsp
  have e14 : H4 a1 = some (.lst xs1) := k4 a1 _ (s3 _ _ e1') ns1
  have e24 : H4 a2 = some (.lst xs2) := k4 a2 _ (s3 _ _ e2) ns2
  have sl : (σ.set i (some (.ref p)))[i]? = some (some (.ref p)) := by rw [List.getElem?_set, if_pos rfl, if_pos hi']
  have z1 : xs1.length < sizeLine := by rw [r1.length, sizeLine_eq]; omega
  have z2 : xs2.length < sizeLine := by rw [r2.length, sizeLine_eq]; omega
  show tDrop (tBM K "list" rAppend (tOp (rIx K) (tVar i) (tC (.int 0))) (tCons (tC .non) tNil)) _ _ H4
  refine ⟨.ref p, sl, .inl ⟨p, _, 0, .ref a1, rfl, rfl, .inl (.inl ep), rfl, .inl ⟨rfl, _, .inl (.inl e14)⟩, a1, xs1, .non, rfl, rfl, e14, z1, ?_⟩⟩
  have ep5 : upd H4 a1 (.lst (xs1 ++ [.non])) p = some (.lst [.ref a1, .ref a2]) := by rw [upd_ne np1.symm]; exact ep
  have e25 : upd H4 a1 (.lst (xs1 ++ [.non])) a2 = some (.lst xs2) := by rw [upd_ne n12.symm]; exact e24
  show tDrop (tBM K "list" rAppend (tOp (rIx K) (tVar i) (tC (.int 1))) (tCons (tC .non) tNil)) Dn _ _
  refine ⟨.ref p, sl, .inl ⟨p, _, 1, .ref a2, rfl, rfl, .inl (.inl ep5), rfl, .inl ⟨rfl, _, .inl (.inl e25)⟩, a2, xs2, .non, rfl, rfl, e25, z2, ?_⟩⟩
  -- the frame behind
  have kall : KeepS S H (upd (upd H4 a1 (.lst (xs1 ++ [.non]))) a2 (.lst (xs2 ++ [.non]))) := fun b o e n => by
    have h1 := k1 b o e n
    have h2 := k2 b o h1 n
    have h4 := k4 b o (s3 _ _ h2) n
    rw [upd_ne (ne_of_none h1 f2), upd_ne (ne_of_none e f1)]
    exact h4
  have src6 : SrcOk S M (upd (upd H4 a1 (.lst (xs1 ++ [.non]))) a2 (.lst (xs2 ++ [.non]))) := fun p' c e' => by
    obtain ⟨x1, x2, x3, ns, l, m, t, h1, h2⟩ := E4.src p' c e'
    refine ⟨x1, x2, x3, ns, l, m, t, ?_, ?_⟩
    · rw [upd_ne (ns2 p' c e').2.symm, upd_ne (ns1 p' c e').2.symm]; exact h1
    · rw [upd_ne (ns2 p' c e').1.symm, upd_ne (ns1 p' c e').1.symm]; exact h2
  exact r.1 _ _ _ hnx ((E.ext kall src6).forget i _)
end
end PH
namespace PH
open PySem PySem.Spec L2
open PyProof.Rows (envOfC AllBare IntsAre)
section
variable {X : Cx} {Wx : WX} {k jF jG i : Nat} {x xF xG : Str} {psF psG : List Str} {spF spG : DSp} {mA mB : DA} {mT : DT} {eA eB c rv : Expr} {esA esB : List Expr} {pF pG posF posG posL px pos1 pos2 pos3 pos4 posR : Pos}
  {pn3 pn4 ps3 ps4 pa3 pa4 pc3 pc4 pi3 pi4 pN3 pN4 : Pos} {q3 q4 r3 r4 : _} {tR : TE}
/-- x = [f(..), g(..)]; if c: return ..; x[0].append(None); x[1].append(None) -/
theorem pss_nest (DF : DefOk X.prog X.w X.K X.mg X.base jF xF psF spF) (DG : DefOk X.prog X.w X.K X.mg X.base jG xG psG spG) (hr : Room k X.A) (hjF : jF ≤ k) (hjG : jG ≤ k) (hgu : X.A.guards = some []) (hA : PDA X (eA :: esA) psF.length mA) (hB : PDA X (eB :: esB) psG.length mB) (hT : PDT X c mT) (hR : PE X rv tR)
    (hN : X.N.Nodup) (hi : X.N[i]? = some x) (hx : Loc X.env.scope x) (hv : Vis X.env.scope x)
    (gF : Gl X xF := by rfl) (gG : Gl X xG := by rfl) (dF : (xF == ("__debug__" : Str)) = false := by decide) (dG : (xG == ("__debug__" : Str)) = false := by decide)
    (hsF : starEach (eA :: esA) X.env = (false, eval eA X.env) :: starEach esA X.env := by rfl) (hpF : (backTo posF (starEach esA X.env)).any (·.1) = false := by rfl)
    (hsG : starEach (eB :: esB) X.env = (false, eval eB X.env) :: starEach esB X.env := by rfl) (hpG : (backTo posG (starEach esB X.env)).any (·.1) = false := by rfl)
    (hl1 : starEach [.Call (.Name xF pF) (eA :: esA) [] posF, .Call (.Name xG pG) (eB :: esB) [] posG] X.env = (false, eval (.Call (.Name xF pF) (eA :: esA) [] posF) X.env) :: starEach [.Call (.Name xG pG) (eB :: esB) [] posG] X.env := by rfl)
    (hl2 : starEach [.Call (.Name xG pG) (eB :: esB) [] posG] X.env = (false, eval (.Call (.Name xG pG) (eB :: esB) [] posG) X.env) :: starEach [] X.env := by rfl)
    (hs : swapsWith (.List [.Call (.Name xF pF) (eA :: esA) [] posF, .Call (.Name xG pG) (eB :: esB) [] posG] posL) (some (.Name x px)) pos1.line X.env = pure false := by rfl)
    (hf : X.fn x = true ∨ X.env.scope.names.lookup x = some .local := by first | exact .inl rfl | exact .inr rfl)
    (hd : (x == ("__debug__" : Str)) = false := by decide) (hcd : (x == ("__classdict__" : Str)) = false := by decide)
    (b3 : attributeBase (.Subscript (.Name x pn3) (.Constant (.int 0) q3 pi3) ps3) "append" X.env (eval (.Subscript (.Name x pn3) (.Constant (.int 0) q3 pi3) ps3) X.env) = eval (.Subscript (.Name x pn3) (.Constant (.int 0) q3 pi3) ps3) X.env := by rfl)
    (b4 : attributeBase (.Subscript (.Name x pn4) (.Constant (.int 1) q4 pi4) ps4) "append" X.env (eval (.Subscript (.Name x pn4) (.Constant (.int 1) q4 pi4) ps4) X.env) = eval (.Subscript (.Name x pn4) (.Constant (.int 1) q4 pi4) ps4) X.env := by rfl)
    (f3 : ((backTo pc3 (starEach [.Constant .none r3 pN3] X.env)).all (fun x => !x.1) && (backToKw pc3 (keywordEach [] X.env)).all (fun x => x.1.isSome) && decide (([.Constant .none r3 pN3] : List Expr).length + ([] : List Keyword).length + (if ([] : List Keyword).isEmpty then 0 else 1) < 30)) = true := by rfl)
    (f4 : ((backTo pc4 (starEach [.Constant .none r4 pN4] X.env)).all (fun x => !x.1) && (backToKw pc4 (keywordEach [] X.env)).all (fun x => x.1.isSome) && decide (([.Constant .none r4 pN4] : List Expr).length + ([] : List Keyword).length + (if ([] : List Keyword).isEmpty then 0 else 1) < 30)) = true := by rfl)
    (n3 : (pa3.endLine == pc3.line) = true := by rfl) (n4 : (pa4.endLine == pc4.line) = true := by rfl)
    (e3 : starEach [.Constant .none r3 pN3] X.env = (false, eval (.Constant .none r3 pN3) X.env) :: starEach [] X.env := by rfl) (e4 : starEach [.Constant .none r4 pN4] X.env = (false, eval (.Constant .none r4 pN4) X.env) :: starEach [] X.env := by rfl)
    (l3 : (backTo pc3 (starEach [] X.env)).any (·.1) = false := by rfl) (l4 : (backTo pc4 (starEach [] X.env)).any (·.1) = false := by rfl)
    (w3 : swapsWith (.Call (.Attribute (.Subscript (.Name x pn3) (.Constant (.int 0) q3 pi3) ps3) "append" pa3) [.Constant .none r3 pN3] [] pc3) none pos3.line X.env = pure false := by rfl)
    (w4 : swapsWith (.Call (.Attribute (.Subscript (.Name x pn4) (.Constant (.int 1) q4 pi4) ps4) "append" pa4) [.Constant .none r4 pN4] [] pc4) none pos4.line X.env = pure false := by rfl) :
    PDSs Wx X [.Assign [.Name x px] (.List [.Call (.Name xF pF) (eA :: esA) [] posF, .Call (.Name xG pG) (eB :: esB) [] posG] posL) pos1, .If c [.Return (some rv) posR] [] pos2,
      .Expr (.Call (.Attribute (.Subscript (.Name x pn3) (.Constant (.int 0) q3 pi3) ps3) "append" pa3) [.Constant .none r3 pN3] [] pc3) pos3,
      .Expr (.Call (.Attribute (.Subscript (.Name x pn4) (.Constant (.int 1) q4 pi4) ps4) "append" pa4) [.Constant .none r4 pN4] [] pc4) pos4] (dNest i psF.length psG.length spF spG mA mB mT) := by
  obtain ⟨fF, fdF, hmF, kpF, hbF, FF⟩ := DF
  obtain ⟨fG, fdG, hmG, kpG, hbG, FG⟩ := DG
  obtain ⟨tA, hA, lA⟩ := hA
  obtain ⟨tB, hB, lB⟩ := hB
  obtain ⟨tT, hT, lT⟩ := hT
  exact ⟨_, pss_cons (ps_set hN hi hx (pe_lst (pa_cons (pe_callG FF (hr.mono hjF) hgu gF hmF kpF hbF hA dF hsF hpF) (pa_cons (pe_callG FG (hr.mono hjG) hgu gG hmG kpG hbG hB dG hsG hpG) pa_nil hl2) hl1)) hs hf)
    (pss_cons (ps_if hT (pss_one (ps_ret hR)) pss_nil)
    (pss_cons (ps_expr (pe_bm PySem.F.plainAttrs_list PySem.F.slot_list_append PySem.F.type_list_append mt_append (pe_ix ix_seq (pe_var hi hv hd hcd) pe_int (fun _ _ => rfl)) (pa_cons pe_non pa_nil e3) b3 f3 n3 e3 l3) w3)
    (pss_one (ps_expr (pe_bm PySem.F.plainAttrs_list PySem.F.slot_list_append PySem.F.type_list_append mt_append (pe_ix ix_seq (pe_var hi hv hd hcd) pe_int (fun _ _ => rfl)) (pa_cons pe_non pa_nil e4) b4 f4 n4 e4 l4) w4)))), ls_nest lA lB lT⟩
end
end PH

/-! xs[::-1] over data. -/
namespace PH
open PySem PySem.Spec L2
open PyProof.Rows (envOfC AllBare IntsAre)
section
variable {X : Cx} {e : Expr} {ma : DE}
def dRev (m : DE) : DE := fun σd Q => m σd fun x => match x with
  | .list xs => Q (.list xs.reverse)
  | _ => False
theorem le_rev {t : TE} {m : DE} (h : LE t m) : LE (tRevL X.K t) (dRev m) := by
  intro S M H0 H σ σd Qd Q E hm k
  refine h S M H0 H σ σd _ _ E hm fun d v H1 q E1 k1 r1 => ?_
  cases r1 <;> first | exact q.elim | skip
  rename_i a xs ds na e r
  refine ⟨a, xs, rfl, .inl (.inl e), fun p hp => ?_⟩
  have s := Same.upd (o := .lst xs.reverse) hp
  refine k _ _ _ q (E1.same s) (k1.trans (.of s)) (.lst (fun z => E1.mtO p z hp) upd_same ?_)
  exact E1.dqs (.of s) r.rev
theorem pd_rev {k : Nat} {p1 p2 p3 pos : Pos} (ha : PD X e ma) : PD X (.Subscript e (.Slice none none (some (.UnaryOp .USub (.Constant (.int 1) k p1) p2)) p3) pos) (dRev ma) := let ⟨_, h1, l1⟩ := ha; ⟨_, pe_revL h1, le_rev l1⟩
end
end PH

/-! What the defs say, over data: numbers and fractions. -/
namespace PH
open PySem

theorem dlen1 {ds : List D} (h : ds.length = 1) : ∃ d, ds = [d] := by
  match ds, h with
  | [d], _ => exact ⟨d, rfl⟩
theorem dlen2 {ds : List D} (h : ds.length = 2) : ∃ d e, ds = [d, e] := by
  match ds, h with
  | [d, e], _ => exact ⟨d, e, rfl⟩
theorem dlen3 {ds : List D} (h : ds.length = 3) : ∃ d e f, ds = [d, e, f] := by
  match ds, h with
  | [d, e, f], _ => exact ⟨d, e, f, rfl⟩
/-- is it an integer -/
def isNum : D → Bool
  | .int _ => true
  | _ => false
theorem isNum_iff {d : D} : isNum d = true ↔ ∃ i, d = .int i := by cases d <;> simp [isNum]
theorem isNum_ty (d : D) : (isTy "int" d && !isTy "bool" d) = isNum d := by cases d <;> simp [isTy, tyN, isNum]
/-- a tuple of so many integers -/
def areNum (d : D) (n : Int) : Bool := match d with
  | .tuple xs => decide ((xs.length : Int) = n) && xs.all isNum
  | _ => false
theorem areNum2 {d : D} : areNum d 2 = true ↔ ∃ p q, d = .tuple [.int p, .int q] := by
  constructor
  · intro h
    unfold areNum at h
    split at h
    · rename_i xs
      rw [Bool.and_eq_true] at h
      have hl : xs.length = 2 := by have := of_decide_eq_true h.1; omega
      obtain ⟨a, b, rfl⟩ := dlen2 hl
      have h2 := h.2
      simp only [List.all_cons, List.all_nil, Bool.and_true, Bool.and_eq_true] at h2
      obtain ⟨i, rfl⟩ := isNum_iff.mp h2.1
      obtain ⟨j, rfl⟩ := isNum_iff.mp h2.2
      exact ⟨i, j, rfl⟩
    · cases h
  · rintro ⟨p, q, rfl⟩
    simp [areNum, isNum]
/-- a tuple of at most so many parts, if it is one -/
def tupLe (n : Nat) : D → Prop
  | .tuple xs => xs.length ≤ n
  | _ => True
def spIsNum : DSp := fun ds Q => ∃ d, ds = [d] ∧ Q (.bool (isNum d))
def spAreNum : DSp := fun ds Q => ∃ d n, ds = [d, .int n] ∧ tupLe 1000 d ∧ Q (.bool (areNum d n))
/-- the common divisor with the sign of q -/
def gs (p q : Int) : Int := if q < 0 then -(Int.gcd p q : Int) else (Int.gcd p q : Int)
def frac (p q : Int) : D := .tuple [.int (p.fdiv (gs p q)), .int (q.fdiv (gs p q))]
theorem gs_ne {p q : Int} (h : q ≠ 0) : gs p q ≠ 0 := by
  have : Int.gcd p q ≠ 0 := fun z => h (Int.gcd_eq_zero_iff.mp z).2
  unfold gs; split <;> omega
theorem gs_bd {p q : Int} {b : Nat} (h : q ≠ 0) [hb : Bd b q] : Bd b (gs p q) := by
  have e : (Int.gcd p q) ≤ q.natAbs := Nat.le_of_dvd (by omega) (Nat.gcd_dvd_right _ _)
  have := hb.h
  constructor
  unfold gs
  split <;> simp <;> omega
def spFrac : DSp := fun ds Q => ∃ (p q : Int) (a b : Nat), ds = [.int p, .int q] ∧ q ≠ 0 ∧ Bd a p ∧ Bd b q ∧ a ≤ 8000 ∧ b ≤ 8000 ∧ Q (frac p q)
def isFrac (d : D) : Bool := areNum d 2 && (match d with
  | .tuple [.int p, .int q] => decide (0 < q) && decide ((Int.gcd p q : Int) = 1)
  | _ => false)
def spIsFrac : DSp := fun ds Q => ∃ d, ds = [d] ∧ tupLe 1000 d ∧ Q (.bool (isFrac d))
/-- two pairs of integers in, bounded -/
def spPairs (ok : Int → Int → Int → Int → Prop) (f : Int → Int → Int → Int → D) : DSp := fun ds Q => ∃ (p q r s : Int) (a : Nat), ds = [.tuple [.int p, .int q], .tuple [.int r, .int s]] ∧ Bd a p ∧ Bd a q ∧ Bd a r ∧ Bd a s ∧ a ≤ 1000 ∧ ok p q r s ∧ Q (f p q r s)
/-- a comprehension whose items are told by a function -/
theorem lcc (f : D → D) {ys : List D} {g : DG} {me : DE} {σ0 : DSt} {Q : List D → Prop} (hl : ys.length ≤ 1000000) (hs : ∀ y ∈ ys, ∀ Q : D → Prop, Q (f y) → g y σ0 fun σ2 => me σ2 Q) (hq : Q (ys.map f)) :
    ys.length ≤ 1000000 ∧ ∃ W : Nat → List D → Prop, W 0 [] ∧ (∀ i y acc, ys[i]? = some y → acc.length ≤ i → W i acc → g y σ0 fun σ2 => dYes σ2 fun b => if b = true then me σ2 fun z => W (i + 1) (acc ++ [z]) else W (i + 1) acc) ∧ ∀ acc, W ys.length acc → Q acc := by
  refine ⟨hl, fun i acc => acc = (ys.take i).map f, by simp, fun i y acc h _ w => ?_, fun acc w => ?_⟩
  · have h0 : i < ys.length := (List.getElem?_eq_some_iff.mp h).1
    have hy : ys[i] = y := (List.getElem?_eq_some_iff.mp h).2
    refine hs y (List.mem_of_getElem? h) (fun z => acc ++ [z] = (ys.take (i + 1)).map f) ?_
    rw [w, List.take_add_one, List.map_append, h]
    rfl
  · rw [w, List.take_length]; exact hq
theorem lccf (t : D → Bool) (f : D → D) {ys : List D} {g : DG} {mt : DT} {me : DE} {σ0 : DSt} {Q : List D → Prop} (hl : ys.length ≤ 1000000)
    (hs : ∀ y ∈ ys, ∀ (Q1 : D → Prop) (Q0 : Prop), (t y = true → Q1 (f y)) → (t y = false → Q0) → g y σ0 fun σ2 => mt σ2 fun b => if b = true then me σ2 Q1 else Q0) (hq : Q ((ys.filter t).map f)) :
    ys.length ≤ 1000000 ∧ ∃ W : Nat → List D → Prop, W 0 [] ∧ (∀ i y acc, ys[i]? = some y → acc.length ≤ i → W i acc → g y σ0 fun σ2 => mt σ2 fun b => if b = true then me σ2 fun z => W (i + 1) (acc ++ [z]) else W (i + 1) acc) ∧ ∀ acc, W ys.length acc → Q acc := by
  refine ⟨hl, fun i acc => acc = ((ys.take i).filter t).map f, by simp, fun i y acc h _ w => ?_, fun acc w => ?_⟩
  · have e : ys.take (i + 1) = ys.take i ++ [y] := by rw [List.take_add_one, h]; rfl
    refine hs y (List.mem_of_getElem? h) (fun z => acc ++ [z] = ((ys.take (i + 1)).filter t).map f) _ (fun ht => ?_) (fun ht => ?_)
    · rw [w, e, List.filter_append, List.map_append]
      simp [ht]
    · show acc = ((ys.take (i + 1)).filter t).map f
      rw [w, e, List.filter_append, List.map_append]
      simp [ht]
  · rw [w, List.take_length]; exact hq
def spCommon : DSp := fun ds Q => ∃ a b : Int, ds = [.int a, .int b] ∧ Q (.int (Int.gcd a b))
end PH

/-! What the laws' own defs say: choices, drawn numbers, odd values; reprs that fit. -/
namespace PH
open PySem
theorem atI_0 {α : Type} {a : α} {l : List α} : L2.atI (a :: l) 0 = some a := by simpa using L2.atI_nat (xs := a :: l) (j := 0) (v := a) rfl
theorem atI_1 {α : Type} {a b : α} {l : List α} : L2.atI (a :: b :: l) 1 = some b := by simpa using L2.atI_nat (xs := a :: b :: l) (j := 1) (v := b) rfl
theorem atI_2 {α : Type} {a b c : α} {l : List α} : L2.atI (a :: b :: c :: l) 2 = some c := by simpa using L2.atI_nat (xs := a :: b :: c :: l) (j := 2) (v := c) rfl
theorem atI_3 {α : Type} {a b c d : α} {l : List α} : L2.atI (a :: b :: c :: d :: l) 3 = some d := by simpa using L2.atI_nat (xs := a :: b :: c :: d :: l) (j := 3) (v := d) rfl
theorem atI_4 {α : Type} {a b c d e : α} {l : List α} : L2.atI (a :: b :: c :: d :: e :: l) 4 = some e := by simpa using L2.atI_nat (xs := a :: b :: c :: d :: e :: l) (j := 4) (v := e) rfl
theorem atI_ok {α : Type} {xs : List α} {k : Int} (h0 : 0 ≤ k) (h : k < xs.length) : ∃ v, L2.atI xs k = some v ∧ v ∈ xs := by
  have hk : k.toNat < xs.length := by omega
  have e := L2.atI_nat (xs := xs) (j := k.toNat) (v := xs[k.toNat]) (List.getElem?_eq_getElem hk)
  rw [show ((k.toNat : Nat) : Int) = k by omega] at e
  exact ⟨_, e, List.getElem_mem hk⟩
theorem eAdd_i {i j : Int} {Q : D → Prop} : dAddA (.int i) (.int j) Q = Q (.int (i + j)) := rfl
theorem eAdd_l {xs ys : List D} {Q : D → Prop} : dAddA (.list xs) (.list ys) Q = (xs.length + ys.length ≤ 10000000 ∧ Q (.list (xs ++ ys))) := rfl
theorem eMul_i {i j : Int} {Q : D → Prop} : dMulA (.int i) (.int j) Q = (CMB i j ∧ Q (.int (i * j))) := rfl
theorem eMul_l {xs : List D} {k : Int} {Q : D → Prop} : dMulA (.list xs) (.int k) Q = ((-(2 ^ 63) ≤ k ∧ k < 2 ^ 63 ∧ xs.length * k.toNat ≤ 10000000) ∧ Q (.list (repD k.toNat xs))) := rfl
theorem eIx_l {xs : List D} {i : Int} {Q : D → Prop} : dIx (.list xs) (.int i) Q = (match L2.atI xs i with | some d => Q d | none => False) := rfl
theorem eIx_t {xs : List D} {i : Int} {Q : D → Prop} : dIx (.tuple xs) (.int i) Q = (match L2.atI xs i with | some d => Q d | none => False) := rfl
theorem eLen_l {xs : List D} {Q : D → Prop} : dLen [.list xs] Q = Q (.int xs.length) := rfl
theorem eLen_t {xs : List D} {Q : D → Prop} : dLen [.tuple xs] Q = Q (.int xs.length) := rfl
theorem eInt_i {i : Int} {Q : D → Prop} : dIntF [.int i] Q = Q (.int i) := rfl
theorem eInt_b {b : Bool} {Q : D → Prop} : dIntF [.bool b] Q = Q (.int (if b then 1 else 0)) := rfl
theorem eEq_i {i j : Int} {Q : D → Prop} : dEq (.int i) (.int j) Q = Q (.bool (decide (i = j))) := rfl
theorem eNe_i {i j : Int} {Q : D → Prop} : dNe (.int i) (.int j) Q = Q (.bool (!decide (i = j))) := rfl
theorem eEq_e {xs : List D} {Q : D → Prop} : dEq (.list xs) (.list []) Q = Q (.bool xs.isEmpty) := rfl
theorem pick {m : Int} {Q : D → Prop} (h1 : 1 ≤ m) (hm : m < 2 ^ 30) (h : ∀ k : Int, 0 ≤ k → k < m → Q (.int k)) : spPick [SRC, .int m] Q := ⟨m, rfl, hm, fun k h0 hk => h k h0 (by rcases hk with hk | hk <;> omega)⟩
theorem choice {xs : List D} {Q : D → Prop} (hne : xs ≠ []) (hl : xs.length < 2 ^ 30) (h : ∀ x ∈ xs, Q x) : ∃ ys : List D, [SRC, .list xs] = [SRC, .list ys] ∧ ys ≠ [] ∧ ys.length < 2 ^ 30 ∧ ∀ x ∈ ys, Q x := ⟨xs, rfl, hne, hl, h⟩
theorem cpow {i j : Int} (h0 : 0 ≤ j) (h1 : j ≤ 1000000) (h2 : i.natAbs < 2 ^ 64) : L2.CPow i j := ⟨h0, h1, h2⟩
def spChoice : DSp := fun ds Q => ∃ xs : List D, ds = [SRC, .list xs] ∧ xs ≠ [] ∧ xs.length < 2 ^ 30 ∧ ∀ x ∈ xs, Q x
def spNumber : DSp := fun ds Q => ds = [SRC] ∧ ∀ n : Int, n.natAbs ≤ 10 ^ 9 → Q (.int n)
def spTrue : DSp := fun ds Q => ds = [SRC] ∧ Q (.bool true)
def spFrom (xs : List D) : DSp := fun ds Q => ds = [SRC] ∧ ∀ d ∈ xs, Q d
def oddPart : List D := [.none, .bool true, .bool false, .str "1", .list [.int 1], .tuple [.int 1], .dict [], .str ""]
def oddAll : List D := [.none, .bool true, .bool false, .str "a", .str "", .tuple [], .list [], .dict [], .tuple [.int 1], .list [.int 1, .int 2], .tuple [.int 1, .int 2, .int 3, .int 4], .str "12", .tuple [.none, .int 1], .tuple [.int 1, .str "a", .int 1], .tuple [.bool true, .int 1],
  .tuple [.int 0, .bool true], .tuple [.int 1, .int 2, .bool true], .tuple [.bool true, .int 2, .int 3], .tuple [.list [.int 1], .int 2], .tuple [.tuple [.int 1, .int 2], .int 3], .tuple [.int 0, .int 0], .tuple [.int 0, .int 0, .int 0], .tuple [.int 2, .int 4], .tuple [.int 2, .int 4, .int 6], .tuple [.int 1, .int (-1)],
  .tuple [.int 0, .int 0, .int 2], .tuple [.int 0, .int 0, .int 1], .tuple [.int 1, .int 0], .tuple [.int 0, .int 1], .tuple [.int 3, .int 0], .tuple [.int 0, .int (-1)], .tuple [.int 1, .int 2, .int (-1)], .tuple [.int 1, .int 2, .int 0], .tuple [.int 0, .int 2], .tuple [.int (10 ^ Int.toNat 30), .int 1], .tuple [.int 1, .list [.int 2], .int 3],
  .tuple [.int 1, .none], .tuple [.int 1, .list [.int 2]], .tuple [.int 1, .str "a"], .tuple [.int 0, .int 0, .none], .tuple [.int 1, .int 2, .str "3"]]
/-- a fraction in its form, small -/
def spDrawFrac : DSp := fun ds Q => ds = [SRC] ∧ ∀ a b : Int, a.natAbs ≤ 10 ^ 9 → 0 < b → b ≤ 10 ^ 9 → Int.gcd a b = 1 → Q (.tuple [.int a, .int b])

/-! ### fractions -/
theorem gs_pos {p q : Int} (h : q ≠ 0) : 0 < q * gs p q := by
  have g0 : 0 < (Int.gcd p q : Int) := by
    have : Int.gcd p q ≠ 0 := fun z => h (Int.gcd_eq_zero_iff.mp z).2
    omega
  unfold gs
  split
  · rename_i hq
    exact Int.mul_pos_of_neg_of_neg hq (by omega)
  · exact Int.mul_pos (by omega) g0
theorem gs_dvd_l (p q : Int) : gs p q ∣ p := by
  unfold gs; split
  · exact Int.neg_dvd.mpr (Int.gcd_dvd_left ..)
  · exact Int.gcd_dvd_left ..
theorem gs_dvd_r (p q : Int) : gs p q ∣ q := by
  unfold gs; split
  · exact Int.neg_dvd.mpr (Int.gcd_dvd_right ..)
  · exact Int.gcd_dvd_right ..
theorem gs_natAbs (p q : Int) : (gs p q).natAbs = Int.gcd p q := by
  unfold gs; split <;> simp
/-- the form of a fraction: u / v, v above 0, no common divisor -/
theorem frac_spec {p q : Int} (h : q ≠ 0) : ∃ u v : Int, frac p q = .tuple [.int u, .int v] ∧ 0 < v ∧ Int.gcd u v = 1 ∧ p = u * gs p q ∧ q = v * gs p q := by
  have g0 := gs_ne (p := p) h
  obtain ⟨u, hu⟩ := gs_dvd_l p q
  obtain ⟨v, hv⟩ := gs_dvd_r p q
  have e1 : p.fdiv (gs p q) = u := by
    conv => lhs; lhs; rw [hu]
    exact Int.mul_fdiv_cancel_left u g0
  have e2 : q.fdiv (gs p q) = v := by
    conv => lhs; lhs; rw [hv]
    exact Int.mul_fdiv_cancel_left v g0
  refine ⟨u, v, by unfold frac; rw [e1, e2], ?_, ?_, by rw [Int.mul_comm]; exact hu, by rw [Int.mul_comm]; exact hv⟩
  · have := gs_pos (p := p) h
    by_cases hv0 : 0 < v
    · exact hv0
    · exfalso
      have h2 : q * gs p q = v * (gs p q * gs p q) := by
        conv => lhs; lhs; rw [hv]
        rw [Int.mul_comm (gs p q) v, Int.mul_assoc]
      rw [h2] at this
      have h3 : 0 ≤ gs p q * gs p q := by
        rcases Int.le_total 0 (gs p q) with z | z
        · exact Int.mul_nonneg z z
        · exact Int.mul_nonneg_of_nonpos_of_nonpos z z
      have := Int.mul_nonpos_of_nonpos_of_nonneg (show v ≤ 0 by omega) h3
      omega
  · have k1 : Int.gcd p q = (gs p q).natAbs * Int.gcd u v := by
      have z := Int.gcd_mul_left (gs p q) u v
      rw [← hu, ← hv] at z
      exact z
    rw [gs_natAbs] at k1
    have g1 : 0 < Int.gcd p q := by
      have : Int.gcd p q ≠ 0 := fun z => h (Int.gcd_eq_zero_iff.mp z).2
      omega
    have := Nat.eq_of_mul_eq_mul_left g1 (show Int.gcd p q * Int.gcd u v = Int.gcd p q * 1 by omega)
    exact this
theorem cop_dvd {a b v : Int} (g : Int.gcd a b = 1) (h : b ∣ a * v) : b ∣ v := by
  have z := Int.dvd_gcd_mul_iff_dvd_mul.mpr h
  rw [Int.gcd_comm, g] at z
  simpa using z
/-- two forms of one fraction are one -/
theorem form_uniq {a b u v : Int} (hb : 0 < b) (hv : 0 < v) (g1 : Int.gcd a b = 1) (g2 : Int.gcd u v = 1) (e : a * v = u * b) : a = u ∧ b = v := by
  have d1 : b ∣ v := by
    have : b ∣ a * v := ⟨u, by rw [e, Int.mul_comm]⟩
    exact cop_dvd g1 this
  have d2 : v ∣ b := by
    have : v ∣ u * b := ⟨a, by rw [← e, Int.mul_comm]⟩
    exact cop_dvd g2 this
  have eb : b = v := Int.le_antisymm (Int.le_of_dvd hv d1) (Int.le_of_dvd hb d2)
  refine ⟨?_, eb⟩
  subst eb
  exact Int.eq_of_mul_eq_mul_right (by omega) e
theorem frac_eq {p q a b : Int} (hq : q ≠ 0) (hb : 0 < b) (g : Int.gcd a b = 1) (e : p * b = a * q) : frac p q = .tuple [.int a, .int b] := by
  obtain ⟨u, v, h1, h2, h3, h4, h5⟩ := frac_spec (p := p) hq
  have g0 := gs_ne (p := p) hq
  have e2 : u * b = a * v := by
    refine Int.eq_of_mul_eq_mul_right g0 ?_
    calc u * b * gs p q = (u * gs p q) * b := by rw [Int.mul_assoc, Int.mul_comm b, ← Int.mul_assoc]
      _ = p * b := by rw [← h4]
      _ = a * q := e
      _ = a * (v * gs p q) := by rw [← h5]
      _ = a * v * gs p q := by rw [Int.mul_assoc]
  obtain ⟨r1, r2⟩ := form_uniq h2 hb h3 g e2
  rw [h1, r1, r2]
theorem frac_cross {p q u v : Int} (hq : q ≠ 0) (h : frac p q = .tuple [.int u, .int v]) : p * v = u * q ∧ 0 < v ∧ Int.gcd u v = 1 := by
  obtain ⟨u', v', h1, h2, h3, h4, h5⟩ := frac_spec (p := p) hq
  rw [h1] at h
  injection h with h
  injection h with e1 e2
  injection e1 with e1
  injection e2 with e2 _
  injection e2 with e2
  subst e1; subst e2
  refine ⟨?_, h2, h3⟩
  calc p * v' = (u' * gs p q) * v' := by rw [← h4]
    _ = u' * (v' * gs p q) := by rw [Int.mul_assoc, Int.mul_comm (gs p q)]
    _ = u' * q := by rw [← h5]
theorem isFrac_form {a b : Int} (hb : 0 < b) (g : Int.gcd a b = 1) : isFrac (.tuple [.int a, .int b]) = true := by
  simp [isFrac, areNum, isNum, hb, g]
end PH

/-! When repr fits. -/
namespace PH
open PySem
mutual
def tame : D → Prop
  | .int i => i.natAbs < 2 ^ 900
  | .str x => (x.cps.toList.all fun c => decide (c < 16 ^ 8)) = true
  | .list xs => tames xs
  | .tuple xs => tames xs
  | .dict kvs => kvs = []
  | _ => True
def tames : List D → Prop
  | [] => True
  | x :: xs => tame x ∧ tames xs
end
theorem short_int {i : Int} (h : i.natAbs < 2 ^ 900) : (PyData.shown (.int i)).length ≤ 300 := by
  have h2 : i.natAbs < 10 ^ 280 := Nat.lt_of_lt_of_le h (by decide +kernel)
  have e := int_text_length_le10 (k := 280) (by decide) h2
  show (Str.ofString (toString i)).length ≤ 300
  rw [ofString_length]
  omega
mutual
theorem tame_show : ∀ d : D, tame d → d.showable = true ∧ noS d = true ∧ d.leavesShort 300 = true
  | .none, _ => ⟨by simp [PyData.showable], by simp [noS], by simp [PyData.leavesShort]⟩
  | .bool _, _ => ⟨by simp [PyData.showable], by simp [noS], by simp [PyData.leavesShort]⟩
  | .int i, h => by
    have h' : i.natAbs < 2 ^ 900 := by simpa [tame] using h
    refine ⟨?_, by simp [noS], ?_⟩
    · simp only [PyData.showable, decide_eq_true_eq]
      exact Nat.lt_of_lt_of_le (PySem.Flt.log2_lt_of (by decide) h') (by decide)
    · simp only [PyData.leavesShort, decide_eq_true_eq]
      exact short_int h'
  | .str x, h => ⟨by simp [PyData.showable], by simp [noS], by simpa [PyData.leavesShort, tame] using h⟩
  | .list xs, h => by
    obtain ⟨a, b, c⟩ := tames_show xs (by simpa [tame] using h)
    exact ⟨by simpa [PyData.showable] using a, by simpa [noS] using b, by simpa [PyData.leavesShort] using c⟩
  | .tuple xs, h => by
    obtain ⟨a, b, c⟩ := tames_show xs (by simpa [tame] using h)
    exact ⟨by simpa [PyData.showable] using a, by simpa [noS] using b, by simpa [PyData.leavesShort] using c⟩
  | .dict kvs, h => by
    have h' : kvs = [] := by simpa [tame] using h
    subst h'
    exact ⟨by simp [PyData.showable, PyData.showableKv], by simp [noS], by simp [PyData.leavesShort, PyData.leavesShortKv]⟩
theorem tames_show : ∀ ds : List D, tames ds → PyData.showableAll ds = true ∧ noSs ds = true ∧ PyData.leavesShortAll 300 ds = true
  | [], _ => ⟨by simp [PyData.showableAll], by simp [noSs], by simp [PyData.leavesShortAll]⟩
  | d :: ds, h => by
    obtain ⟨h1, h2⟩ : tame d ∧ tames ds := by simpa [tames] using h
    obtain ⟨a, b, c⟩ := tame_show d h1
    obtain ⟨a', b', c'⟩ := tames_show ds h2
    exact ⟨by simp [PyData.showableAll, a, a'], by simp [noSs, b, b'], by simp [PyData.leavesShortAll, c, c']⟩
end
theorem rOk_of {d : D} (h : tame d) (hb : d.bulk ≤ 40000) (hd : d.depth ≤ 60) (hl : d.hasDict = true → noL d = true) : rOk d := by
  obtain ⟨a, b, c⟩ := tame_show d h
  refine ⟨a, b, hl, hd, ?_⟩
  have z := PyData.shown_le_bulk 300 (by decide) d c
  rw [sizeLine_eq]
  omega
end PH

/-! More of fractions and of == of data. -/
namespace PH
open PySem
theorem frac_bds {p q u v : Int} {a b : Nat} [ha : Bd a p] [hb : Bd b q] (h : q ≠ 0) (e : frac p q = .tuple [.int u, .int v]) : Bd a u ∧ Bd b v := by
  unfold frac at e
  injection e with e
  injection e with e1 e2
  injection e1 with e1
  injection e2 with e2 _
  injection e2 with e2
  subst e1; subst e2
  exact ⟨bd_fdiv, bd_fdiv⟩
theorem tame_frac {p q : Int} {a b : Nat} [ha : Bd a p] [hb : Bd b q] (h1 : a ≤ 900) (h2 : b ≤ 900) : tame (frac p q) := by
  unfold frac
  simp only [tame, tames]
  have x1 : Bd a (p.fdiv (gs p q)) := bd_fdiv
  have x2 : Bd b (q.fdiv (gs p q)) := bd_fdiv
  exact ⟨(x1.mono h1).h, (x2.mono h2).h, trivial⟩
theorem tupLe_frac (p q : Int) : tupLe 1000 (frac p q) := by show 2 ≤ 1000; decide
theorem isFrac_frac {p q : Int} (h : q ≠ 0) : isFrac (frac p q) = true := by
  obtain ⟨u, v, e, hv, hg, _, _⟩ := frac_spec (p := p) h
  rw [e]; exact isFrac_form hv hg
theorem dNe_same {x : Str} {Q : D → Prop} (h : Q (.bool false)) : dNe (.str x) (.str x) Q := by
  show Q (.bool (!decide (x = x)))
  rw [decide_eq_true rfl]; exact h
theorem dEq_tup {xs : List D} {Q : D → Prop} (hs : SeqAt.shaped (.tuple xs) = true) (h : Q (.bool true)) : dEq (.tuple xs) (.tuple xs) Q := by
  refine ⟨hs, hs, ?_⟩
  have e : PyData.eqv (.tuple xs) (.tuple xs) = true := PySem.SeqAt.eqv_refl _ (lay_of hs)
  rw [e]; exact h
end PH
namespace PH
open PySem
theorem tames_bools : ∀ bs : List Bool, tames (bs.map PyData.bool)
  | [] => trivial
  | _ :: r => ⟨trivial, tames_bools r⟩
theorem bulk_bools : ∀ bs : List Bool, PyData.bulkAll (bs.map PyData.bool) = PyData.bulkAll (bs.map fun _ => PyData.bool true)
  | [] => rfl
  | b :: r => by simp only [List.map_cons, PyData.bulkAll, PyData.bulk, bulk_bools r]
theorem rOk_b5 {a b c d e : Bool} : rOk (.list [.bool a, .bool b, .bool c, .bool d, .bool e]) := by
  cases a <;> cases b <;> cases c <;> cases d <;> cases e <;> exact rOk_of ⟨trivial, trivial, trivial, trivial, trivial, trivial⟩ (by decide) (by decide) (by decide)
end PH
namespace PH
open PySem
theorem dNe_eq {x y : D} {Q : D → Prop} (e : x = y) (h : Q (.bool false)) : dNe (.str (PyData.shown x)) (.str (PyData.shown y)) Q := by
  subst e; exact dNe_same h
end PH

/-! Data that may be shown; the start of a law. -/
namespace PH
open PySem PySem.Spec L2
structure Ok1 (d : D) : Prop where
  tm : tame d
  bk : d.bulk ≤ 1000
  dp : d.depth ≤ 10
  hl : d.hasDict = true → noL d = true
mutual
def tameB : D → Bool
  | .int i => decide (i.natAbs < 2 ^ 900)
  | .str x => x.cps.toList.all fun c => decide (c < 16 ^ 8)
  | .list xs => tamesB xs
  | .tuple xs => tamesB xs
  | .dict kvs => kvs.isEmpty
  | _ => true
def tamesB : List D → Bool
  | [] => true
  | x :: xs => tameB x && tamesB xs
end
mutual
theorem tame_B : ∀ d : D, tameB d = true → tame d
  | .none, _ => trivial
  | .bool _, _ => trivial
  | .int i, h => by simpa [tameB, tame] using h
  | .str x, h => by simpa [tameB, tame] using h
  | .list xs, h => by
    have := tames_B xs (by simpa [tameB] using h)
    simpa [tame] using this
  | .tuple xs, h => by
    have := tames_B xs (by simpa [tameB] using h)
    simpa [tame] using this
  | .dict kvs, h => by simpa [tameB, tame] using h
theorem tames_B : ∀ ds : List D, tamesB ds = true → tames ds
  | [], _ => trivial
  | d :: ds, h => by
    have h' : tameB d = true ∧ tamesB ds = true := by simpa [tamesB] using h
    exact ⟨tame_B d h'.1, tames_B ds h'.2⟩
end
def okB (d : D) : Bool := tameB d && decide (d.bulk ≤ 1000) && decide (d.depth ≤ 10) && (!d.hasDict || noL d)
theorem okB_ok {d : D} (h : okB d = true) : Ok1 d := by
  simp only [okB, Bool.and_eq_true, decide_eq_true_eq, Bool.or_eq_true, Bool.not_eq_true'] at h
  exact ⟨tame_B d h.1.1.1, h.1.1.2, h.1.2, fun z => by rcases h.2 with y | y; · rw [y] at z; cases z
                                                       · exact y⟩
theorem okB_all {ds : List D} (h : ds.all okB = true) : ∀ d ∈ ds, Ok1 d := fun d hd => okB_ok (List.all_eq_true.mp h d hd)
theorem Ok1.r {d : D} (h : Ok1 d) : rOk d := rOk_of h.tm (by have := h.bk; omega) (by have := h.dp; omega) h.hl
theorem ok_int {i : Int} {k : Nat} [b : Bd k i] (h : k ≤ 900) : Ok1 (.int i) := ⟨(b.mono h).h, by simp [PyData.bulk], by simp [PyData.depth], by simp [PyData.hasDict]⟩
theorem rOk_t {ds : List D} (h : ∀ d ∈ ds, Ok1 d) (hn : ds.length ≤ 8) (hl : PyData.hasDictAll ds = true → noLs ds = true) : rOk (.tuple ds) := by
  have a : ∀ ds : List D, (∀ d ∈ ds, Ok1 d) → tames ds ∧ PyData.bulkAll ds ≤ 2000 * ds.length ∧ PyData.depthAll ds ≤ 10 := fun ds h => by
    induction ds with
    | nil => exact ⟨trivial, by simp [PyData.bulkAll], by simp [PyData.depthAll]⟩
    | cons x r ih =>
      obtain ⟨h1, h2, h3⟩ := ih fun d hd => h d (List.mem_cons_of_mem _ hd)
      have hx := h x List.mem_cons_self
      have := hx.bk
      have := hx.dp
      refine ⟨⟨hx.tm, h1⟩, ?_, ?_⟩
      · simp only [PyData.bulkAll, List.length_cons]; omega
      · simp only [PyData.depthAll]; omega
  obtain ⟨h1, h2, h3⟩ := a ds h
  refine rOk_of (by simpa [tame] using h1) (by simp only [PyData.bulk]; omega) (by simp only [PyData.depth]; omega) (fun z => ?_)
  simp only [PyData.hasDict] at z
  simpa [noL] using hl z
theorem rOk_io {p : Int} {o : D} {k : Nat} [Bd k p] (hk : k ≤ 900) (ho : Ok1 o) : rOk (.tuple [.int p, o]) :=
  rOk_t (by simp only [List.mem_cons, List.not_mem_nil, or_false]; rintro d (rfl | rfl); exact ok_int hk; exact ho) (show 2 ≤ 8 by decide) (fun z => by
    have z' : o.hasDict = true := by simpa [PyData.hasDictAll, PyData.hasDict] using z
    simpa [noLs, noL] using ho.hl z')
theorem rOk_oi {p : Int} {o : D} {k : Nat} [Bd k p] (hk : k ≤ 900) (ho : Ok1 o) : rOk (.tuple [o, .int p]) :=
  rOk_t (by simp only [List.mem_cons, List.not_mem_nil, or_false]; rintro d (rfl | rfl); exact ho; exact ok_int hk) (show 2 ≤ 8 by decide) (fun z => by
    have z' : o.hasDict = true := by simpa [PyData.hasDictAll, PyData.hasDict] using z
    simpa [noLs, noL] using ho.hl z')
theorem ok_bool {b : Bool} : Ok1 (.bool b) := ⟨trivial, by simp [PyData.bulk], by simp [PyData.depth], by simp [PyData.hasDict]⟩
theorem rOk_bool {b : Bool} : rOk (.bool b) := ok_bool.r
theorem rOk_lii {p q : Int} {j k : Nat} [a : Bd j p] [b : Bd k q] (hj : j ≤ 900) (hk : k ≤ 900) : rOk (.list [.int p, .int q]) :=
  rOk_of ⟨(a.mono hj).h, (b.mono hk).h, trivial⟩ (by simp [PyData.bulk, PyData.bulkAll]) (by simp [PyData.depth, PyData.depthAll]) (by simp [PyData.hasDict, PyData.hasDictAll])
theorem frac_scale {p q n : Int} (hq : q ≠ 0) (hn : n ≠ 0) : frac (p * n) (q * n) = frac p q := by
  obtain ⟨u, v, e, hv, hg, e1, e2⟩ := frac_spec (p := p) hq
  rw [e]
  have hx := (frac_cross hq e).1
  exact frac_eq (Int.mul_ne_zero hq hn) hv hg (by
    rw [Int.mul_assoc, Int.mul_comm n v, ← Int.mul_assoc, hx, Int.mul_assoc])
theorem tupLe_t {ds : List D} (h : ds.length ≤ 1000) : tupLe 1000 (.tuple ds) := h
/-- a law's frame, its source opened -/
theorem ev_law {H : Hp} {p c : Addr} {ns : List Int} {l m t : Int} (v : V) (n : Nat) (hpc : p ≠ c) (hc : H c = some (.lst (ns.map V.int))) (hp : H p = some (.dK (srcKvs c l m t))) :
    Ev (some (p, c)) (fun z => z = p ∨ z = c) H H (some v :: some (.ref p) :: List.replicate n none) (.emp :: .val SRC :: List.replicate n .emp) where
  len := by simp
  sl := by
    intro i o s h1 h2
    match i with
    | 0 => simp at h1 h2; subst h1; subst h2; trivial
    | 1 => simp at h1 h2; subst h1; subst h2; exact ⟨_, rfl, .src rfl⟩
    | i + 2 =>
      simp only [List.getElem?_cons_succ, List.getElem?_replicate] at h1 h2
      split at h2
      · cases h2; trivial
      · cases h2
  uni := by
    intro i j a ds es h1 h2
    match i with
    | 0 => simp at h1
    | 1 => simp at h1
    | i + 2 =>
      simp only [List.getElem?_cons_succ, List.getElem?_replicate] at h1
      split at h1 <;> cases h1
  new := by
    intro a ds h
    simp [List.mem_replicate] at h
  src := by
    intro p' c' e
    cases e
    exact ⟨.inl rfl, .inr rfl, hpc, ns, l, m, t, hc, hp⟩
  src0 := by
    intro p' c' e
    cases e
    exact ⟨by rw [hp]; simp, by rw [hc]; simp⟩
  keep := .refl
  mt := by
    rintro a (rfl | rfl)
    · rw [hp]; simp
    · rw [hc]; simp
  mt0 := by
    rintro a (rfl | rfl)
    · rw [hp]; simp
    · rw [hc]; simp
end PH
namespace PH
open PySem PySem.Spec L2
theorem dIfE_k {t : DT} {m n : DE} {σd : DSt} {K : D → Prop} (c : Bool) (P : D → Prop) (ht : ∀ R : Bool → Prop, R c → t σd R) (hm : c = true → ∀ R : D → Prop, (∀ d, P d → R d) → m σd R) (hn : c = false → ∀ R : D → Prop, (∀ d, P d → R d) → n σd R) (h : ∀ d, P d → K d) : dIfE t m n σd K :=
  ht _ (by cases c with
    | true => exact iteT (hm rfl K h)
    | false => exact iteF (hn rfl K h))
theorem spFrac_c {p q : Int} {a b : Nat} (ha : Bd a p) (hb : Bd b q) (hq : q ≠ 0) (h1 : a ≤ 8000) (h2 : b ≤ 8000) {z : D} (e : frac p q = z) {Qd : D → Prop} (h : Qd z) : spFrac [.int p, .int q] Qd :=
  ⟨p, q, a, b, rfl, hq, ha, hb, by omega, by omega, e ▸ h⟩
end PH
namespace PH
open PySem PySem.Spec L2
def tupB : D → Bool
  | .tuple xs => decide (xs.length ≤ 1000)
  | _ => true
theorem tupB_ok {d : D} (h : tupB d = true) : tupLe 1000 d := by
  cases d with
  | tuple xs => exact (show xs.length ≤ 1000 from of_decide_eq_true h)
  | _ => trivial
theorem rOk_ii {p q : Int} {j k : Nat} [a : Bd j p] [b : Bd k q] (hj : j ≤ 900) (hk : k ≤ 900) : rOk (.tuple [.int p, .int q]) := rOk_io hj (ok_int hk)
theorem oddPart_ok : ∀ o ∈ oddPart, Ok1 o := okB_all (by decide +kernel)
theorem oddAll_ok : ∀ o ∈ oddAll, Ok1 o ∧ tupLe 1000 o := fun o h => ⟨okB_all (by decide +kernel) o h, tupB_ok (List.all_eq_true.mp (show oddAll.all tupB = true by decide +kernel) o h)⟩
end PH

/-! Places in their form. -/
namespace PH
open PySem PySem.Spec L2
def qz (s : DSpX) : DSp := fun ds Q => s ds Q fun _ => False
def g3 (x y d : Int) : Nat := Nat.gcd (Nat.gcd x.natAbs y.natAbs) d.natAbs
/-- the number by which a place is cut down -/
def gs3 (x y d : Int) : Int := if d < 0 then -(g3 x y d : Int) else (g3 x y d : Int)
def plc (x y d : Int) : D := .tuple [.int (x.fdiv (gs3 x y d)), .int (y.fdiv (gs3 x y d)), .int (d.fdiv (gs3 x y d))]
theorem g3_pos {x y d : Int} (h : d ≠ 0) : 0 < g3 x y d := Nat.gcd_pos_of_pos_right _ (Int.natAbs_pos.mpr h)
theorem g3_x (x y d : Int) : g3 x y d ∣ x.natAbs := Nat.dvd_trans (Nat.gcd_dvd_left _ _) (Nat.gcd_dvd_left _ _)
theorem g3_y (x y d : Int) : g3 x y d ∣ y.natAbs := Nat.dvd_trans (Nat.gcd_dvd_left _ _) (Nat.gcd_dvd_right _ _)
theorem g3_d (x y d : Int) : g3 x y d ∣ d.natAbs := Nat.gcd_dvd_right _ _
theorem gs3_abs (x y d : Int) : (gs3 x y d).natAbs = g3 x y d := by unfold gs3; split <;> omega
theorem gs3_ne {x y d : Int} (h : d ≠ 0) : gs3 x y d ≠ 0 := by
  have := g3_pos (x := x) (y := y) h
  have := gs3_abs x y d
  omega
theorem gs3_x (x y d : Int) : gs3 x y d ∣ x := Int.natAbs_dvd_natAbs.mp (by rw [gs3_abs]; exact g3_x x y d)
theorem gs3_y (x y d : Int) : gs3 x y d ∣ y := Int.natAbs_dvd_natAbs.mp (by rw [gs3_abs]; exact g3_y x y d)
theorem gs3_d (x y d : Int) : gs3 x y d ∣ d := Int.natAbs_dvd_natAbs.mp (by rw [gs3_abs]; exact g3_d x y d)
theorem g3_mul (x y d n : Int) : g3 (x * n) (y * n) (d * n) = g3 x y d * n.natAbs := by
  unfold g3
  rw [Int.natAbs_mul, Int.natAbs_mul, Int.natAbs_mul, Nat.gcd_mul_right, Nat.gcd_mul_right]
theorem gs3_mul {x y d n : Int} (hd : d ≠ 0) (hn : n ≠ 0) : gs3 (x * n) (y * n) (d * n) = gs3 x y d * n := by
  unfold gs3
  rw [g3_mul]
  rcases Int.lt_or_gt_of_ne hd with h | h <;> rcases Int.lt_or_gt_of_ne hn with h' | h'
  · have : 0 < d * n := Int.mul_pos_of_neg_of_neg h h'
    rw [if_neg (by omega), if_pos h, Int.natCast_mul, show (n.natAbs : Int) = -n by omega, Int.mul_neg, Int.neg_mul]
  · have : d * n < 0 := Int.mul_neg_of_neg_of_pos h h'
    rw [if_pos this, if_pos h, Int.natCast_mul, show (n.natAbs : Int) = n by omega, Int.neg_mul]
  · have : d * n < 0 := Int.mul_neg_of_pos_of_neg h h'
    rw [if_pos this, if_neg (by omega), Int.natCast_mul, show (n.natAbs : Int) = -n by omega, Int.mul_neg, Int.neg_neg]
  · have : 0 < d * n := Int.mul_pos h h'
    rw [if_neg (by omega), if_neg (by omega), Int.natCast_mul, show (n.natAbs : Int) = n by omega]
theorem fdiv_scale {x g n : Int} (hg : g ≠ 0) (hn : n ≠ 0) (h : g ∣ x) : (x * n).fdiv (g * n) = x.fdiv g := by
  obtain ⟨u, rfl⟩ := h
  rw [show g * u * n = u * (g * n) by rw [Int.mul_comm g u, Int.mul_assoc], Int.mul_fdiv_cancel _ (Int.mul_ne_zero hg hn), Int.mul_comm g u, Int.mul_fdiv_cancel _ hg]
theorem plc_scale {x y d n : Int} (hd : d ≠ 0) (hn : n ≠ 0) : plc (x * n) (y * n) (d * n) = plc x y d := by
  have g0 := gs3_ne (x := x) (y := y) hd
  unfold plc
  rw [gs3_mul hd hn, fdiv_scale g0 hn (gs3_x x y d), fdiv_scale g0 hn (gs3_y x y d), fdiv_scale g0 hn (gs3_d x y d)]
def isPlace (d : D) : Bool := areNum d 3 && (match d with
  | .tuple [.int p, .int q, .int r] => decide (0 < r) && decide (g3 p q r = 1)
  | _ => false)
theorem plc_form {x y d : Int} (h : d ≠ 0) : isPlace (plc x y d) = true := by
  have g0 := gs3_ne (x := x) (y := y) h
  obtain ⟨u, hu⟩ := gs3_x x y d
  obtain ⟨v, hv⟩ := gs3_y x y d
  obtain ⟨r, hr⟩ := gs3_d x y d
  have e : plc x y d = .tuple [.int u, .int v, .int r] := by
    unfold plc
    have a1 : x.fdiv (gs3 x y d) = u := by conv => lhs; arg 1; rw [hu, Int.mul_comm]
                                           exact Int.mul_fdiv_cancel _ g0
    have a2 : y.fdiv (gs3 x y d) = v := by conv => lhs; arg 1; rw [hv, Int.mul_comm]
                                           exact Int.mul_fdiv_cancel _ g0
    have a3 : d.fdiv (gs3 x y d) = r := by conv => lhs; arg 1; rw [hr, Int.mul_comm]
                                           exact Int.mul_fdiv_cancel _ g0
    rw [a1, a2, a3]
  rw [e]
  have hrp : 0 < r := by
    have hp := g3_pos (x := x) (y := y) h
    by_cases hn : d < 0
    · have eg : gs3 x y d = -(g3 x y d : Int) := by unfold gs3; rw [if_pos hn]
      rw [eg] at hr
      by_cases h0 : 0 < r
      · exact h0
      · have : 0 ≤ -(g3 x y d : Int) * r := Int.mul_nonneg_of_nonpos_of_nonpos (by omega) (by omega)
        omega
    · have eg : gs3 x y d = (g3 x y d : Int) := by unfold gs3; rw [if_neg hn]
      rw [eg] at hr
      by_cases h0 : 0 < r
      · exact h0
      · have : (g3 x y d : Int) * r ≤ 0 := Int.mul_nonpos_of_nonneg_of_nonpos (by omega) (by omega)
        omega
  have hg : g3 u v r = 1 := by
    have m := g3_mul u v r (gs3 x y d)
    rw [Int.mul_comm u, Int.mul_comm v, Int.mul_comm r, ← hu, ← hv, ← hr, gs3_abs] at m
    have hp := g3_pos (x := x) (y := y) h
    have : 1 * g3 x y d = g3 u v r * g3 x y d := by rw [Nat.one_mul]; exact m
    exact (Nat.eq_of_mul_eq_mul_right hp this).symm
  simp [isPlace, areNum, isNum, hrp, hg]
def spIsPlace : DSp := fun ds Q => ∃ d, ds = [d] ∧ tupLe 1000 d ∧ Q (.bool (isPlace d))
/-- three integers in, a place out -/
def spPlc : DSp := fun ds Q => ∃ (x y d : Int) (a : Nat), ds = [.int x, .int y, .int d] ∧ d ≠ 0 ∧ Bd a x ∧ Bd a y ∧ Bd a d ∧ a ≤ 8000 ∧ Q (plc x y d)
def spPlace : DSpX := fun ds Q Ed => spPlc ds Q ∨ ((∃ x y d, ds = [x, y, d] ∧ (areNum (.tuple [x, y, d]) 3 = false ∨ d = .int 0)) ∧ Ed "BadPlace")
end PH
namespace PH
open PySem PySem.Spec L2
/-- what place answers, or that it refuses -/
def spTold : DSp := fun ds Q => (spPlc ds Q) ∨ ((∃ x y d, ds = [x, y, d] ∧ (areNum (.tuple [x, y, d]) 3 = false ∨ d = .int 0)) ∧ Q (.tuple [.str "none"]))
end PH
namespace PH
open PySem PySem.Spec L2
theorem gs3_bd {x y d : Int} {a : Nat} (h : d ≠ 0) (hb : Bd a d) : Bd a (gs3 x y d) := ⟨by
  rw [gs3_abs]
  exact Nat.lt_of_le_of_lt (Nat.le_of_dvd (by omega) (g3_d x y d)) hb.h⟩
theorem areNum3 {d : D} : areNum d 3 = true ↔ ∃ p q r, d = .tuple [.int p, .int q, .int r] := by
  constructor
  · intro h
    cases d with
    | tuple xs =>
      simp only [areNum, Bool.and_eq_true, decide_eq_true_eq, List.all_eq_true] at h
      obtain ⟨h1, h2⟩ := h
      match xs, h1, h2 with
      | [a, b, c], _, h2 =>
        obtain ⟨i, rfl⟩ := isNum_iff.mp (h2 a (by simp))
        obtain ⟨j, rfl⟩ := isNum_iff.mp (h2 b (by simp))
        obtain ⟨k, rfl⟩ := isNum_iff.mp (h2 c (by simp))
        exact ⟨i, j, k, rfl⟩
      | [], h1, _ => exact absurd h1 (by decide)
      | [_], h1, _ => exact absurd h1 (by simp)
      | [_, _], h1, _ => exact absurd h1 (by simp)
      | _ :: _ :: _ :: _ :: _, h1, _ => exact absurd h1 (by simp only [List.length_cons]; omega)
    | _ => simp [areNum] at h
  · rintro ⟨p, q, r, rfl⟩
    simp [areNum, isNum]
theorem isPlace_g {p q r : Int} (hr : 0 < r) : isPlace (.tuple [.int p, .int q, .int r]) = decide ((g3 p q r : Int) = 1) := by
  have ha : areNum (.tuple [.int p, .int q, .int r]) 3 = true := areNum3.mpr ⟨p, q, r, rfl⟩
  rw [isPlace, ha, Bool.true_and]
  show (decide (0 < r) && decide (g3 p q r = 1)) = _
  rw [decide_eq_true hr, Bool.true_and]
  exact decide_eq_decide.mpr (by omega)
theorem isPlace_n {p q r : Int} (hr : ¬ 0 < r) : isPlace (.tuple [.int p, .int q, .int r]) = false := by simp [isPlace, hr]
theorem isPlace_0 {d : D} (h : areNum d 3 = false) : isPlace d = false := by simp [isPlace, h]
end PH
namespace PH
open PySem PySem.Spec L2
theorem dEq_same {x y : D} {Q : D → Prop} (e : x = y) (hs : SeqAt.shaped x = true) (h : Q (.bool true)) : dEq x y Q := by
  subst e
  unfold dEq
  split
  · rename_i h2; rw [decide_eq_true rfl]; exact h
  · rename_i h2; rw [decide_eq_true rfl]; exact h
  · exact h
  · refine ⟨hs, hs, ?_⟩
    have e : PyData.eqv x x = true := PySem.SeqAt.eqv_refl _ (lay_of hs)
    rw [e]; exact h
theorem oddPart_no : ∀ o ∈ oddPart, isNum o = false := fun o h => by
  have := List.all_eq_true.mp (show (oddPart.all fun o => !isNum o) = true by decide +kernel) o h
  simpa using this
def spRef : DSp := fun ds Q => (∃ x y d : Int, ds = [SRC, .int x, .int y, .int d]) ∧ Q (.bool true)
theorem spTold_no {x y d : D} {Q : D → Prop} (h : areNum (.tuple [x, y, d]) 3 = false ∨ d = .int 0) (q : Q (.tuple [.str "none"])) : spTold [x, y, d] Q := .inr ⟨⟨x, y, d, rfl, h⟩, q⟩
theorem spPlc_c {x y d : Int} {a : Nat} (hx : Bd a x) (hy : Bd a y) (hd2 : Bd a d) (hd : d ≠ 0) (ha : a ≤ 8000) {z : D} (e : plc x y d = z) {Q : D → Prop} (h : Q z) : spPlc [.int x, .int y, .int d] Q := ⟨x, y, d, a, rfl, hd, hx, hy, hd2, ha, e ▸ h⟩
theorem tame_plc {x y d : Int} {a : Nat} [Bd a x] [Bd a y] [Bd a d] (ha : a ≤ 900) : tame (plc x y d) := by
  unfold plc
  simp only [tame, tames]
  have x1 : Bd a (x.fdiv (gs3 x y d)) := bd_fdiv
  have x2 : Bd a (y.fdiv (gs3 x y d)) := bd_fdiv
  have x3 : Bd a (d.fdiv (gs3 x y d)) := bd_fdiv
  exact ⟨(x1.mono ha).h, (x2.mono ha).h, (x3.mono ha).h, trivial⟩
end PH

/-! Rows of data that may be shown. -/
namespace PH
open PySem PySem.Spec L2
def OkN (d : D) : Prop := Ok1 d ∧ d.hasDict = false
def OkNs (ds : List D) : Prop := ∀ d ∈ ds, OkN d
theorem okN_i {i : Int} {k : Nat} (b : Bd k i) (h : k ≤ 900) : OkN (.int i) := ⟨ok_int (b := b) h, by simp [PyData.hasDict]⟩
theorem okN_b {b : Bool} : OkN (.bool b) := ⟨ok_bool, by simp [PyData.hasDict]⟩
theorem okNs_nil : OkNs [] := fun _ h => nomatch h
theorem OkN.c {d : D} {ds : List D} (h : OkN d) (h' : OkNs ds) : OkNs (d :: ds) := List.forall_mem_cons.mpr ⟨h, h'⟩
theorem hasDicts0 : ∀ {ds : List D}, OkNs ds → PyData.hasDictAll ds = false
  | [], _ => by simp [PyData.hasDictAll]
  | d :: ds, h => by simp [PyData.hasDictAll, (h d (by simp)).2, hasDicts0 (ds := ds) fun x hx => h x (by simp [hx])]
theorem OkNs.t {ds : List D} (h : OkNs ds) (hn : ds.length ≤ 8) : rOk (.tuple ds) := rOk_t (fun d hd => (h d hd).1) hn (fun z => by rw [hasDicts0 h] at z; cases z)
theorem OkNs.l {ds : List D} (h : OkNs ds) (hn : ds.length ≤ 8) : rOk (.list ds) := by
  have a : ∀ ds : List D, OkNs ds → tames ds ∧ PyData.bulkAll ds ≤ 2000 * ds.length ∧ PyData.depthAll ds ≤ 10 := fun ds h => by
    induction ds with
    | nil => exact ⟨trivial, by simp [PyData.bulkAll], by simp [PyData.depthAll]⟩
    | cons x r ih =>
      obtain ⟨h1, h2, h3⟩ := ih fun d hd => h d (List.mem_cons_of_mem _ hd)
      have hx := (h x List.mem_cons_self).1
      have := hx.bk
      have := hx.dp
      refine ⟨⟨hx.tm, h1⟩, ?_, ?_⟩
      · simp only [PyData.bulkAll, List.length_cons]; omega
      · simp only [PyData.depthAll]; omega
  obtain ⟨h1, h2, h3⟩ := a ds h
  refine rOk_of (by simpa [tame] using h1) (by simp only [PyData.bulk]; omega) (by simp only [PyData.depth]; omega) (fun z => ?_)
  simp only [PyData.hasDict] at z
  rw [hasDicts0 h] at z; cases z
theorem rOk_o3 {a b : Int} {j k : Nat} {o : D} (ha : Bd j a) (hb : Bd k b) (hj : j ≤ 900) (hk : k ≤ 900) (ho : Ok1 o) : rOk (.tuple [.int a, .int b, o]) ∧ rOk (.tuple [o, .int a, .int b]) ∧ rOk (.tuple [.int a, o, .int b]) := by
  have oa : Ok1 (.int a) := ok_int (b := ha) hj
  have ob : Ok1 (.int b) := ok_int (b := hb) hk
  refine ⟨rOk_t ?_ (show 3 ≤ 8 by decide) ?_, rOk_t ?_ (show 3 ≤ 8 by decide) ?_, rOk_t ?_ (show 3 ≤ 8 by decide) ?_⟩
  · simp only [List.mem_cons, List.not_mem_nil, or_false]; rintro d (rfl | rfl | rfl) <;> assumption
  · intro z
    have z' : o.hasDict = true := by simpa [PyData.hasDictAll, PyData.hasDict] using z
    simpa [noLs, noL] using ho.hl z'
  · simp only [List.mem_cons, List.not_mem_nil, or_false]; rintro d (rfl | rfl | rfl) <;> assumption
  · intro z
    have z' : o.hasDict = true := by simpa [PyData.hasDictAll, PyData.hasDict] using z
    simpa [noLs, noL] using ho.hl z'
  · simp only [List.mem_cons, List.not_mem_nil, or_false]; rintro d (rfl | rfl | rfl) <;> assumption
  · intro z
    have z' : o.hasDict = true := by simpa [PyData.hasDictAll, PyData.hasDict] using z
    simpa [noLs, noL] using ho.hl z'
theorem bdz (k : Nat) {i : Int} (h : i.natAbs < 2 ^ k) : Bd k i := ⟨h⟩
end PH

/-! Directions in their form. -/
namespace PH
open PySem PySem.Spec L2
def dirv (a b : Int) : D := .tuple [.int (a.fdiv (Int.gcd a b)), .int (b.fdiv (Int.gcd a b))]
theorem g2_pos {a b : Int} (h : ¬ (a = 0 ∧ b = 0)) : 0 < Int.gcd a b := by
  rcases Nat.eq_zero_or_pos (Int.gcd a b) with z | z
  · exact absurd (Int.gcd_eq_zero_iff.mp z) h
  · exact z
theorem dirv_spec {a b : Int} (h : ¬ (a = 0 ∧ b = 0)) : ∃ u v : Int, dirv a b = .tuple [.int u, .int v] ∧ Int.gcd u v = 1 ∧ a = u * Int.gcd a b ∧ b = v * Int.gcd a b := by
  have g0 := g2_pos h
  obtain ⟨u, hu⟩ := Int.gcd_dvd_left (a := a) (b := b)
  obtain ⟨v, hv⟩ := Int.gcd_dvd_right (a := a) (b := b)
  have gne : (Int.gcd a b : Int) ≠ 0 := by omega
  have a1 : a.fdiv (Int.gcd a b) = u := by
    conv => lhs; arg 1; rw [hu, Int.mul_comm]
    exact Int.mul_fdiv_cancel _ gne
  have a2 : b.fdiv (Int.gcd a b) = v := by
    conv => lhs; arg 1; rw [hv, Int.mul_comm]
    exact Int.mul_fdiv_cancel _ gne
  refine ⟨u, v, by unfold dirv; rw [a1, a2], ?_, by rw [Int.mul_comm]; exact hu, by rw [Int.mul_comm]; exact hv⟩
  have m := Int.gcd_mul_left (Int.gcd a b) u v
  rw [← hu, ← hv] at m
  have e : (Int.gcd a b : Int).natAbs = Int.gcd a b := rfl
  rw [e] at m
  have : Int.gcd a b * 1 = Int.gcd a b * Int.gcd u v := by rw [Nat.mul_one]; exact m
  exact (Nat.eq_of_mul_eq_mul_left g0 this).symm
theorem dirv_scale {a b n : Int} (h : ¬ (a = 0 ∧ b = 0)) (hn : 0 < n) : dirv (a * n) (b * n) = dirv a b := by
  have g0 := g2_pos h
  have gne : (Int.gcd a b : Int) ≠ 0 := by omega
  unfold dirv
  have e : (Int.gcd (a * n) (b * n) : Int) = Int.gcd a b * n := by rw [Int.gcd_mul_right, Int.natCast_mul, Int.natAbs_of_nonneg (by omega)]
  rw [e, fdiv_scale gne (by omega) (Int.gcd_dvd_left ..), fdiv_scale gne (by omega) (Int.gcd_dvd_right ..)]
def isDir (d : D) : Bool := areNum d 2 && (match d with
  | .tuple [.int p, .int q] => decide (Int.gcd p q = 1)
  | _ => false)
theorem isDir_2 {p q : Int} : isDir (.tuple [.int p, .int q]) = decide ((Int.gcd p q : Int) = 1) := by
  have ha : areNum (.tuple [.int p, .int q]) 2 = true := areNum2.mpr ⟨p, q, rfl⟩
  rw [isDir, ha, Bool.true_and]
  exact decide_eq_decide.mpr (by omega)
theorem isDir_0 {d : D} (h : areNum d 2 = false) : isDir d = false := by simp [isDir, h]
def spIsDir : DSp := fun ds Q => ∃ d, ds = [d] ∧ tupLe 1000 d ∧ Q (.bool (isDir d))
def spDir : DSp := fun ds Q => ∃ (a b : Int) (k : Nat), ds = [.int a, .int b] ∧ ¬ (a = 0 ∧ b = 0) ∧ Bd k a ∧ Bd k b ∧ k ≤ 8000 ∧ Q (dirv a b)
def badDir (ds : List D) : Prop := ∃ x y, ds = [x, y] ∧ (areNum (.tuple [x, y]) 2 = false ∨ (x = .int 0 ∧ y = .int 0))
def spDirection : DSpX := fun ds Q Ed => spDir ds Q ∨ (badDir ds ∧ Ed "BadDirection")
def spToldD : DSp := fun ds Q => spDir ds Q ∨ (badDir ds ∧ Q (.tuple [.str "none"]))
/-- a pair of integers in -/
def spPair1 (f : Int → Int → D) : DSp := fun ds Q => ∃ p q : Int, ds = [.tuple [.int p, .int q]] ∧ Q (f p q)
/-- two places in, told by f -/
def spPl2 (ok : Int → Int → Int → Int → Int → Int → Prop) (f : Int → Int → Int → Int → Int → Int → D) : DSp := fun ds Q => ∃ (a b c d e g : Int) (k : Nat), ds = [.tuple [.int a, .int b, .int c], .tuple [.int d, .int e, .int g]] ∧ ok a b c d e g ∧
  Bd k a ∧ Bd k b ∧ Bd k c ∧ Bd k d ∧ Bd k e ∧ Bd k g ∧ k ≤ 1000 ∧ Q (f a b c d e g)
def stepX (a c d g : Int) : Int := d * c - a * g
end PH
namespace PH
open PySem PySem.Spec L2
theorem plc_spec {x y d : Int} (h : d ≠ 0) : ∃ u v r : Int, plc x y d = .tuple [.int u, .int v, .int r] ∧ 0 < r ∧ g3 u v r = 1 ∧ u.natAbs ≤ x.natAbs ∧ v.natAbs ≤ y.natAbs ∧ r.natAbs ≤ d.natAbs := by
  have g0 := gs3_ne (x := x) (y := y) h
  obtain ⟨u, hu⟩ := gs3_x x y d
  obtain ⟨v, hv⟩ := gs3_y x y d
  obtain ⟨r, hr⟩ := gs3_d x y d
  have f := plc_form (x := x) (y := y) h
  have e : plc x y d = .tuple [.int u, .int v, .int r] := by
    unfold plc
    have a1 : x.fdiv (gs3 x y d) = u := by conv => lhs; arg 1; rw [hu, Int.mul_comm]
                                           exact Int.mul_fdiv_cancel _ g0
    have a2 : y.fdiv (gs3 x y d) = v := by conv => lhs; arg 1; rw [hv, Int.mul_comm]
                                           exact Int.mul_fdiv_cancel _ g0
    have a3 : d.fdiv (gs3 x y d) = r := by conv => lhs; arg 1; rw [hr, Int.mul_comm]
                                           exact Int.mul_fdiv_cancel _ g0
    rw [a1, a2, a3]
  rw [e] at f
  have hf : 0 < r ∧ g3 u v r = 1 := by
    by_cases hr0 : 0 < r
    · rw [isPlace_g hr0] at f
      exact ⟨hr0, by have := of_decide_eq_true f; omega⟩
    · rw [isPlace_n hr0] at f; cases f
  have le : ∀ {a b : Int}, a = gs3 x y d * b → b.natAbs ≤ a.natAbs := fun {a b} z => by
    rw [z, Int.natAbs_mul]
    exact Nat.le_mul_of_pos_left _ (by omega)
  exact ⟨u, v, r, e, hf.1, hf.2, le hu, le hv, le hr⟩
def spDrawPlace : DSp := fun ds Q => ∃ w : Int, ds = [SRC, .int w] ∧ 0 ≤ w ∧ w ≤ 1000000 ∧ ∀ x y d : Int, x.natAbs ≤ 3 * w.natAbs → y.natAbs ≤ 3 * w.natAbs → 0 < d → d ≤ 3 → g3 x y d = 1 → Q (.tuple [.int x, .int y, .int d])
theorem sh_ii {p q : Int} : SeqAt.shaped (.tuple [.int p, .int q]) = true := by simp [SeqAt.shaped, PyData.canLay0, PyData.canLayAll0, PyData.depth, PyData.depthAll]
theorem sh_iii {p q r : Int} : SeqAt.shaped (.tuple [.int p, .int q, .int r]) = true := by simp [SeqAt.shaped, PyData.canLay0, PyData.canLayAll0, PyData.depth, PyData.depthAll]
theorem dNe_ii {p q r s : Int} {Q : D → Prop} (h : Q (.bool (!(decide (p = r) && decide (q = s))))) : dNe (.tuple [.int p, .int q]) (.tuple [.int r, .int s]) Q := by
  refine ⟨sh_ii, sh_ii, ?_⟩
  have e : PyData.eqv (.tuple [.int p, .int q]) (.tuple [.int r, .int s]) = (decide (p = r) && decide (q = s)) := by
    simp only [PyData.eqv, PyData.eqvAll, Bool.and_true]; rfl
  rw [e]; exact h
theorem dNe_iii {p q r s t u : Int} {Q : D → Prop} (h : Q (.bool (!(decide (p = s) && (decide (q = t) && decide (r = u)))))) : dNe (.tuple [.int p, .int q, .int r]) (.tuple [.int s, .int t, .int u]) Q := by
  refine ⟨sh_iii, sh_iii, ?_⟩
  have e : PyData.eqv (.tuple [.int p, .int q, .int r]) (.tuple [.int s, .int t, .int u]) = (decide (p = s) && (decide (q = t) && decide (r = u))) := by
    simp only [PyData.eqv, PyData.eqvAll, Bool.and_true]; rfl
  rw [e]; exact h
/-- places in their form that are alike across are alike -/
theorem place_uniq {x y d a b e : Int} (hd : 0 < d) (he : 0 < e) (g1 : g3 x y d = 1) (g2 : g3 a b e = 1) (h1 : x * e = a * d) (h2 : y * e = b * d) : x = a ∧ y = b ∧ d = e := by
  have key : ∀ {x y d a b e : Int}, 0 < d → 0 < e → g3 x y d = 1 → x * e = a * d → y * e = b * d → d.natAbs ∣ e.natAbs := fun {x y d a b e} hd he g1 h1 h2 => by
    have m := g3_mul x y d e
    rw [g1, Nat.one_mul] at m
    rw [← m]
    unfold g3
    refine Nat.dvd_gcd (Nat.dvd_gcd ?_ ?_) ?_
    · rw [h1, Int.natAbs_mul]; exact Nat.dvd_mul_left _ _
    · rw [h2, Int.natAbs_mul]; exact Nat.dvd_mul_left _ _
    · rw [Int.natAbs_mul]; exact Nat.dvd_mul_right _ _
  have e1 : d = e := by
    have := Nat.dvd_antisymm (key hd he g1 h1 h2) (key he hd g2 h1.symm h2.symm)
    omega
  subst e1
  exact ⟨Int.eq_of_mul_eq_mul_right (by omega) h1, Int.eq_of_mul_eq_mul_right (by omega) h2, rfl⟩
end PH

/-! For bodies taken statement by statement. -/
namespace PH
open PySem PySem.Spec L2
theorem dNe_eqs {x y : D} {Q : D → Prop} (e : x = y) (hs : SeqAt.shaped x = true) (h : Q (.bool false)) : dNe x y Q := by
  subst e
  unfold dNe
  split
  · rw [decide_eq_true rfl]; exact h
  · rw [decide_eq_true rfl]; exact h
  · refine ⟨hs, hs, ?_⟩
    have e : PyData.eqv x x = true := PySem.SeqAt.eqv_refl _ (lay_of hs)
    rw [e]; exact h
theorem okN_dirv {a b : Int} {k : Nat} (ha : Bd k a) (hb : Bd k b) (hk : k ≤ 900) : OkN (dirv a b) := by
  have x1 : Bd k (a.fdiv (Int.gcd a b)) := bd_fdiv
  have x2 : Bd k (b.fdiv (Int.gcd a b)) := bd_fdiv
  exact ⟨⟨⟨(x1.mono hk).h, (x2.mono hk).h, trivial⟩, by simp [dirv, PyData.bulk, PyData.bulkAll], by simp [dirv, PyData.depth, PyData.depthAll], by simp [dirv, PyData.hasDict, PyData.hasDictAll]⟩, by simp [dirv, PyData.hasDict, PyData.hasDictAll]⟩
theorem okN_none : OkN (.tuple [.str "none"]) := ⟨okB_ok (by decide +kernel), by simp [PyData.hasDict, PyData.hasDictAll]⟩
theorem dFor_e {mi : DA} {g : DG} {mb rest : DS} {Dd : DEnds} {σd : DSt} (Y : D → Prop) (W : DSt → Prop) (hi : ∀ R : List D → Prop, (∀ ys : List D, (∀ y ∈ ys, Y y) → R ys) → mi σd R) (h0 : W σd)
    (ht : ∀ y, Y y → ∀ σ', W σ' → g y σ' fun σ2 => mb { Dd with nx := W, ct := W, bk := rest Dd } σ2) (hr : ∀ σ', W σ' → rest Dd σ') : dSeq (dFor mi g mb) rest Dd σd :=
  hi _ fun ys hy => ⟨fun _ => W, h0, fun _ y σ' e w => ht y (hy y (List.mem_of_getElem? e)) σ' w, hr⟩
theorem spToldD_no {x y : D} {Q : D → Prop} (h : areNum (.tuple [x, y]) 2 = false ∨ (x = .int 0 ∧ y = .int 0)) (q : Q (.tuple [.str "none"])) : spToldD [x, y] Q := .inr ⟨⟨x, y, rfl, h⟩, q⟩
end PH
namespace PH
open PySem PySem.Spec L2
def IsPl (v : D) : Prop := ∃ x y d : Int, v = .tuple [.int x, .int y, .int d] ∧ 0 < d ∧ g3 x y d = 1 ∧ x.natAbs ≤ 10 ^ 9 ∧ y.natAbs ≤ 10 ^ 9 ∧ d ≤ 10 ^ 9
theorem ne_none {u v : Int} {Q : D → Prop} (h : Q (.bool true)) : dNe (.tuple [.int u, .int v]) (.tuple [.str "none"]) Q := by
  refine ⟨sh_ii, by decide +kernel, ?_⟩
  have e : PyData.eqv (.tuple [.int u, .int v]) (.tuple [.str "none"]) = false := by simp [PyData.eqv, PyData.eqvAll]
  rw [e]; exact h
theorem stepX_rev {a c d g : Int} : stepX d g a c = -stepX a c d g := by unfold stepX; omega
theorem step_ne {x y d a b e : Int} (hd : 0 < d) (he : 0 < e) (g1 : g3 x y d = 1) (g2 : g3 a b e = 1) (h : ¬ (x = a ∧ (y = b ∧ d = e))) : ¬ (stepX x d a e = 0 ∧ stepX y d b e = 0) := by
  rintro ⟨z1, z2⟩
  unfold stepX at z1 z2
  have := place_uniq hd he g1 g2 (by omega) (by omega)
  exact h ⟨this.1, this.2.1, this.2.2⟩
end PH
namespace PH
open PySem PySem.Spec L2
theorem okN_p {u v : Int} {k : Nat} (a : Bd k u) (b : Bd k v) (h : k ≤ 900) : OkN (.tuple [.int u, .int v]) :=
  ⟨⟨⟨(a.mono h).h, (b.mono h).h, trivial⟩, by simp [PyData.bulk, PyData.bulkAll], by simp [PyData.depth, PyData.depthAll], by simp [PyData.hasDict, PyData.hasDictAll]⟩, by simp [PyData.hasDict, PyData.hasDictAll]⟩
end PH

/-! Places reckoned. -/
namespace PH
open PySem PySem.Spec L2
theorem plc_parts {x y d : Int} (h : d ≠ 0) : ∃ u v w : Int, plc x y d = .tuple [.int u, .int v, .int w] ∧ 0 < w ∧ g3 u v w = 1 ∧ x = gs3 x y d * u ∧ y = gs3 x y d * v ∧ d = gs3 x y d * w := by
  have g0 := gs3_ne (x := x) (y := y) h
  obtain ⟨u, hu⟩ := gs3_x x y d
  obtain ⟨v, hv⟩ := gs3_y x y d
  obtain ⟨r, hr⟩ := gs3_d x y d
  obtain ⟨u', v', r', e', h1, h2, _⟩ := plc_spec (x := x) (y := y) h
  have e : plc x y d = .tuple [.int u, .int v, .int r] := by
    unfold plc
    have a1 : x.fdiv (gs3 x y d) = u := by conv => lhs; arg 1; rw [hu, Int.mul_comm]
                                           exact Int.mul_fdiv_cancel _ g0
    have a2 : y.fdiv (gs3 x y d) = v := by conv => lhs; arg 1; rw [hv, Int.mul_comm]
                                           exact Int.mul_fdiv_cancel _ g0
    have a3 : d.fdiv (gs3 x y d) = r := by conv => lhs; arg 1; rw [hr, Int.mul_comm]
                                           exact Int.mul_fdiv_cancel _ g0
    rw [a1, a2, a3]
  rw [e] at e'
  simp only [PyData.tuple.injEq, List.cons.injEq, PyData.int.injEq, and_true] at e'
  obtain ⟨rfl, rfl, rfl⟩ := e'
  exact ⟨u, v, r, e, h1, h2, hu, hv, hr⟩
theorem plc_cross {x y d u v w : Int} (hd : d ≠ 0) (h : plc x y d = .tuple [.int u, .int v, .int w]) : u * d = x * w ∧ v * d = y * w ∧ 0 < w ∧ g3 u v w = 1 := by
  obtain ⟨u', v', w', e, h1, h2, h3, h4, h5⟩ := plc_parts (x := x) (y := y) hd
  rw [e] at h
  simp only [PyData.tuple.injEq, List.cons.injEq, PyData.int.injEq, and_true] at h
  obtain ⟨rfl, rfl, rfl⟩ := h
  generalize gs3 x y d = g at h3 h4 h5
  subst h3; subst h4; subst h5
  exact ⟨by grind, by grind, h1, h2⟩
theorem plc_eq {x y d a b e : Int} (hd : d ≠ 0) (he : 0 < e) (g : g3 a b e = 1) (h1 : x * e = a * d) (h2 : y * e = b * d) : plc x y d = .tuple [.int a, .int b, .int e] := by
  obtain ⟨u, v, w, e1, h3, h4, _⟩ := plc_parts (x := x) (y := y) hd
  obtain ⟨c1, c2, _⟩ := plc_cross hd e1
  have k1 : u * e = a * w := by
    refine Int.eq_of_mul_eq_mul_right hd ?_
    grind
  have k2 : v * e = b * w := by
    refine Int.eq_of_mul_eq_mul_right hd ?_
    grind
  obtain ⟨rfl, rfl, rfl⟩ := place_uniq h3 he h4 g k1 k2
  exact e1
theorem plc_id {u v w : Int} (h : 0 < w) (g : g3 u v w = 1) : plc u v w = .tuple [.int u, .int v, .int w] := plc_eq (by omega) h g rfl rfl
theorem frac_congr {p q r s : Int} (hq : q ≠ 0) (hs : s ≠ 0) (h : p * s = r * q) : frac p q = frac r s := by
  obtain ⟨a, b, e1, h1, h2, _⟩ := frac_spec (p := r) hs
  obtain ⟨c1, _⟩ := frac_cross hs e1
  rw [e1]
  refine frac_eq hq h1 h2 ?_
  refine Int.eq_of_mul_eq_mul_right hs ?_
  grind
/-- a place in its form, its numbers below 2 ^ k -/
def Pl (k : Nat) (x y d : Int) : Prop := 0 < d ∧ g3 x y d = 1 ∧ Bd k x ∧ Bd k y ∧ Bd k d
abbrev pl (x y d : Int) : D := .tuple [.int x, .int y, .int d]
theorem plc_Pl {x y d : Int} {k : Nat} (h : d ≠ 0) (h1 : Bd k x) (h2 : Bd k y) (h3 : Bd k d) : ∃ u v w : Int, plc x y d = pl u v w ∧ Pl k u v w := by
  obtain ⟨u, v, w, e, a1, a2, a3, a4, a5⟩ := plc_spec (x := x) (y := y) h
  exact ⟨u, v, w, e, a1, a2, ⟨Nat.lt_of_le_of_lt a3 h1.h⟩, ⟨Nat.lt_of_le_of_lt a4 h2.h⟩, ⟨Nat.lt_of_le_of_lt a5 h3.h⟩⟩
theorem Pl.mono {j k : Nat} {x y d : Int} (h : Pl j x y d) (l : j ≤ k) : Pl k x y d := ⟨h.1, h.2.1, h.2.2.1.mono l, h.2.2.2.1.mono l, h.2.2.2.2.mono l⟩
def lessP (a b c d e g : Int) : Bool := decide (a * g < d * c ∨ (a * g = d * c ∧ b * g < e * c))
def detP (a b c d e g h i j : Int) : Int := a * (e * j - i * g) + b * (h * g - d * j) + c * (d * i - h * e)
def spPl3 (f : Int → Int → Int → Int → Int → Int → Int → Int → Int → D) : DSp := fun ds Q => ∃ (a b c d e g h i j : Int) (k : Nat), ds = [pl a b c, pl d e g, pl h i j] ∧ Pl k a b c ∧ Pl k d e g ∧ Pl k h i j ∧ k ≤ 100 ∧ Q (f a b c d e g h i j)
def spScale : DSp := fun ds Q => ∃ (a b c m n : Int) (k : Nat), ds = [pl a b c, .int m, .int n] ∧ c ≠ 0 ∧ n ≠ 0 ∧ Bd k a ∧ Bd k b ∧ Bd k c ∧ Bd k m ∧ Bd k n ∧ k ≤ 1000 ∧ Q (plc (a * m) (b * m) (c * n))
def spParts : DSp := fun ds Q => ∃ (a b c : Int) (k : Nat), ds = [pl a b c] ∧ c ≠ 0 ∧ Bd k a ∧ Bd k b ∧ Bd k c ∧ k ≤ 1000 ∧ Q (.list [frac a c, frac b c])
def spSum : DSp := fun ds Q => ∃ (p q r s n : Int) (a : Nat), ds = [.tuple [.int p, .int q], .tuple [.int r, .int s], .int n] ∧ Bd a p ∧ Bd a q ∧ Bd a r ∧ Bd a s ∧ Bd 1 n ∧ a ≤ 1000 ∧ q ≠ 0 ∧ s ≠ 0 ∧ Q (frac (p * s + n * r * q) (q * s))
def spInt1 (f : Int → D) : DSp := fun ds Q => ∃ n : Int, ds = [.int n] ∧ Q (f n)
def spDrawn (k : Nat) : DSp := fun ds Q => ds = [SRC] ∧ ∀ x y d : Int, Pl k x y d → Q (pl x y d)
theorem sign_eq (n : Int) : (if decide (0 < n) = true then (1 : Int) else 0) - (if decide (n < 0) = true then 1 else 0) = Int.sign n := by
  rcases Int.lt_trichotomy n 0 with h | h | h
  · rw [if_neg (by simp; omega), if_pos (by simpa using h), Int.sign_eq_neg_one_of_neg h]; rfl
  · subst h; rfl
  · rw [if_pos (by simpa using h), if_neg (by simp; omega), Int.sign_eq_one_of_pos h]; rfl
theorem sign_scale {x y p q : Int} (hp : 0 < p) (hq : 0 < q) (h : x * p = y * q) : Int.sign x = Int.sign y := by
  have e := congrArg Int.sign h
  rw [Int.sign_mul, Int.sign_mul, Int.sign_eq_one_of_pos hp, Int.sign_eq_one_of_pos hq, Int.mul_one, Int.mul_one] at e
  exact e
end PH
namespace PH
open PySem PySem.Spec L2
abbrev fr (u v : Int) : D := .tuple [.int u, .int v]
theorem frac_obt {p q : Int} {k : Nat} (h : q ≠ 0) (a : Bd k p) (b : Bd k q) : ∃ u v : Int, frac p q = fr u v ∧ 0 < v ∧ Int.gcd u v = 1 ∧ u * q = p * v ∧ Bd k u ∧ Bd k v := by
  obtain ⟨u, v, e, hv, hg, _⟩ := frac_spec (p := p) h
  obtain ⟨c, _⟩ := frac_cross h e
  obtain ⟨b1, b2⟩ := frac_bds (ha := a) (hb := b) h e
  exact ⟨u, v, e, hv, hg, c.symm, b1, b2⟩
theorem frac_sum {p q r s n u v x y : Int} (hq : q ≠ 0) (hs : s ≠ 0) (hv : v ≠ 0) (hy : y ≠ 0) (h1 : u * q = p * v) (h2 : x * s = r * y) : frac (u * y + n * x * v) (v * y) = frac (p * s + n * r * q) (q * s) := by
  refine frac_congr (Int.mul_ne_zero hv hy) (Int.mul_ne_zero hq hs) ?_
  have e1 : (u * y + n * x * v) * (q * s) = (u * q) * (y * s) + n * ((x * s) * (v * q)) := by grind
  rw [e1, h1, h2]; grind
/-- a comprehension over known items -/
def All2 (R : D → D → Prop) : List D → List D → Prop
  | [], [] => True
  | y :: ys, z :: zs => R y z ∧ All2 R ys zs
  | _, _ => False
theorem All2.len {R : D → D → Prop} : ∀ {ys zs : List D}, All2 R ys zs → ys.length = zs.length
  | [], [], _ => rfl
  | _ :: _, _ :: _, h => by simp [All2.len h.2]
  | [], _ :: _, h => h.elim
  | _ :: _, [], h => h.elim
theorem All2.get {R : D → D → Prop} : ∀ {ys zs : List D} {i : Nat} {y : D}, All2 R ys zs → ys[i]? = some y → ∃ z, zs[i]? = some z ∧ R y z
  | [], [], _, _, _, e => by simp at e
  | y :: ys, z :: zs, 0, _, h, e => by simp at e; subst e; exact ⟨z, rfl, h.1⟩
  | y :: ys, z :: zs, i + 1, _, h, e => by
    obtain ⟨w, h1, h2⟩ := All2.get (i := i) h.2 (by simpa using e)
    exact ⟨w, by simpa using h1, h2⟩
  | [], _ :: _, _, _, h, _ => h.elim
  | _ :: _, [], _, _, h, _ => h.elim
theorem lccA {ys zs : List D} {g : DG} {me : DE} {σ0 : DSt} {Q : List D → Prop} (h : All2 (fun y z => ∀ Q : D → Prop, Q z → g y σ0 fun σ2 => me σ2 Q) ys zs) (hl : ys.length ≤ 1000000) (hq : Q zs) :
    ys.length ≤ 1000000 ∧ ∃ W : Nat → List D → Prop, W 0 [] ∧ (∀ i y acc, ys[i]? = some y → acc.length ≤ i → W i acc → g y σ0 fun σ2 => dYes σ2 fun b => if b = true then me σ2 fun z => W (i + 1) (acc ++ [z]) else W (i + 1) acc) ∧ ∀ acc, W ys.length acc → Q acc := by
  refine ⟨hl, fun i acc => acc = zs.take i, by simp, fun i y acc hy _ w => ?_, fun acc w => ?_⟩
  · obtain ⟨z, h1, h2⟩ := h.get hy
    refine h2 (fun z => acc ++ [z] = zs.take (i + 1)) ?_
    show acc ++ [z] = zs.take (i + 1)
    rw [w, List.take_add_one, h1]; rfl
  · rw [w, h.len, List.take_length]; exact hq
theorem side_math {a b c d e g h i j n0 d0 n1 d1 m0 e0 m1 e1 : Int} (hc : 0 < c) (hg : 0 < g) (hj : 0 < j) (p0 : 0 < d0) (p1 : 0 < d1) (p2 : 0 < e0) (p3 : 0 < e1)
    (h0 : n0 * (g * c) = (d * c + -1 * a * g) * d0) (h1 : n1 * (g * c) = (e * c + -1 * b * g) * d1) (h2 : m0 * (j * c) = (h * c + -1 * a * j) * e0) (h3 : m1 * (j * c) = (i * c + -1 * b * j) * e1) :
    Int.sign (n0 * m1 * d1 * e0 - n1 * m0 * d0 * e1) = Int.sign (detP a b c d e g h i j) := by
  refine sign_scale (p := (g * c) * (j * c)) (q := c * (d0 * d1 * e0 * e1)) (Int.mul_pos (Int.mul_pos hg hc) (Int.mul_pos hj hc)) (Int.mul_pos hc (Int.mul_pos (Int.mul_pos (Int.mul_pos p0 p1) p2) p3)) ?_
  have e1' : (n0 * m1 * d1 * e0 - n1 * m0 * d0 * e1) * ((g * c) * (j * c)) = (n0 * (g * c)) * (m1 * (j * c)) * (d1 * e0) - (n1 * (g * c)) * (m0 * (j * c)) * (d0 * e1) := by grind
  rw [e1', h0, h1, h2, h3]
  unfold detP
  grind
theorem det_cyc (a b c d e g h i j : Int) : detP d e g h i j a b c = detP a b c d e g h i j := by unfold detP; grind
theorem det_swap (a b c d e g h i j : Int) : detP d e g a b c h i j = -detP a b c d e g h i j := by unfold detP; grind
theorem det_ppr (a b c h i j : Int) : detP a b c a b c h i j = 0 := by unfold detP; grind
theorem det_pqq (a b c h i j : Int) : detP a b c h i j h i j = 0 := by unfold detP; grind
theorem lessP_self (a b c : Int) : lessP a b c a b c = false := by unfold lessP; simp
theorem dNe_ss {x y : List D} {Q : D → Prop} (e : x = y) (hs : SeqAt.shaped (.list x) = true) (h : Q (.bool false)) : dNe (.list x) (.list y) Q := dNe_eqs (by rw [e]) hs h
end PH
namespace PH
open PySem PySem.Spec L2
theorem spSum_c {p q r s n : Int} {a : Nat} (h1 : Bd a p) (h2 : Bd a q) (h3 : Bd a r) (h4 : Bd a s) (h5 : Bd 1 n) (ha : a ≤ 1000) (hq : q ≠ 0) (hs : s ≠ 0) {z : D} (e : frac (p * s + n * r * q) (q * s) = z) {Q : D → Prop} (h : Q z) : spSum [fr p q, fr r s, .int n] Q :=
  ⟨p, q, r, s, n, a, rfl, h1, h2, h3, h4, h5, ha, hq, hs, e ▸ h⟩
theorem spParts_c {a b c : Int} {k : Nat} (hc : c ≠ 0) (h1 : Bd k a) (h2 : Bd k b) (h3 : Bd k c) (hk : k ≤ 1000) {x y : D} (e1 : frac a c = x) (e2 : frac b c = y) {Q : D → Prop} (h : Q (.list [x, y])) : spParts [pl a b c] Q :=
  ⟨a, b, c, k, rfl, hc, h1, h2, h3, hk, e1 ▸ e2 ▸ h⟩
end PH
namespace PH
open PySem PySem.Spec L2
theorem bd_two {a : Nat} {x y : Int} (h1 : Bd a x) (h2 : Bd a y) : x.natAbs + y.natAbs < 2 ^ (a + 1) := by
  have := h1.h; have := h2.h; rw [Nat.pow_succ]; omega
theorem bd_add2 {a : Nat} {x y : Int} (h1 : Bd a x) (h2 : Bd a y) : Bd (a + 1) (x + y) := ⟨by have := bd_two h1 h2; omega⟩
theorem bd_sub2 {a : Nat} {x y : Int} (h1 : Bd a x) (h2 : Bd a y) : Bd (a + 1) (x - y) := ⟨by have := bd_two h1 h2; omega⟩
def spPls (n : Nat) (k : Nat) (R : D) : DSp := fun ds Q => match n, ds with
  | 2, [s, .tuple [.int a, .int b, .int c], .tuple [.int d, .int e, .int g]] => s = SRC ∧ Pl k a b c ∧ Pl k d e g ∧ Q R
  | _, _ => False
def spTwoR : DSp := fun ds Q => ∃ a b c d e g : Int, ds = [SRC, pl a b c, pl d e g] ∧ Pl 100 a b c ∧ Pl 100 d e g ∧ Q (.bool true)
theorem sh_ff {a b c d : Int} : SeqAt.shaped (.list [fr a b, fr c d]) = true := by simp [SeqAt.shaped, PyData.canLay0, PyData.canLayAll0, PyData.depth, PyData.depthAll]
theorem rOk_b3 {a b c : Bool} : rOk (.list [.bool a, .bool b, .bool c]) := (okN_b.c (okN_b.c (okN_b.c okNs_nil))).l (show 3 ≤ 8 by decide)
theorem bd_sign (n : Int) : Bd 1 (Int.sign n) := ⟨by
  rcases Int.lt_trichotomy n 0 with h | h | h
  · rw [Int.sign_eq_neg_one_of_neg h]; decide
  · subst h; decide
  · rw [Int.sign_eq_one_of_pos h]; decide⟩
end PH
namespace PH
theorem mv_one {u v a g d c : Int} (h : u * (c * g) = (a * g + d * c) * v) : u * (c * g) = (a * g + 1 * d * c) * v := by rw [h, Int.one_mul]
theorem mv_neg {u v a g d c : Int} (h : u * (c * g) = (a * g - d * c) * v) : u * (c * g) = (a * g + -1 * d * c) * v := by rw [h]; grind
theorem sc_math {x y m n u w a c : Int} (c0 : c ≠ 0) (h1 : x * c = a * y) (h2 : u * (c * n) = a * m * w) : x * m * w = u * (y * n) := by
  refine Int.eq_of_mul_eq_mul_right c0 ?_
  have e1 : x * m * w * c = (x * c) * (m * w) := by grind
  have e2 : u * (y * n) * c = (u * (c * n)) * y := by grind
  rw [e1, e2, h1, h2]; grind
theorem back_math {u w a d c g : Int} (h : u * (c * g) = (a * g - d * c) * w) : (u * g + d * w) * c = a * (w * g) := by
  have e1 : (u * g + d * w) * c = u * (c * g) + d * c * w := by grind
  rw [e1, h]; grind
theorem zero_math {a c : Int} : (a * c - a * c) * 1 = 0 * (c * c) := by rw [Int.sub_self]; grind
theorem scb_math {u w a c : Int} (h : u * (c * 7) = a * 3 * w) : u * 7 * c = a * (w * 3) := by
  have e1 : u * 7 * c = u * (c * 7) := by grind
  rw [e1, h]; grind
end PH
namespace PH
open PySem PySem.Spec L2
/-- a comprehension over known items, its parts kept folded -/
theorem dLcc_k {mi : DA} {g : DG} {me : DE} {vs : List Nat} {σd : DSt} {Q : List D → Prop} (ys zs : List D) (hi : ∀ R : List D → Prop, R ys → mi σd R) (hl : ys.length ≤ 1000000)
    (h : All2 (fun y z => ∀ Q : D → Prop, Q z → g y (dwipe (clean σd) vs) fun σ2 => me σ2 Q) ys zs) (hq : Q zs) : dLcc mi g dYes me vs σd Q :=
  hi _ (lccA h hl hq)
/-- a comprehension whose items are told by a function, its parts kept folded -/
theorem dLcc_f {mi : DA} {g : DG} {me : DE} {vs : List Nat} {σd : DSt} {Q : List D → Prop} (ys : List D) (f : D → D) (hi : ∀ R : List D → Prop, R ys → mi σd R) (hl : ys.length ≤ 1000000)
    (h : ∀ y ∈ ys, ∀ Q : D → Prop, Q (f y) → g y (dwipe (clean σd) vs) fun σ2 => me σ2 Q) (hq : Q (ys.map f)) : dLcc mi g dYes me vs σd Q :=
  hi _ (lcc f hl h hq)
theorem dLcc_t {mi : DA} {g : DG} {mt : DT} {me : DE} {vs : List Nat} {σd : DSt} {Q : List D → Prop} (ys : List D) (t : D → Bool) (f : D → D) (hi : ∀ R : List D → Prop, R ys → mi σd R) (hl : ys.length ≤ 1000000)
    (h : ∀ y ∈ ys, ∀ (Q1 : D → Prop) (Q0 : Prop), (t y = true → Q1 (f y)) → (t y = false → Q0) → g y (dwipe (clean σd) vs) fun σ2 => mt σ2 fun b => if b = true then me σ2 Q1 else Q0) (hq : Q ((ys.filter t).map f)) : dLcc mi g mt me vs σd Q :=
  hi _ (lccf t f hl h hq)
end PH

/-! Half planes in their form. -/
namespace PH
open PySem PySem.Spec L2
theorem g3h_pos {a b c : Int} (h : ¬ (a = 0 ∧ b = 0)) : 0 < g3 a b c := by
  rcases Nat.eq_zero_or_pos (g3 a b c) with z | z
  · exfalso
    have z1 := Nat.eq_zero_of_gcd_eq_zero_left z
    have z2 := Nat.eq_zero_of_gcd_eq_zero_left z1
    have z3 := Nat.eq_zero_of_gcd_eq_zero_right z1
    exact h ⟨by omega, by omega⟩
  · exact z
theorem dvd_g {a : Int} {n : Nat} (h : n ∣ a.natAbs) : (n : Int) ∣ a := Int.natAbs_dvd_natAbs.mp (by simpa using h)
def halfv (a b c : Int) : D := .tuple [.int (a.fdiv (g3 a b c)), .int (b.fdiv (g3 a b c)), .int (c.fdiv (g3 a b c))]
theorem halfv_spec {a b c : Int} (h : ¬ (a = 0 ∧ b = 0)) : ∃ u v w : Int, halfv a b c = pl u v w ∧ ¬ (u = 0 ∧ v = 0) ∧ g3 u v w = 1 ∧ a = (g3 a b c : Int) * u ∧ b = (g3 a b c : Int) * v ∧ c = (g3 a b c : Int) * w := by
  have g0 := g3h_pos (c := c) h
  have gne : (g3 a b c : Int) ≠ 0 := by omega
  obtain ⟨u, hu⟩ : (g3 a b c : Int) ∣ a := dvd_g (g3_x a b c)
  obtain ⟨v, hv⟩ : (g3 a b c : Int) ∣ b := dvd_g (g3_y a b c)
  obtain ⟨w, hw⟩ : (g3 a b c : Int) ∣ c := dvd_g (g3_d a b c)
  have e : halfv a b c = pl u v w := by
    unfold halfv
    have a1 : a.fdiv (g3 a b c) = u := by conv => lhs; arg 1; rw [hu, Int.mul_comm]
                                          exact Int.mul_fdiv_cancel _ gne
    have a2 : b.fdiv (g3 a b c) = v := by conv => lhs; arg 1; rw [hv, Int.mul_comm]
                                          exact Int.mul_fdiv_cancel _ gne
    have a3 : c.fdiv (g3 a b c) = w := by conv => lhs; arg 1; rw [hw, Int.mul_comm]
                                          exact Int.mul_fdiv_cancel _ gne
    rw [a1, a2, a3]
  have m := g3_mul u v w (g3 a b c)
  rw [Int.mul_comm u, Int.mul_comm v, Int.mul_comm w, ← hu, ← hv, ← hw] at m
  refine ⟨u, v, w, e, fun z => h ?_, ?_, hu, hv, hw⟩
  · rw [hu, hv, z.1, z.2]; exact ⟨Int.mul_zero _, Int.mul_zero _⟩
  · have e2 : (g3 a b c : Int).natAbs = g3 a b c := rfl
    rw [e2] at m
    have : 1 * g3 a b c = g3 u v w * g3 a b c := by rw [Nat.one_mul]; exact m
    exact (Nat.eq_of_mul_eq_mul_right g0 this).symm
theorem halfv_scale {a b c n : Int} (h : ¬ (a = 0 ∧ b = 0)) (hn : 0 < n) : halfv (a * n) (b * n) (c * n) = halfv a b c := by
  have g0 := g3h_pos (c := c) h
  have gne : (g3 a b c : Int) ≠ 0 := by omega
  unfold halfv
  have e : (g3 (a * n) (b * n) (c * n) : Int) = g3 a b c * n := by rw [g3_mul, Int.natCast_mul, Int.natAbs_of_nonneg (by omega)]
  rw [e, fdiv_scale gne (by omega) (dvd_g (g3_x a b c)), fdiv_scale gne (by omega) (dvd_g (g3_y a b c)), fdiv_scale gne (by omega) (dvd_g (g3_d a b c))]
theorem g3_bd {a b c : Int} {k : Nat} (h : ¬ (a = 0 ∧ b = 0)) (ha : Bd k a) (hb : Bd k b) : Bd k (g3 a b c : Int) := ⟨by
  show g3 a b c < 2 ^ k
  rcases Decidable.em (b = 0) with z | z
  · have hane : a ≠ 0 := fun y => h ⟨y, z⟩
    exact Nat.lt_of_le_of_lt (Nat.le_of_dvd (by omega) (g3_x a b c)) ha.h
  · exact Nat.lt_of_le_of_lt (Nat.le_of_dvd (by omega) (g3_y a b c)) hb.h⟩
def isHalf (d : D) : Bool := areNum d 3 && (match d with
  | .tuple [.int p, .int q, .int r] => !(decide (p = 0) && decide (q = 0)) && decide ((g3 p q r : Int) = 1)
  | _ => false)
theorem isHalf_3 {p q r : Int} : isHalf (pl p q r) = (!(decide (p = 0) && decide (q = 0)) && decide ((g3 p q r : Int) = 1)) := by
  have ha : areNum (pl p q r) 3 = true := areNum3.mpr ⟨p, q, r, rfl⟩
  rw [isHalf, ha, Bool.true_and]
theorem isHalf_0 {d : D} (h : areNum d 3 = false) : isHalf d = false := by simp [isHalf, h]
def spIsHalf : DSp := fun ds Q => ∃ d, ds = [d] ∧ tupLe 1000 d ∧ Q (.bool (isHalf d))
def spHalfv : DSp := fun ds Q => ∃ (a b c : Int) (k : Nat), ds = [.int a, .int b, .int c] ∧ ¬ (a = 0 ∧ b = 0) ∧ Bd k a ∧ Bd k b ∧ Bd k c ∧ k ≤ 8000 ∧ Q (halfv a b c)
def badHalf (ds : List D) : Prop := ∃ x y z, ds = [x, y, z] ∧ (areNum (.tuple [x, y, z]) 3 = false ∨ (x = .int 0 ∧ y = .int 0))
def spHalf : DSpX := fun ds Q Ed => spHalfv ds Q ∨ (badHalf ds ∧ Ed "BadHalf")
def spToldH : DSp := fun ds Q => spHalfv ds Q ∨ (badHalf ds ∧ Q (.tuple [.str "none"]))
theorem spToldH_no {x y z : D} {Q : D → Prop} (h : areNum (.tuple [x, y, z]) 3 = false ∨ (x = .int 0 ∧ y = .int 0)) (q : Q (.tuple [.str "none"])) : spToldH [x, y, z] Q := .inr ⟨⟨x, y, z, rfl, h⟩, q⟩
/-- three integers, a half plane or a place -/
def spTri (ok : Int → Int → Int → Prop) (f : Int → Int → Int → D) : DSp := fun ds Q => ∃ a b c : Int, ds = [pl a b c] ∧ ok a b c ∧ Q (f a b c)
/-- a half plane and a place -/
def excess (a b c x y d : Int) : Int := a * x + b * y - c * d
def spHP (f : Int → Int → Int → Int → Int → Int → D) : DSp := fun ds Q => ∃ (a b c x y d : Int) (k : Nat), ds = [pl a b c, pl x y d] ∧ Bd k a ∧ Bd k b ∧ Bd k c ∧ Bd k x ∧ Bd k y ∧ Bd k d ∧ k ≤ 2000 ∧ Q (f a b c x y d)
def spNormal : DSp := fun ds Q => ∃ (a b c : Int) (k : Nat), ds = [pl a b c] ∧ ¬ (a = 0 ∧ b = 0) ∧ Bd k a ∧ Bd k b ∧ k ≤ 8000 ∧ Q (dirv a b)
def spPlR : DSp := fun ds Q => ∃ a b c : Int, ds = [SRC, pl a b c] ∧ ¬ (a = 0 ∧ b = 0) ∧ g3 a b c = 1 ∧ Bd 31 a ∧ Bd 31 b ∧ Bd 31 c ∧ Q (.bool true)
theorem halfv_bd {a b c : Int} {k : Nat} (ha : Bd k a) (hb : Bd k b) (hc : Bd k c) (h : ¬ (a = 0 ∧ b = 0)) {u v w : Int} (e : halfv a b c = pl u v w) : Bd k u ∧ Bd k v ∧ Bd k w := by
  unfold halfv at e
  simp only [PyData.tuple.injEq, List.cons.injEq, PyData.int.injEq, and_true] at e
  obtain ⟨rfl, rfl, rfl⟩ := e
  exact ⟨bd_fdiv, bd_fdiv, bd_fdiv⟩
theorem sq_pos {a b : Int} (h : ¬ (a = 0 ∧ b = 0)) : 0 < a * a + b * b := by
  have ha : 0 ≤ a * a := by
    rcases Int.le_total 0 a with z | z
    · exact Int.mul_nonneg z z
    · exact Int.mul_nonneg_of_nonpos_of_nonpos z z
  have hb : 0 ≤ b * b := by
    rcases Int.le_total 0 b with z | z
    · exact Int.mul_nonneg z z
    · exact Int.mul_nonneg_of_nonpos_of_nonpos z z
  rcases Decidable.em (a = 0) with z | z
  · have hb0 : b ≠ 0 := fun y => h ⟨z, y⟩
    have : b * b ≠ 0 := Int.mul_ne_zero hb0 hb0
    omega
  · have : a * a ≠ 0 := Int.mul_ne_zero z z
    omega
/-- the foot lies on the line -/
theorem foot_on {a b c u v w : Int} (h : ¬ (a = 0 ∧ b = 0)) (h1 : u * (a * a + b * b) = a * c * w) (h2 : v * (a * a + b * b) = b * c * w) : excess a b c u v w = 0 := by
  have p := sq_pos h
  refine Int.eq_of_mul_eq_mul_right (show a * a + b * b ≠ 0 by omega) ?_
  unfold excess
  have e1 : (a * u + b * v - c * w) * (a * a + b * b) = a * (u * (a * a + b * b)) + b * (v * (a * a + b * b)) - c * w * (a * a + b * b) := by grind
  rw [e1, h1, h2]; grind
theorem on_on {a b c u v w n k x y d : Int} (hd : w * n ≠ 0) (h0 : excess a b c u v w = 0) (h1 : x * (w * n) = (u * n - k * b * w) * d) (h2 : y * (w * n) = (v * n + k * a * w) * d) : excess a b c x y d = 0 := by
  refine Int.eq_of_mul_eq_mul_right hd ?_
  unfold excess at *
  have e1 : (a * x + b * y - c * d) * (w * n) = a * (x * (w * n)) + b * (y * (w * n)) - c * d * (w * n) := by grind
  rw [e1, h1, h2]
  have e2 : a * ((u * n - k * b * w) * d) + b * ((v * n + k * a * w) * d) - c * d * (w * n) = (a * u + b * v - c * w) * (n * d) := by grind
  rw [e2, h0]; grind
end PH
namespace PH
open PySem PySem.Spec L2
theorem dEq_ii {p q r s : Int} {Q : D → Prop} (h : Q (.bool (decide (p = r) && decide (q = s)))) : dEq (.tuple [.int p, .int q]) (.tuple [.int r, .int s]) Q := by
  refine ⟨sh_ii, sh_ii, ?_⟩
  have e : PyData.eqv (.tuple [.int p, .int q]) (.tuple [.int r, .int s]) = (decide (p = r) && decide (q = s)) := by
    simp only [PyData.eqv, PyData.eqvAll, Bool.and_true]; rfl
  rw [e]; exact h
end PH
namespace PH
open PySem PySem.Spec L2
/-- an if, either way; what it does, it lets go on nowhere -/
theorem dIf_b {c : DT} {t rest : DS} {Dd : DEnds} {σd : DSt} (hc : ∀ R : Bool → Prop, (∀ b, R b) → c σd R) (ht : ∀ N : DSt → Prop, t { Dd with nx := N } σd) (hr : rest Dd σd) : dSeq (dIf c t dNext) rest Dd σd :=
  hc _ fun b => by
    cases b with
    | true => exact iteT (ht _)
    | false => exact iteF hr
theorem dEq_sh {x y : D} {Q : D → Prop} (e : x = y) (h : Q (.bool true)) : dEq (.str (PyData.shown x)) (.str (PyData.shown y)) Q := by
  subst e
  show Q (.bool (decide (PyData.shown x = PyData.shown x)))
  rw [decide_eq_true rfl]; exact h
theorem okN_pl {u v w : Int} {k : Nat} (a : Bd k u) (b : Bd k v) (c : Bd k w) (h : k ≤ 900) : OkN (pl u v w) :=
  ⟨⟨⟨(a.mono h).h, (b.mono h).h, (c.mono h).h, trivial⟩, by simp [PyData.bulk, PyData.bulkAll], by simp [PyData.depth, PyData.depthAll], by simp [PyData.hasDict, PyData.hasDictAll]⟩, by simp [PyData.hasDict, PyData.hasDictAll]⟩
end PH
namespace PH
open PySem PySem.Spec L2
theorem ne_none3 {u v w : Int} {Q : D → Prop} (h : Q (.bool true)) : dNe (pl u v w) (.tuple [.str "none"]) Q := by
  refine ⟨sh_iii, by decide +kernel, ?_⟩
  have e : PyData.eqv (pl u v w) (.tuple [.str "none"]) = false := by simp [PyData.eqv, PyData.eqvAll]
  rw [e]; exact h
end PH

/-! The round order of directions. -/
namespace PH
open PySem PySem.Spec L2
def upper (a b : Int) : Bool := decide (0 < b) || (decide (b = 0) && decide (0 < a))
def cr (a b c d : Int) : Int := a * d - b * c
def aheadB (a b c d : Int) : Bool := if upper a b = upper c d then decide (0 < cr a b c d) else upper a b
theorem upper_iff {a b : Int} : upper a b = true ↔ 0 < b ∨ (b = 0 ∧ 0 < a) := by simp [upper]
theorem lower_iff {a b : Int} (h : ¬ (a = 0 ∧ b = 0)) : upper a b = false ↔ b < 0 ∨ (b = 0 ∧ a < 0) := by
  have e := upper_iff (a := a) (b := b)
  cases hu : upper a b with
  | true => exact ⟨fun z => (Bool.noConfusion z), fun z => by have := e.mp hu; omega⟩
  | false =>
    have : ¬ (0 < b ∨ (b = 0 ∧ 0 < a)) := fun z => by rw [e.mpr z] at hu; cases hu
    exact ⟨fun _ => by omega, fun _ => rfl⟩
theorem cr_anti (a b c d : Int) : cr c d a b = -cr a b c d := by unfold cr; grind
theorem ahead_irr (a b : Int) : aheadB a b a b = false := by
  unfold aheadB cr
  rw [if_pos rfl]
  exact decide_eq_false (by have : a * b - b * a = 0 := by grind
                            omega)
theorem ahead_asym {a b c d : Int} (h : aheadB a b c d = true) : aheadB c d a b = false := by
  unfold aheadB at *
  by_cases e : upper a b = upper c d
  · rw [if_pos e] at h
    rw [if_pos e.symm, cr_anti a b c d]
    have := of_decide_eq_true h
    exact decide_eq_false (by omega)
  · rw [if_neg e] at h
    rw [if_neg (fun z => e z.symm)]
    cases hc : upper c d with
    | false => rfl
    | true => rw [h, hc] at e; exact absurd rfl e
theorem pos_pos {x y : Int} (hx : 0 < x) : 0 < x * y ↔ 0 < y := by
  constructor
  · intro h
    by_cases z : 0 < y
    · exact z
    · have := Int.mul_nonpos_of_nonneg_of_nonpos (show 0 ≤ x by omega) (show y ≤ 0 by omega)
      omega
  · exact fun h => Int.mul_pos hx h
/-- positive combinations of the upper half are of it -/
theorem comb_upper {p q a b c d x y : Int} (hp : 0 < p) (hq : 0 < q) (h1 : upper a b = true) (h2 : upper c d = true) (hx : x = p * a + q * c) (hy : y = p * b + q * d) : upper x y = true := by
  rw [upper_iff] at *
  subst hx; subst hy
  rcases h1 with h1 | ⟨h1, h1'⟩ <;> rcases h2 with h2 | ⟨h2, h2'⟩
  · have := Int.mul_pos hp h1; have := Int.mul_pos hq h2; omega
  · subst h2
    have := Int.mul_pos hp h1
    rw [Int.mul_zero]; omega
  · subst h1
    have := Int.mul_pos hq h2
    rw [Int.mul_zero]; omega
  · subst h1; subst h2
    have := Int.mul_pos hp h1'; have := Int.mul_pos hq h2'
    rw [Int.mul_zero, Int.mul_zero]; omega
theorem scale_upper {p a b : Int} (hp : 0 < p) : upper (p * a) (p * b) = upper a b := by
  have e : ∀ {z : Int}, (0 < p * z ↔ 0 < z) := pos_pos hp
  have e0 : (p * b = 0 ↔ b = 0) := ⟨fun h => by rcases Int.mul_eq_zero.mp h with h | h <;> omega, fun h => by rw [h, Int.mul_zero]⟩
  unfold upper
  rw [decide_eq_decide.mpr e, decide_eq_decide.mpr e, decide_eq_decide.mpr e0]
theorem neg_upper {a b : Int} (h : ¬ (a = 0 ∧ b = 0)) : upper (-a) (-b) = !upper a b := by
  cases hu : upper a b with
  | true =>
    have := upper_iff.mp hu
    exact (lower_iff (by omega)).mpr (by omega)
  | false =>
    have := (lower_iff h).mp hu
    exact upper_iff.mpr (by omega)
theorem cr_comb1 (a b c d m n : Int) : cr a b c d * m = cr m n c d * a + cr a b m n * c := by unfold cr; grind
theorem cr_comb2 (a b c d m n : Int) : cr a b c d * n = cr m n c d * b + cr a b m n * d := by unfold cr; grind
/-- between two of one half, less than half a round on: of that half -/
theorem mid_half {a b c d m n : Int} (ha : ¬ (a = 0 ∧ b = 0)) (hc : ¬ (c = 0 ∧ d = 0)) (hm : ¬ (m = 0 ∧ n = 0)) (h1 : 0 < cr a b m n) (h2 : 0 < cr m n c d) (h3 : 0 < cr a b c d) (e : upper a b = upper c d) : upper m n = upper a b := by
  cases hu : upper a b with
  | true =>
    rw [← scale_upper h3]
    exact comb_upper h2 h1 hu (e ▸ hu) (cr_comb1 a b c d m n) (cr_comb2 a b c d m n)
  | false =>
    have na : upper (-a) (-b) = true := by rw [neg_upper ha, hu]; rfl
    have nc : upper (-c) (-d) = true := by rw [neg_upper hc, ← e, hu]; rfl
    have k : upper (cr a b c d * -m) (cr a b c d * -n) = true := comb_upper h2 h1 na nc (by have := cr_comb1 a b c d m n; grind) (by have := cr_comb2 a b c d m n; grind)
    rw [scale_upper h3, neg_upper hm] at k
    cases hn : upper m n with
    | false => rfl
    | true => rw [hn] at k; cases k
def arcB (a b c d m n : Int) : Bool := if aheadB a b c d = true then aheadB a b m n && aheadB m n c d else aheadB a b m n || aheadB m n c d
theorem arc_mid {a b c d m n : Int} (ha : ¬ (a = 0 ∧ b = 0)) (hc : ¬ (c = 0 ∧ d = 0)) (hm : ¬ (m = 0 ∧ n = 0)) (h1 : 0 < cr a b m n) (h2 : 0 < cr m n c d) : arcB a b c d m n = true := by
  have mh := mid_half ha hc hm h1 h2
  unfold arcB aheadB
  rw [decide_eq_true h1, decide_eq_true h2]
  by_cases h3 : 0 < cr a b c d
  · rw [decide_eq_true h3]
    have mh := mh h3
    cases hu : upper a b <;> cases hv : upper c d <;> cases hw : upper m n <;> rw [hu, hv, hw] at mh <;> simp at mh ⊢
  · rw [decide_eq_false h3]
    cases hu : upper a b <;> cases hv : upper c d <;> cases hw : upper m n <;> simp
theorem ahead_trans {a b m n c d : Int} (ha : ¬ (a = 0 ∧ b = 0)) (hm : ¬ (m = 0 ∧ n = 0)) (hc : ¬ (c = 0 ∧ d = 0)) (h1 : aheadB a b m n = true) (h2 : aheadB m n c d = true) : aheadB a b c d = true := by
  have key : upper a b = upper m n → upper m n = upper c d → 0 < cr a b m n → 0 < cr m n c d → 0 < cr a b c d := fun e1 e2 p1 p2 => by
    -- -cr(a, c) (m, n) is no positive combination of its own half
    have c1 := cr_comb1 a b c d m n
    have c2 := cr_comb2 a b c d m n
    by_cases z : 0 < cr a b c d
    · exact z
    · exfalso
      cases hu : upper a b with
      | true =>
        have k := comb_upper p2 p1 hu (e2 ▸ e1 ▸ hu) c1 c2
        rcases Int.lt_or_eq_of_le (show cr a b c d ≤ 0 by omega) with y | y
        · have e : upper (-cr a b c d * -m) (-cr a b c d * -n) = true := by rw [Int.neg_mul_neg, Int.neg_mul_neg]; exact k
          rw [scale_upper (by omega), neg_upper hm, ← e1, hu] at e
          cases e
        · rw [y, Int.zero_mul, Int.zero_mul] at k; simp [upper] at k
      | false =>
        have na : upper (-a) (-b) = true := by rw [neg_upper ha, hu]; rfl
        have nc : upper (-c) (-d) = true := by rw [neg_upper hc, ← e2, ← e1, hu]; rfl
        have k : upper (cr a b c d * -m) (cr a b c d * -n) = true := comb_upper p2 p1 na nc (by grind) (by grind)
        rcases Int.lt_or_eq_of_le (show cr a b c d ≤ 0 by omega) with y | y
        · have e : upper (-cr a b c d * m) (-cr a b c d * n) = true := by rw [Int.neg_mul_comm, Int.neg_mul_comm]; exact k
          rw [scale_upper (by omega), ← e1, hu] at e
          cases e
        · rw [y, Int.zero_mul, Int.zero_mul] at k; simp [upper] at k
  unfold aheadB at *
  cases hu : upper a b <;> cases hv : upper c d <;> cases hw : upper m n <;> rw [hu, hw] at h1 <;> rw [hw, hv] at h2 <;> simp at h1 h2 ⊢ <;> exact key (by rw [hu, hw]) (by rw [hw, hv]) h1 h2
theorem cop_pm {a b c d : Int} (g1 : Int.gcd a b = 1) (g2 : Int.gcd c d = 1) (h : a * d = b * c) : (c = a ∧ d = b) ∨ (c = -a ∧ d = -b) := by
  rcases Int.lt_trichotomy b 0 with hb | hb | hb <;> rcases Int.lt_trichotomy d 0 with hd | hd | hd
  · have := form_uniq (a := -a) (b := -b) (u := -c) (v := -d) (by omega) (by omega) (by rw [Int.neg_gcd, Int.gcd_neg]; exact g1) (by rw [Int.neg_gcd, Int.gcd_neg]; exact g2) (by grind)
    omega
  · subst hd
    have : b * c = 0 := by rw [← h, Int.mul_zero]
    rcases Int.mul_eq_zero.mp this with z | z
    · omega
    · subst z; simp at g2
  · have := form_uniq (a := -a) (b := -b) (u := c) (v := d) (by omega) (by omega) (by rw [Int.neg_gcd, Int.gcd_neg]; exact g1) g2 (by grind)
    omega
  · subst hb
    have : a * d = 0 := by rw [h, Int.zero_mul]
    rcases Int.mul_eq_zero.mp this with z | z
    · subst z; simp at g1
    · omega
  · subst hb; subst hd
    have e1 : a.natAbs = 1 := by simpa using g1
    have e2 : c.natAbs = 1 := by simpa using g2
    omega
  · subst hb
    have : a * d = 0 := by rw [h, Int.zero_mul]
    rcases Int.mul_eq_zero.mp this with z | z
    · subst z; simp at g1
    · omega
  · have := form_uniq (a := a) (b := b) (u := -c) (v := -d) (by omega) (by omega) g1 (by rw [Int.neg_gcd, Int.gcd_neg]; exact g2) (by grind)
    omega
  · subst hd
    have : b * c = 0 := by rw [← h, Int.mul_zero]
    rcases Int.mul_eq_zero.mp this with z | z
    · omega
    · subst z; simp at g2
  · have := form_uniq (a := a) (b := b) (u := c) (v := d) (by omega) (by omega) g1 g2 (by grind)
    omega
theorem gcd_ne {a b : Int} (g : Int.gcd a b = 1) : ¬ (a = 0 ∧ b = 0) := by
  rintro ⟨rfl, rfl⟩; simp at g
theorem ahead_tot {a b c d : Int} (g1 : Int.gcd a b = 1) (g2 : Int.gcd c d = 1) (h : ¬ (a = c ∧ b = d)) : aheadB c d a b = !aheadB a b c d := by
  have h1 := gcd_ne g1
  have h2 := gcd_ne g2
  unfold aheadB
  by_cases e : upper a b = upper c d
  · rw [if_pos e, if_pos e.symm, cr_anti a b c d]
    rcases Int.lt_trichotomy (cr a b c d) 0 with z | z | z
    · rw [decide_eq_true (show 0 < -cr a b c d by omega), decide_eq_false (show ¬ 0 < cr a b c d by omega)]; rfl
    · exfalso
      have q : a * d = b * c := by unfold cr at z; omega
      rcases cop_pm g1 g2 q with ⟨e1, e2⟩ | ⟨e1, e2⟩
      · exact h ⟨e1.symm, e2.symm⟩
      · rw [e1, e2, neg_upper h1] at e
        cases hu : upper a b <;> rw [hu] at e <;> cases e
    · rw [decide_eq_false (show ¬ 0 < -cr a b c d by omega), decide_eq_true z]; rfl
  · rw [if_neg e, if_neg (fun z => e z.symm)]
    cases hu : upper a b <;> cases hv : upper c d <;> rw [hu, hv] at e <;> first | rfl | exact absurd rfl e
end PH

namespace PH
open PySem PySem.Spec L2
/-- a direction in its form, its numbers below 2 ^ k -/
def Dr (k : Nat) (a b : Int) : Prop := Int.gcd a b = 1 ∧ Bd k a ∧ Bd k b
def IsDr (k : Nat) (d : D) : Prop := ∃ a b : Int, d = fr a b ∧ Dr k a b
def aheadD (x y : D) : Bool := match x, y with
  | .tuple [.int a, .int b], .tuple [.int c, .int d] => aheadB a b c d
  | _, _ => false
def spDir2 (f : Int → Int → Int → Int → D) : DSp := fun ds Q => ∃ (a b c d : Int) (k : Nat), ds = [fr a b, fr c d] ∧ Dr k a b ∧ Dr k c d ∧ k ≤ 1000 ∧ Q (f a b c d)
def spDir3 (f : Int → Int → Int → Int → Int → Int → D) : DSp := fun ds Q => ∃ (a b c d m n : Int) (k : Nat), ds = [fr a b, fr c d, fr m n] ∧ Dr k a b ∧ Dr k c d ∧ Dr k m n ∧ k ≤ 1000 ∧ Q (f a b c d m n)
/-- a direction between two others -/
def btw (a b c d : Int) : D := if a = c ∧ b = d then fr (-a) (-b) else if cr a b c d = 0 then fr (-b) a else if 0 < cr a b c d then dirv (a + c) (b + d) else dirv (-(a + c)) (-(b + d))
theorem fdiv_neg_dvd {x g : Int} (hg : g ≠ 0) (h : g ∣ x) : (-x).fdiv g = -(x.fdiv g) := by
  obtain ⟨u, rfl⟩ := h
  rw [show -(g * u) = (-u) * g by grind, Int.mul_fdiv_cancel _ hg, Int.mul_comm g u, Int.mul_fdiv_cancel _ hg]
theorem dirv_neg {a b : Int} (h : ¬ (a = 0 ∧ b = 0)) {u v : Int} (e : dirv a b = fr u v) : dirv (-a) (-b) = fr (-u) (-v) := by
  have g0 := g2_pos h
  unfold dirv at *
  simp only [PyData.tuple.injEq, List.cons.injEq, PyData.int.injEq, and_true] at e
  obtain ⟨rfl, rfl⟩ := e
  have eg : Int.gcd (-a) (-b) = Int.gcd a b := by rw [Int.neg_gcd, Int.gcd_neg]
  rw [eg, fdiv_neg_dvd (by omega) (Int.gcd_dvd_left ..), fdiv_neg_dvd (by omega) (Int.gcd_dvd_right ..)]
theorem dirv_Dr {a b : Int} {k : Nat} (h : ¬ (a = 0 ∧ b = 0)) (ha : Bd k a) (hb : Bd k b) : ∃ u v : Int, dirv a b = fr u v ∧ Dr k u v ∧ a = u * Int.gcd a b ∧ b = v * Int.gcd a b := by
  obtain ⟨u, v, e, g, e1, e2⟩ := dirv_spec h
  have g0 := g2_pos h
  have le : ∀ {x y : Int}, x = y * Int.gcd a b → y.natAbs ≤ x.natAbs := fun {x y} z => by
    rw [z, Int.natAbs_mul]
    exact Nat.le_mul_of_pos_right _ (by omega)
  exact ⟨u, v, e, ⟨g, ⟨Nat.lt_of_le_of_lt (le e1) ha.h⟩, ⟨Nat.lt_of_le_of_lt (le e2) hb.h⟩⟩, e1, e2⟩
theorem Dr.mono {j k : Nat} {a b : Int} (h : Dr j a b) (l : j ≤ k) : Dr k a b := ⟨h.1, h.2.1.mono l, h.2.2.mono l⟩
theorem Dr.neg {k : Nat} {a b : Int} (h : Dr k a b) : Dr k (-a) (-b) := ⟨by rw [Int.neg_gcd, Int.gcd_neg]; exact h.1, @bd_neg _ _ h.2.1, @bd_neg _ _ h.2.2⟩
theorem Dr.qua {k : Nat} {a b : Int} (h : Dr k a b) : Dr k (-b) a := ⟨by rw [Int.neg_gcd, Int.gcd_comm]; exact h.1, @bd_neg _ _ h.2.2, h.2.1⟩
theorem Dr.ne {k : Nat} {a b : Int} (h : Dr k a b) : ¬ (a = 0 ∧ b = 0) := gcd_ne h.1
theorem sum_ne {k : Nat} {a b c d : Int} (h1 : Dr k a b) (h : cr a b c d ≠ 0) : ¬ (a + c = 0 ∧ b + d = 0) := by
  rintro ⟨z1, z2⟩
  apply h
  have e1 : c = -a := by omega
  have e2 : d = -b := by omega
  subst e1; subst e2
  unfold cr; grind
/-- what stands between two lies in the arc -/
theorem btw_arc {k : Nat} {a b c d : Int} (h1 : Dr k a b) (h2 : Dr k c d) : ∃ u v : Int, btw a b c d = fr u v ∧ Dr (k + 1) u v ∧ arcB a b c d u v = true := by
  unfold btw
  by_cases e : a = c ∧ b = d
  · rw [if_pos e]
    obtain ⟨rfl, rfl⟩ := e
    refine ⟨_, _, rfl, h1.neg.mono (by omega), ?_⟩
    have ne : ¬ (a = -a ∧ b = -b) := fun z => h1.ne (by omega)
    have t := ahead_tot h1.1 h1.neg.1 ne
    unfold arcB
    rw [ahead_irr, if_neg (by decide), t]
    cases aheadB a b (-a) (-b) <;> rfl
  · rw [if_neg e]
    by_cases z : cr a b c d = 0
    · rw [if_pos z]
      refine ⟨_, _, rfl, h1.qua.mono (by omega), ?_⟩
      have q : a * d = b * c := by unfold cr at z; omega
      rcases cop_pm h1.1 h2.1 q with ⟨e1, e2⟩ | ⟨e1, e2⟩
      · exact absurd ⟨e1.symm, e2.symm⟩ e
      · subst e1; subst e2
        have p : 0 < a * a + b * b := sq_pos h1.ne
        exact arc_mid h1.ne h1.neg.ne h1.qua.ne (by unfold cr; grind) (by unfold cr; grind)
    · rw [if_neg z]
      have sn := sum_ne (c := c) (d := d) h1 z
      by_cases p : 0 < cr a b c d
      · rw [if_pos p]
        obtain ⟨u, v, e1, D, e3, e4⟩ := dirv_Dr (k := k + 1) sn (bd_add2 h1.2.1 h2.2.1) (bd_add2 h1.2.2 h2.2.2)
        refine ⟨u, v, e1, D, ?_⟩
        have g0 := g2_pos sn
        generalize Int.gcd (a + c) (b + d) = g at e3 e4 g0
        refine arc_mid h1.ne h2.ne D.ne ?_ ?_
        · refine (pos_pos (x := (g : Int)) (by omega)).mp ?_
          have : (g : Int) * cr a b u v = cr a b c d := by unfold cr; grind
          omega
        · refine (pos_pos (x := (g : Int)) (by omega)).mp ?_
          have : (g : Int) * cr u v c d = cr a b c d := by unfold cr; grind
          omega
      · rw [if_neg p]
        have sn' : ¬ (-(a + c) = 0 ∧ -(b + d) = 0) := fun y => sn (by omega)
        obtain ⟨u, v, e1, D, e3, e4⟩ := dirv_Dr (k := k + 1) sn' (@bd_neg _ _ (bd_add2 h1.2.1 h2.2.1)) (@bd_neg _ _ (bd_add2 h1.2.2 h2.2.2))
        refine ⟨u, v, e1, D, ?_⟩
        have g0 := g2_pos sn'
        generalize Int.gcd (-(a + c)) (-(b + d)) = g at e3 e4 g0
        refine arc_mid h1.ne h2.ne D.ne ?_ ?_
        · refine (pos_pos (x := (g : Int)) (by omega)).mp ?_
          have : (g : Int) * cr a b u v = -cr a b c d := by unfold cr; grind
          omega
        · refine (pos_pos (x := (g : Int)) (by omega)).mp ?_
          have : (g : Int) * cr u v c d = -cr a b c d := by unfold cr; grind
          omega
/-- the arc from v to u has just what that from u to v has not -/
theorem arc_other {k : Nat} {a b c d m n : Int} (h1 : Dr k a b) (h2 : Dr k c d) (h3 : Dr k m n) (n1 : ¬ (a = c ∧ b = d)) (n2 : ¬ (a = m ∧ b = n)) (n3 : ¬ (c = m ∧ d = n)) : arcB c d a b m n = !arcB a b c d m n := by
  have t1 := ahead_tot h1.1 h2.1 n1
  have t2 := ahead_tot h1.1 h3.1 n2
  have t3 := ahead_tot h2.1 h3.1 n3
  unfold arcB
  rw [t1, t2, t3]
  cases aheadB a b c d <;> cases aheadB a b m n <;> cases aheadB c d m n <;> rfl
/-- the law's own look at arcs -/
def arcL (a b c d m n : Int) : Bool := if (a = c ∧ b = d) ∨ (a = m ∧ b = n) ∨ (c = m ∧ d = n) then decide (a = c ∧ b = d) && !decide (m = a ∧ n = b) else arcB a b c d m n
theorem arcL_eq {k : Nat} {a b c d m n : Int} (h1 : Dr k a b) (h2 : Dr k c d) (h3 : Dr k m n) : arcL a b c d m n = arcB a b c d m n := by
  unfold arcL
  by_cases e : a = c ∧ b = d
  · obtain ⟨rfl, rfl⟩ := e
    rw [if_pos (.inl ⟨rfl, rfl⟩)]
    unfold arcB
    rw [ahead_irr, if_neg (by decide)]
    by_cases e2 : a = m ∧ b = n
    · obtain ⟨rfl, rfl⟩ := e2
      rw [ahead_irr]; simp
    · have t := ahead_tot h1.1 h3.1 e2
      rw [t]
      have e3 : ¬ (m = a ∧ n = b) := fun z => e2 ⟨z.1.symm, z.2.symm⟩
      rw [decide_eq_true (show a = a ∧ b = b from ⟨rfl, rfl⟩), decide_eq_false e3]
      cases aheadB a b m n <;> rfl
  · by_cases e2 : a = m ∧ b = n
    · obtain ⟨rfl, rfl⟩ := e2
      rw [if_pos (.inr (.inl ⟨rfl, rfl⟩)), decide_eq_false e]
      unfold arcB
      rw [ahead_irr]
      have t := ahead_tot h1.1 h2.1 e
      skip
      cases aheadB a b c d <;> rfl
    · by_cases e3 : c = m ∧ d = n
      · obtain ⟨rfl, rfl⟩ := e3
        rw [if_pos (.inr (.inr ⟨rfl, rfl⟩)), decide_eq_false e]
        unfold arcB
        rw [ahead_irr]
        cases aheadB a b c d <;> rfl
      · rw [if_neg (by rintro (z | z | z) <;> contradiction)]
end PH

/-! Lists of data whose items are told by a predicate. -/
namespace PH
open PySem PySem.Spec L2
theorem atI_5 {α : Type} {a b c d e f : α} {l : List α} : L2.atI (a :: b :: c :: d :: e :: f :: l) 5 = some f := by simpa using L2.atI_nat (xs := a :: b :: c :: d :: e :: f :: l) (j := 5) (v := f) rfl
theorem atI_6 {α : Type} {a b c d e f g : α} {l : List α} : L2.atI (a :: b :: c :: d :: e :: f :: g :: l) 6 = some g := by simpa using L2.atI_nat (xs := a :: b :: c :: d :: e :: f :: g :: l) (j := 6) (v := g) rfl
theorem atI_7 {α : Type} {a b c d e f g h : α} {l : List α} : L2.atI (a :: b :: c :: d :: e :: f :: g :: h :: l) 7 = some h := by simpa using L2.atI_nat (xs := a :: b :: c :: d :: e :: f :: g :: h :: l) (j := 7) (v := h) rfl
/-- a comprehension whose items keep a promise -/
theorem dLcc_r {mi : DA} {g : DG} {me : DE} {vs : List Nat} {σd : DSt} {Q : List D → Prop} (ys : List D) (P : D → Prop) (hi : ∀ R : List D → Prop, R ys → mi σd R) (hl : ys.length ≤ 1000000)
    (h : ∀ y ∈ ys, ∀ Q : D → Prop, (∀ z, P z → Q z) → g y (dwipe (clean σd) vs) fun σ2 => me σ2 Q) (hq : ∀ zs : List D, zs.length = ys.length → (∀ z ∈ zs, P z) → Q zs) : dLcc mi g dYes me vs σd Q := by
  refine hi _ ⟨hl, fun i acc => acc.length = min i ys.length ∧ ∀ z ∈ acc, P z, ⟨by simp, by simp⟩, fun i y acc hy _ w => ?_, fun acc w => hq acc (by rw [w.1, Nat.min_self]) w.2⟩
  have hlt := (List.getElem?_eq_some_iff.mp hy).1
  refine h y (List.mem_of_getElem? hy) _ fun z hz => ?_
  show (acc ++ [z]).length = min (i + 1) ys.length ∧ ∀ z' ∈ acc ++ [z], P z'
  refine ⟨by rw [List.length_append, w.1]; simp; omega, fun z' hz' => ?_⟩
  rcases List.mem_append.mp hz' with q | q
  · exact w.2 z' q
  · simp at q; subst q; exact hz
theorem dLcc_rt {mi : DA} {g : DG} {mt : DT} {me : DE} {vs : List Nat} {σd : DSt} {Q : List D → Prop} (ys : List D) (P : D → Prop) (hi : ∀ R : List D → Prop, R ys → mi σd R) (hl : ys.length ≤ 1000000)
    (h : ∀ y ∈ ys, ∀ (Q : D → Prop) (Q0 : Prop), (∀ z, P z → Q z) → Q0 → g y (dwipe (clean σd) vs) fun σ2 => mt σ2 fun b => if b = true then me σ2 Q else Q0) (hq : ∀ zs : List D, zs.length ≤ ys.length → (∀ z ∈ zs, P z) → Q zs) : dLcc mi g mt me vs σd Q := by
  refine hi _ ⟨hl, fun i acc => acc.length ≤ min i ys.length ∧ ∀ z ∈ acc, P z, ⟨by simp, by simp⟩, fun i y acc hy _ w => ?_, fun acc w => hq acc (by have := w.1; omega) w.2⟩
  have hlt := (List.getElem?_eq_some_iff.mp hy).1
  refine h y (List.mem_of_getElem? hy) _ _ (fun z hz => ?_) ⟨by omega, w.2⟩
  show (acc ++ [z]).length ≤ min (i + 1) ys.length ∧ ∀ z' ∈ acc ++ [z], P z'
  refine ⟨by rw [List.length_append]; simp; omega, fun z' hz' => ?_⟩
  rcases List.mem_append.mp hz' with q | q
  · exact w.2 z' q
  · simp at q; subst q; exact hz
/-! pairs of integers in lists -/
def IsFr (d : D) : Prop := ∃ a b : Int, d = fr a b
theorem lay_frs : ∀ {xs : List D}, (∀ x ∈ xs, IsFr x) → PyData.canLayAll0 xs = true ∧ PyData.depthAll xs ≤ 1
  | [], _ => ⟨by simp [PyData.canLayAll0], by simp [PyData.depthAll]⟩
  | x :: xs, h => by
    obtain ⟨a, b, rfl⟩ := h x (by simp)
    obtain ⟨h1, h2⟩ := lay_frs (xs := xs) fun y hy => h y (by simp [hy])
    exact ⟨by simp [PyData.canLayAll0, PyData.canLay0, h1], by simp [PyData.depthAll, PyData.depth]; omega⟩
theorem sh_frs {xs : List D} (h : ∀ x ∈ xs, IsFr x) : SeqAt.shaped (.list xs) = true := by
  obtain ⟨h1, h2⟩ := lay_frs h
  have e1 : (PyData.list xs).canLay0 = true := by simpa [PyData.canLay0] using h1
  have e2 : (PyData.list xs).depth ≤ 2 := by simp only [PyData.depth]; omega
  simp [SeqAt.shaped, e1]
  omega
theorem eqv_ff {p q r s : Int} : PyData.eqv (fr p q) (fr r s) = (decide (p = r) && decide (q = s)) := by
  simp only [PyData.eqv, PyData.eqvAll, Bool.and_true]; rfl
theorem eqv_fr {x y : D} (hx : IsFr x) (hy : IsFr y) : PyData.eqv x y = true ↔ x = y := by
  obtain ⟨a, b, rfl⟩ := hx
  obtain ⟨c, d, rfl⟩ := hy
  rw [eqv_ff]
  simp
theorem any_fr {xs : List D} {y : D} (h : ∀ x ∈ xs, IsFr x) (hy : IsFr y) : (xs.any fun z => PyData.eqv z y) = true ↔ y ∈ xs := by
  rw [List.any_eq_true]
  constructor
  · rintro ⟨z, hz, e⟩
    rw [(eqv_fr (h z hz) hy).mp e] at hz; exact hz
  · exact fun hz => ⟨y, hz, (eqv_fr hy hy).mpr rfl⟩
theorem dIn_fr {neg : Bool} {xs : List D} {y : D} {Q : D → Prop} (hx : ∀ x ∈ xs, IsFr x) (hy : IsFr y) (h1 : y ∈ xs → Q (.bool (!neg))) (h2 : y ∉ xs → Q (.bool neg)) : dIn neg y (.list xs) Q := by
  have key : Q (.bool (if neg = true then !(xs.any fun z => PyData.eqv z y) else xs.any fun z => PyData.eqv z y)) := by
    have e := any_fr hx hy
    cases ha : (xs.any fun z => PyData.eqv z y) with
    | true =>
      have := h1 (e.mp ha)
      cases neg <;> simpa using this
    | false =>
      have := h2 (fun z => by rw [e.mpr z] at ha; cases ha)
      cases neg <;> simpa using this
  obtain ⟨a, b, rfl⟩ := hy
  exact ⟨sh_ii, sh_frs hx, key⟩
theorem dIn_frT {neg : Bool} {xs : List D} {y : D} {Q : D → Prop} (hx : ∀ x ∈ xs, IsFr x) (hy : IsFr y) (h1 : y ∈ xs → Q (.bool (!neg))) (h2 : y ∉ xs → Q (.bool neg)) : dIn neg y (.tuple xs) Q := by
  have := dIn_fr (neg := neg) hx hy h1 h2
  exact this
theorem dNe_bb {x y : Bool} {Q : D → Prop} (h : Q (.bool (x != y))) : dNe (.bool x) (.bool y) Q := by
  refine ⟨by cases x <;> decide, by cases y <;> decide, ?_⟩
  have e : PyData.eqv (.bool x) (.bool y) = (x == y) := by cases x <;> cases y <;> decide
  rw [e]; cases x <;> cases y <;> exact h
theorem dEq_bb {x y : Bool} {Q : D → Prop} (h : Q (.bool (x == y))) : dEq (.bool x) (.bool y) Q := by
  refine ⟨by cases x <;> decide, by cases y <;> decide, ?_⟩
  have e : PyData.eqv (.bool x) (.bool y) = (x == y) := by cases x <;> cases y <;> decide
  rw [e]; exact h
theorem IsDr.fr {k : Nat} {d : D} (h : IsDr k d) : IsFr d := let ⟨a, b, e, _⟩ := h; ⟨a, b, e⟩
theorem IsDr.mono {j k : Nat} {d : D} (h : IsDr j d) (l : j ≤ k) : IsDr k d := let ⟨a, b, e, z⟩ := h; ⟨a, b, e, z.mono l⟩
/-! the round, made by putting one behind another -/
theorem aheadD_trans {k : Nat} {x y z : D} (hx : IsDr k x) (hy : IsDr k y) (hz : IsDr k z) (h1 : aheadD x y = true) (h2 : aheadD y z = true) : aheadD x z = true := by
  obtain ⟨a, b, rfl, p⟩ := hx
  obtain ⟨c, d, rfl, q⟩ := hy
  obtain ⟨m, n, rfl, r⟩ := hz
  exact ahead_trans p.ne q.ne r.ne h1 h2
theorem aheadD_tot {k : Nat} {x y : D} (hx : IsDr k x) (hy : IsDr k y) (h : x ≠ y) : aheadD y x = !aheadD x y := by
  obtain ⟨a, b, rfl, p⟩ := hx
  obtain ⟨c, d, rfl, q⟩ := hy
  exact ahead_tot p.1 q.1 fun z => h (by rw [z.1, z.2])
/-- those ahead of u are the first ones -/
theorem round_pre {k : Nat} {u : D} (hu : IsDr k u) : ∀ {xs : List D}, (∀ x ∈ xs, IsDr k x) → xs.Pairwise (fun x y => aheadD x y = true) → u ∉ xs →
    ∃ m, xs.filter (fun x => aheadD x u) = xs.take m ∧ (∀ x ∈ xs.take m, aheadD x u = true) ∧ (∀ x ∈ xs.drop m, aheadD u x = true) ∧ m = (xs.filter (fun x => aheadD x u)).length
  | [], _, _, _ => ⟨0, by simp⟩
  | x :: xs, h, hp, hn => by
    have hx := h x (by simp)
    have hxs : ∀ y ∈ xs, IsDr k y := fun y hy => h y (by simp [hy])
    have hne : x ≠ u := fun z => hn (by simp [z])
    rw [List.pairwise_cons] at hp
    cases e : aheadD x u with
    | true =>
      obtain ⟨m, h1, h2, h3, h4⟩ := round_pre hu hxs hp.2 (fun z => hn (by simp [z]))
      refine ⟨m + 1, by simp [List.filter_cons, e, h1], ?_, by simpa using h3, by simp only [List.filter_cons, e, if_true, List.length_cons]; omega⟩
      intro y hy
      simp only [List.take_succ_cons, List.mem_cons] at hy
      rcases hy with rfl | hy
      · exact e
      · exact h2 y hy
    | false =>
      have ux : aheadD u x = true := by rw [aheadD_tot hx hu hne, e]; rfl
      have al : ∀ y ∈ xs, aheadD u y = true := fun y hy => aheadD_trans hu hx (hxs y hy) ux (hp.1 y hy)
      have no : ∀ y ∈ xs, aheadD y u = false := fun y hy => by
        rw [aheadD_tot hu (hxs y hy) (fun z => hn (by simp [z, hy])), al y hy]; rfl
      have fe : xs.filter (fun x => aheadD x u) = [] := List.filter_eq_nil_iff.mpr fun y hy => by rw [no y hy]; simp
      refine ⟨0, by simp [List.filter_cons, e, fe], by simp, ?_, by simp [List.filter_cons, e, fe]⟩
      intro y hy
      simp only [List.drop_zero, List.mem_cons] at hy
      rcases hy with rfl | hy
      · exact ux
      · exact al y hy
theorem round_ins {k : Nat} {u : D} (hu : IsDr k u) {xs : List D} (h : ∀ x ∈ xs, IsDr k x) (hp : xs.Pairwise (fun x y => aheadD x y = true)) (hn : u ∉ xs) :
    let zs := xs.filter fun x => aheadD x u
    (zs ++ [u] ++ xs.drop zs.length).Pairwise (fun x y => aheadD x y = true) ∧ (∀ x ∈ zs ++ [u] ++ xs.drop zs.length, IsDr k x) ∧ (zs ++ [u] ++ xs.drop zs.length).length = xs.length + 1 := by
  obtain ⟨m, h1, h2, h3, h4⟩ := round_pre hu h hp hn
  intro zs
  have ez : zs = xs.take m := h1
  have em : zs.length = m := h4.symm
  rw [em, ez]
  have sub1 : ∀ x ∈ xs.take m, IsDr k x := fun x hx => h x (List.mem_of_mem_take hx)
  have sub2 : ∀ x ∈ xs.drop m, IsDr k x := fun x hx => h x (List.mem_of_mem_drop hx)
  refine ⟨?_, ?_, ?_⟩
  · rw [List.pairwise_append, List.pairwise_append]
    refine ⟨⟨hp.sublist (List.take_sublist m xs), by simp, fun x hx y hy => ?_⟩, hp.sublist (List.drop_sublist m xs), fun x hx y hy => ?_⟩
    · simp at hy; subst hy; exact h2 x hx
    · rcases List.mem_append.mp hx with hx | hx
      · exact aheadD_trans (sub1 x hx) hu (sub2 y hy) (h2 x hx) (h3 y hy)
      · simp at hx; subst hx; exact h3 y hy
  · intro x hx
    simp only [List.mem_append, List.mem_cons, List.not_mem_nil, or_false] at hx
    rcases hx with (hx | rfl) | hx
    · exact sub1 x hx
    · exact hu
    · exact sub2 x hx
  · simp only [List.length_append, List.length_cons, List.length_nil, List.length_take, List.length_drop]
    have : m ≤ xs.length := by rw [← em, ez]; simp; omega
    omega
theorem boolsD_true : ∀ {xs : List D}, (∀ x ∈ xs, x = .bool true) → ∃ bs : List Bool, boolsD xs = some bs ∧ bs.all id = true
  | [], _ => ⟨[], rfl, rfl⟩
  | x :: xs, h => by
    obtain ⟨bs, h1, h2⟩ := boolsD_true (xs := xs) fun y hy => h y (by simp [hy])
    have := h x (by simp)
    subst this
    exact ⟨true :: bs, by simp [boolsD, h1], by simp [h2]⟩
theorem pair_next {R : D → D → Prop} : ∀ {xs : List D}, xs.Pairwise R → ∀ y ∈ zipD xs (xs.drop 1), ∃ a b, y = .tuple [a, b] ∧ R a b ∧ a ∈ xs ∧ b ∈ xs
  | [], _, y, hy => by simp [zipD] at hy
  | [x], _, y, hy => by simp [zipD] at hy
  | x :: z :: xs, hp, y, hy => by
    rw [List.pairwise_cons] at hp
    have e : zipD (x :: z :: xs) ((x :: z :: xs).drop 1) = .tuple [x, z] :: zipD (z :: xs) ((z :: xs).drop 1) := rfl
    rw [e] at hy
    rcases List.mem_cons.mp hy with rfl | hy
    · exact ⟨x, z, rfl, hp.1 z (by simp), by simp, by simp⟩
    · obtain ⟨a, b, e1, e2, e3, e4⟩ := pair_next hp.2 y hy
      exact ⟨a, b, e1, e2, List.mem_cons_of_mem _ e3, List.mem_cons_of_mem _ e4⟩
theorem zipD_len (xs ys : List D) : (zipD xs ys).length ≤ xs.length := by
  unfold zipD; rw [List.length_zipWith]; omega
end PH
namespace PH
open PySem PySem.Spec L2
theorem cutD_len (xs : List D) (lo hi : Option Int) : (cutD xs lo hi).length ≤ xs.length := by
  unfold cutD; rw [List.length_take, List.length_drop]; omega
theorem cutD_from {xs : List D} {n : Nat} (h : n ≤ xs.length) : cutD xs (some (n : Int)) none = xs.drop n := by
  unfold cutD
  rw [HT.sIx_nat, HT.sIx_none, Nat.min_eq_left h]
  rw [List.take_of_length_le (by rw [List.length_drop]; exact Nat.le_refl _)]
/-- a for whose state counts the turns -/
theorem dFor_i {mi : DA} {g : DG} {mb rest : DS} {Dd : DEnds} {σd : DSt} (ys : List D) (W : Nat → DSt → Prop) (hi : ∀ R : List D → Prop, R ys → mi σd R) (h0 : W 0 σd)
    (ht : ∀ i y, ys[i]? = some y → ∀ σ', W i σ' → g y σ' fun σ2 => mb { Dd with nx := W (i + 1), ct := W (i + 1), bk := rest Dd } σ2) (hr : ∀ σ', W ys.length σ' → rest Dd σ') : dSeq (dFor mi g mb) rest Dd σd :=
  hi _ ⟨W, h0, fun i y σ' e w => ht i y e σ' w, hr⟩
end PH
namespace PH
open PySem PySem.Spec L2
theorem dIfE_b {t : DT} {m n : DE} {σd : DSt} {K : D → Prop} (P : D → Prop) (ht : ∀ R : Bool → Prop, (∀ b, R b) → t σd R) (hm : ∀ R : D → Prop, (∀ d, P d → R d) → m σd R) (hn : ∀ R : D → Prop, (∀ d, P d → R d) → n σd R) (h : ∀ d, P d → K d) : dIfE t m n σd K :=
  ht _ fun b => by
    cases b with
    | true => exact iteT (hm K h)
    | false => exact iteF (hn K h)
def spDrawDir : DSp := fun ds Q => ds = [SRC] ∧ ∀ a b : Int, Dr 3 a b → Q (fr a b)
def spFarDir : DSp := fun ds Q => ds = [SRC] ∧ ∀ xs : List D, xs.length ≤ 10 → (∀ x ∈ xs, IsDr 31 x) → Q (.list xs)
def spRound : DSp := fun ds Q => ∃ (xs : List D) (k : Nat), ds = [.list xs] ∧ (∀ x ∈ xs, IsDr k x) ∧ xs.length ≤ 1000 ∧ k ≤ 1000 ∧ ∀ ys : List D, (∀ y ∈ ys, IsDr k y) → ys.Pairwise (fun x y => aheadD x y = true) → ys.length ≤ xs.length → Q (.list ys)
def spTwo6 : DSp := fun ds Q => ∃ (a b c d : Int) (xs : List D), ds = [fr a b, fr c d, .list xs] ∧ Dr 40 a b ∧ Dr 40 c d ∧ (∀ x ∈ xs, IsDr 40 x) ∧ xs.length ≤ 1000 ∧ Q (.bool true)
def spSide : DSp := fun ds Q => ∃ a b : Int, ds = [fr a b] ∧ ¬ (a = 0 ∧ b = 0) ∧ Q (.int (if upper a b = true then 0 else 1))
end PH
namespace PH
open PySem PySem.Spec L2
theorem cut_1 (ys : List D) : cutD ys (some 1) none = ys.drop 1 := by
  cases ys with
  | nil => rfl
  | cons y ys => exact cutD_from (n := 1) (by simp)
end PH

/-! Heights and lines. -/
namespace PH
open PySem PySem.Spec L2
/-! a list taken apart -/
def dgUnl (gs : DGs) : DG := fun d σd Q => match d with | .list ds => gs ds σd Q | _ => False
theorem lg_unl {K : PySem.W.Frag} {n : Nat} {gs : TGs} {dgs : DGs} (hg : LGs gs dgs) (hn : ∀ ds σd Q, dgs ds σd Q → ds.length = n) : LG (gUnl K n gs) (dgUnl dgs) := by
  intro S M H0 H σ σd v d Qd Q E r h k
  cases r <;> first | exact h.elim | skip
  rename_i a xs ds na e r
  exact ⟨a, xs, rfl, .inl (.inl e), by rw [r.length]; exact hn _ _ _ h, hg S M H0 H σ σd xs ds Qd Q E r h k⟩
theorem pdg_unl {X : Cx} {pos : Pos} {k n : Nat} {es : List Expr} {dg : DGs} (hc : X.calm = true) (h : PDGs X es n dg) (hn : (assignEach es X.env).length = n := by rfl) (hst : (assignEach es X.env).findIdx? (·.1) = none := by rfl) : PDG X (.Tuple es k pos) (dgUnl dg) :=
  let ⟨_, h1, l1, q⟩ := h; ⟨_, pg_unl hc h1 hn hst, lg_unl l1 q⟩
/-! heights -/
def spHeight : DSp := fun ds Q => ∃ (x y a b c : Int) (k : Nat), ds = [fr x y, pl a b c] ∧ c ≠ 0 ∧ Bd k x ∧ Bd k y ∧ Bd k a ∧ Bd k b ∧ Bd k c ∧ k ≤ 1000 ∧ Q (frac (x * a + y * b) c)
def spHalfAt : DSp := fun ds Q => ∃ (x y a b c : Int) (k : Nat), ds = [fr x y, pl a b c] ∧ ¬ (x = 0 ∧ y = 0) ∧ c ≠ 0 ∧ Bd k x ∧ Bd k y ∧ Bd k a ∧ Bd k b ∧ Bd k c ∧ k ≤ 1000 ∧ Q (halfv (x * c) (y * c) (x * a + y * b))
def spHalfFrom : DSp := fun ds Q => ∃ (x y z t : Int) (k : Nat), ds = [fr x y, fr z t] ∧ ¬ (x = 0 ∧ y = 0) ∧ t ≠ 0 ∧ Bd k x ∧ Bd k y ∧ Bd k z ∧ Bd k t ∧ k ≤ 1000 ∧ Q (halfv (x * t) (y * t) z)
def spCross : DSp := fun ds Q => ∃ (a b c d e g : Int) (k : Nat), ds = [pl a b c, pl d e g] ∧ Bd k a ∧ Bd k b ∧ Bd k c ∧ Bd k d ∧ Bd k e ∧ Bd k g ∧ k ≤ 1000 ∧ (a * e - d * b = 0 → Q .none) ∧ (a * e - d * b ≠ 0 → Q (plc (c * e - g * b) (a * g - d * c) (a * e - d * b)))
def spHR : DSp := fun ds Q => ∃ x y a b c d e g : Int, ds = [SRC, fr x y, pl a b c, pl d e g] ∧ Dr 31 x y ∧ Pl 31 a b c ∧ Pl 31 d e g ∧ Q (.bool true)
def spLR : DSp := fun ds Q => ∃ a b c d e g h i j : Int, ds = [pl a b c, pl d e g, pl h i j] ∧ Pl 31 a b c ∧ Pl 31 d e g ∧ Pl 31 h i j ∧ pl a b c ≠ pl d e g ∧ pl a b c ≠ pl h i j ∧ Q (.bool true)
theorem halfv_form {a b c : Int} {k : Nat} (h : ¬ (a = 0 ∧ b = 0)) (ha : Bd k a) (hb : Bd k b) (hc : Bd k c) : ∃ u v w G : Int, halfv a b c = pl u v w ∧ 0 < G ∧ a = G * u ∧ b = G * v ∧ c = G * w ∧ ¬ (u = 0 ∧ v = 0) ∧ g3 u v w = 1 ∧ Bd k u ∧ Bd k v ∧ Bd k w := by
  obtain ⟨u, v, w, e, h1, h2, h3, h4, h5⟩ := halfv_spec (c := c) h
  obtain ⟨b1, b2, b3⟩ := halfv_bd ha hb hc h e
  have g0 := g3h_pos (c := c) h
  exact ⟨u, v, w, g3 a b c, e, by omega, h3, h4, h5, h1, h2, b1, b2, b3⟩
/-- half planes along one direction, through places of one height, are one -/
theorem halfv_congr {x y c h c' h' : Int} (h0 : ¬ (x = 0 ∧ y = 0)) (hc : 0 < c) (hc' : 0 < c') (e : h * c' = h' * c) : halfv (x * c) (y * c) h = halfv (x * c') (y * c') h' := by
  have n1 : ¬ (x * c = 0 ∧ y * c = 0) := fun z => h0 ⟨by rcases Int.mul_eq_zero.mp z.1 with q | q <;> omega, by rcases Int.mul_eq_zero.mp z.2 with q | q <;> omega⟩
  have n2 : ¬ (x * c' = 0 ∧ y * c' = 0) := fun z => h0 ⟨by rcases Int.mul_eq_zero.mp z.1 with q | q <;> omega, by rcases Int.mul_eq_zero.mp z.2 with q | q <;> omega⟩
  rw [← halfv_scale (c := h) n1 hc', ← halfv_scale (c := h') n2 hc, e, show x * c * c' = x * c' * c by grind, show y * c * c' = y * c' * c by grind]
theorem mul_ne2 {x y c : Int} (h0 : ¬ (x = 0 ∧ y = 0)) (hc : c ≠ 0) : ¬ (x * c = 0 ∧ y * c = 0) := fun z => h0 ⟨by rcases Int.mul_eq_zero.mp z.1 with q | q <;> omega, by rcases Int.mul_eq_zero.mp z.2 with q | q <;> omega⟩
theorem dirv_id {x y : Int} (g : Int.gcd x y = 1) : dirv x y = fr x y := by
  unfold dirv
  rw [g]
  have e : ∀ z : Int, z.fdiv ((1 : Nat) : Int) = z := fun z => Int.fdiv_one z
  rw [e, e]
/-- the normal of a half plane made along a direction is this direction -/
theorem norm_dir {x y c A B G : Int} (g : Int.gcd x y = 1) (hc : 0 < c) (hG : 0 < G) (h1 : x * c = G * A) (h2 : y * c = G * B) (hn : ¬ (A = 0 ∧ B = 0)) : dirv A B = fr x y := by
  rw [← dirv_scale hn hG, Int.mul_comm A, Int.mul_comm B, ← h1, ← h2, dirv_scale (gcd_ne g) hc, dirv_id g]
theorem isHalf_ok {u v w : Int} (h : ¬ (u = 0 ∧ v = 0)) (g : g3 u v w = 1) : isHalf (pl u v w) = true := by
  rw [isHalf_3, g]
  rcases Decidable.not_and_iff_not_or_not.mp h with z | z <;> simp [z]
theorem zero_of {G z : Int} (hG : 0 < G) (h : G * z = 0) : z = 0 := by
  rcases Int.mul_eq_zero.mp h with q | q <;> omega
theorem nonneg_iff {G z : Int} (hG : 0 < G) : 0 ≤ G * z ↔ 0 ≤ z := by
  constructor
  · intro h
    by_cases q : 0 ≤ z
    · exact q
    · have := Int.mul_neg_of_pos_of_neg hG (show z < 0 by omega)
      omega
  · exact fun h => Int.mul_nonneg (by omega) h
theorem nonpos_iff {G z : Int} (hG : 0 < G) : G * z ≤ 0 ↔ z ≤ 0 := by
  have := nonneg_iff (z := -z) hG
  rw [Int.mul_neg] at this
  omega
/-- excess beside a half plane through height h / c' (along x, y): as heights are -/
theorem excess_sign {x y t z A B C G a b c : Int} (h1 : x * t = G * A) (h2 : y * t = G * B) (h3 : z = G * C) : G * excess A B C a b c = t * (x * a + y * b) - z * c := by
  unfold excess
  have : G * (A * a + B * b - C * c) = (G * A) * a + (G * B) * b - (G * C) * c := by grind
  rw [this, ← h1, ← h2, ← h3]; grind
/-- the place on two lines that are not parallel -/
theorem cross_at {a b c d e g h i j : Int} (hj : 0 < j) (hg : g3 h i j = 1) (h1 : excess a b c h i j = 0) (h2 : excess d e g h i j = 0) (hn : a * e - d * b ≠ 0) : plc (c * e - g * b) (a * g - d * c) (a * e - d * b) = pl h i j := by
  unfold excess at h1 h2
  have q1 : c * j = a * h + b * i := by omega
  have q2 : g * j = d * h + e * i := by omega
  refine plc_eq hn hj hg ?_ ?_
  · have : (c * e - g * b) * j = (c * j) * e - (g * j) * b := by grind
    rw [this, q1, q2]; grind
  · have : (a * g - d * c) * j = a * (g * j) - d * (c * j) := by grind
    rw [this, q1, q2]; grind
theorem turn_eq {a b c d e g h i j : Int} (hc : 0 < c) : Int.sign ((d * c - a * g) * (i * c - b * j) - (e * c - b * g) * (h * c - a * j)) = Int.sign (detP a b c d e g h i j) := by
  refine sign_scale (p := 1) (q := c) (by decide) hc ?_
  unfold detP; grind
theorem sign_gt (x y : Int) : (if decide (y < x) = true then (1 : Int) else 0) - (if decide (x < y) = true then 1 else 0) = Int.sign (x - y) := by
  have := sign_eq (x - y)
  rw [← this]
  have e1 : decide (y < x) = decide (0 < x - y) := decide_eq_decide.mpr (by omega)
  have e2 : decide (x < y) = decide (x - y < 0) := decide_eq_decide.mpr (by omega)
  rw [e1, e2]
theorem sign_nonneg {x : Int} : 0 ≤ Int.sign x ↔ 0 ≤ x := by
  rcases Int.lt_trichotomy x 0 with h | h | h
  · rw [Int.sign_eq_neg_one_of_neg h]; omega
  · subst h; decide
  · rw [Int.sign_eq_one_of_pos h]; omega
theorem sign_zero {x : Int} : Int.sign x = 0 ↔ x = 0 := by
  rcases Int.lt_trichotomy x 0 with h | h | h
  · rw [Int.sign_eq_neg_one_of_neg h]; omega
  · subst h; decide
  · rw [Int.sign_eq_one_of_pos h]; omega
theorem sh_bb {a b : Bool} : SeqAt.shaped (.list [.bool a, .bool b]) = true := by cases a <;> cases b <;> decide
end PH
namespace PH
open PySem PySem.Spec L2
theorem far_math {x y a b c m n s0 s1 s2 f0 f1 f2 : Int} (hn : n ≠ 0) (hs : s2 ≠ 0) (h1 : s0 * (1 * n) = -y * m * s2) (h2 : s1 * (1 * n) = x * m * s2) (h3 : f0 * (c * s2) = (a * s2 + s0 * c) * f2) (h4 : f1 * (c * s2) = (b * s2 + s1 * c) * f2) : (x * f0 + y * f1) * c = (x * a + y * b) * f2 := by
  have z : x * s0 + y * s1 = 0 := by
    have : (x * s0 + y * s1) * n = 0 := by
      have e : (x * s0 + y * s1) * n = x * (s0 * (1 * n)) + y * (s1 * (1 * n)) := by grind
      rw [e, h1, h2]; grind
    rcases Int.mul_eq_zero.mp this with q | q
    · exact q
    · exact absurd q hn
  refine Int.eq_of_mul_eq_mul_right hs ?_
  have e : (x * f0 + y * f1) * c * s2 = x * (f0 * (c * s2)) + y * (f1 * (c * s2)) := by grind
  rw [e, h3, h4]
  have e2 : x * ((a * s2 + s0 * c) * f2) + y * ((b * s2 + s1 * c) * f2) = (x * a + y * b) * f2 * s2 + c * f2 * (x * s0 + y * s1) := by grind
  rw [e2, z]; grind
theorem up_math {x y a b c h0 h1 h2 X Y x1 y1 : Int} (hne : ¬ (x = 0 ∧ y = 0)) (hc : 0 < c) (hh : 0 < h2) (hy : 0 < y1) (e1 : x1 * c = (x * a + y * b) * y1) (e2 : X * h2 = (x * h0 + y * h1) * Y) (e3 : h0 * (c * 1) = (a * 1 + x * c) * h2) (e4 : h1 * (c * 1) = (b * 1 + y * c) * h2) : (decide (X = x1) && decide (Y = y1)) = false := by
  cases z : (decide (X = x1) && decide (Y = y1)) with
  | false => rfl
  | true =>
    exfalso
    simp only [Bool.and_eq_true, decide_eq_true_eq] at z
    obtain ⟨rfl, rfl⟩ := z
    have p := sq_pos hne
    have k : X * c * h2 = (x * (h0 * (c * 1)) + y * (h1 * (c * 1))) * Y := by
      have : X * c * h2 = (X * h2) * c := by grind
      rw [this, e2]; grind
    rw [e1, e3, e4] at k
    have : (x * x + y * y) * (c * h2 * Y) = 0 := by grind
    have q := Int.mul_pos p (Int.mul_pos (Int.mul_pos hc hh) hy)
    omega
theorem hle {x1 y1 x2 y2 c g H1 H2 : Int} (hc : 0 < c) (hg : 0 < g) (p1 : 0 < y1) (p2 : 0 < y2) (e1 : x1 * c = H1 * y1) (e2 : x2 * g = H2 * y2) : 0 ≤ c * H2 - H1 * g ↔ ¬ x2 * y1 < x1 * y2 := by
  have k : (x2 * y1 - x1 * y2) * (g * c) = (y1 * y2) * (c * H2 - H1 * g) := by
    have : (x2 * y1 - x1 * y2) * (g * c) = (x2 * g) * (y1 * c) - (x1 * c) * (y2 * g) := by grind
    rw [this, e1, e2]; grind
  have n1 := nonneg_iff (z := c * H2 - H1 * g) (Int.mul_pos p1 p2)
  have n2 := nonneg_iff (z := x2 * y1 - x1 * y2) (Int.mul_pos hg hc)
  rw [Int.mul_comm (g * c), k] at n2
  omega
theorem hle2 {x1 y1 c H1 t z : Int} (hc : 0 < c) (p1 : 0 < y1) (e1 : x1 * c = H1 * y1) : (0 ≤ t * H1 - z * c ↔ ¬ x1 * t < z * y1) ∧ (t * H1 - z * c ≤ 0 ↔ ¬ z * y1 < x1 * t) := by
  have k : c * (x1 * t - z * y1) = y1 * (t * H1 - z * c) := by
    have : c * (x1 * t - z * y1) = (x1 * c) * t - z * y1 * c := by grind
    rw [this, e1]; grind
  have n1 := nonneg_iff (z := t * H1 - z * c) p1
  have n2 := nonneg_iff (z := x1 * t - z * y1) hc
  have n3 := nonpos_iff (z := t * H1 - z * c) p1
  have n4 := nonpos_iff (z := x1 * t - z * y1) hc
  rw [k] at n2 n4
  omega
theorem dec_not {P Q : Prop} [Decidable P] [Decidable Q] (h : P ↔ ¬ Q) : decide P = !decide Q := by
  by_cases q : Q
  · rw [decide_eq_true q, decide_eq_false (fun z => h.mp z q)]; rfl
  · rw [decide_eq_false q, decide_eq_true (h.mpr q)]; rfl
/-- a line through a place, square to the way across -/
theorem line_at {X Y a b c : Int} (h : ¬ (X = 0 ∧ Y = 0)) (hX : Bd 63 X) (hY : Bd 63 Y) (hp : Pl 31 a b c) : ∃ s t γ A B C G : Int, dirv X Y = fr s t ∧ Dr 63 s t ∧ X = s * γ ∧ Y = t * γ ∧ 0 < γ ∧ halfv (-t * c) (s * c) (-t * a + s * b) = pl A B C ∧ 0 < G ∧ -t * c = G * A ∧ s * c = G * B ∧ -t * a + s * b = G * C ∧
    ¬ (A = 0 ∧ B = 0) ∧ Bd 95 A ∧ Bd 95 B ∧ Bd 95 C ∧ excess A B C a b c = 0 := by
  obtain ⟨s, t, e, D, e1, e2⟩ := dirv_Dr h hX hY
  obtain ⟨pc, _, A, B, C⟩ := hp
  have g0 := g2_pos h
  have nt : Bd 63 (-t) := @bd_neg _ _ D.2.2
  have ne := mul_ne2 (x := -t) (y := s) (c := c) (fun z => D.ne (by omega)) (by omega)
  obtain ⟨u, v, w, G, e3, g1, h1, h2, h3, h4, _, b1, b2, b3⟩ := halfv_form (k := 95) (c := -t * a + s * b) ne ((@bd_mul 63 31 _ _ nt C).mono (by decide)) ((@bd_mul 63 31 _ _ D.2.1 C).mono (by decide)) (bd_add2 (a := 94) (@bd_mul 63 31 _ _ nt A) (@bd_mul 63 31 _ _ D.2.1 B))
  · refine ⟨s, t, Int.gcd X Y, u, v, w, G, e, D, e1, e2, by omega, e3, g1, h1, h2, h3, h4, b1, b2, b3, ?_⟩
    refine zero_of g1 ?_
    have := excess_sign (x := -t) (y := s) (t := c) (z := -t * a + s * b) (a := a) (b := b) (c := c) h1 h2 h3
    rw [this]; grind
/-- how two such lines lie -/
theorem lines_cross {s t γ A B G s' t' γ' A' B' G' c c' X Y X' Y' : Int} (h1 : -t * c = G * A) (h2 : s * c = G * B) (h3 : -t' * c' = G' * A') (h4 : s' * c' = G' * B') (e1 : X = s * γ) (e2 : Y = t * γ) (e3 : X' = s' * γ') (e4 : Y' = t' * γ') :
    (γ * γ' * (G * G')) * (A * B' - A' * B) = (c * c') * (X * Y' - Y * X') := by
  subst e1; subst e2; subst e3; subst e4
  have : (γ * γ' * (G * G')) * (A * B' - A' * B) = (γ * γ') * ((G * A) * (G' * B') - (G' * A') * (G * B)) := by grind
  rw [this, ← h1, ← h2, ← h3, ← h4]; grind
theorem on_step {s t γ A B C G a b c d e g X Y : Int} (hG : 0 < G) (hγ : 0 < γ) (h1 : -t * c = G * A) (h2 : s * c = G * B) (h3 : -t * a + s * b = G * C) (e1 : d * c - a * g = s * γ) (e2 : e * c - b * g = t * γ) : excess A B C d e g = 0 := by
  refine zero_of hG ?_
  have := excess_sign (x := -t) (y := s) (t := c) (z := -t * a + s * b) (a := d) (b := e) (c := g) h1 h2 h3
  rw [this]
  have k : c * (-t * d + s * e) - (-t * a + s * b) * g = -t * (d * c - a * g) + s * (e * c - b * g) := by grind
  rw [k, e1, e2]; grind
theorem side_step {s t γ A B C G a b c h i j X Y : Int} (h1 : -t * c = G * A) (h2 : s * c = G * B) (h3 : -t * a + s * b = G * C) (e1 : X = s * γ) (e2 : Y = t * γ) : (γ * G) * excess A B C h i j = X * (i * c - b * j) - Y * (h * c - a * j) := by
  have := excess_sign (x := -t) (y := s) (t := c) (z := -t * a + s * b) (a := h) (b := i) (c := j) h1 h2 h3
  have k : (γ * G) * excess A B C h i j = γ * (G * excess A B C h i j) := by grind
  rw [k, this, e1, e2]; grind
theorem sh_pls2 {a b c d e g : Int} : SeqAt.shaped (.list [pl a b c, pl d e g]) = true := by simp [SeqAt.shaped, PyData.canLay0, PyData.canLayAll0, PyData.depth, PyData.depthAll]
theorem dNe_e2 {a b c d e g : Int} {Q : D → Prop} (h : Q (.bool true)) : dNe (.list [pl a b c, pl d e g]) (.list []) Q := by
  refine ⟨sh_pls2, by decide, ?_⟩
  have : PyData.eqv (.list [pl a b c, pl d e g]) (.list []) = false := by simp [PyData.eqv, PyData.eqvAll]
  rw [this]; exact h
theorem neg_excess {a b c x y d : Int} : excess (-a) (-b) (-c) x y d = -excess a b c x y d := by unfold excess; grind
end PH
namespace PH
open PySem PySem.Spec L2
theorem Bd.cast {k : Nat} {x y : Int} (h : Bd k x) (e : x = y) : Bd k y := e ▸ h
theorem sum_math {x y a b c d e g m0 m1 m2 x1 y1 x2 y2 : Int} (cg : c * g ≠ 0) (e1 : x1 * c = (x * a + y * b) * y1) (e2 : x2 * g = (x * d + y * e) * y2) (h0 : m0 * (c * g) = (a * g + d * c) * m2) (h1 : m1 * (c * g) = (b * g + e * c) * m2) : (x * m0 + y * m1) * (y1 * y2) = (x1 * y2 + x2 * y1) * m2 := by
  refine Int.eq_of_mul_eq_mul_right cg ?_
  have k1 : (x * m0 + y * m1) * (y1 * y2) * (c * g) = (x * (m0 * (c * g)) + y * (m1 * (c * g))) * (y1 * y2) := by grind
  have k2 : (x1 * y2 + x2 * y1) * m2 * (c * g) = ((x1 * c) * (y2 * g) + (x2 * g) * (y1 * c)) * m2 := by grind
  rw [k1, k2, h0, h1, e1, e2]; grind
theorem dif_math {x y a b c d e g m0 m1 m2 x1 y1 x2 y2 : Int} (cg : c * g ≠ 0) (e1 : x1 * c = (x * a + y * b) * y1) (e2 : x2 * g = (x * d + y * e) * y2) (h0 : m0 * (c * g) = (a * g - d * c) * m2) (h1 : m1 * (c * g) = (b * g - e * c) * m2) : (-x * m0 + -y * m1) * (y2 * y1) = (x2 * y1 - x1 * y2) * m2 := by
  refine Int.eq_of_mul_eq_mul_right cg ?_
  have k1 : (-x * m0 + -y * m1) * (y2 * y1) * (c * g) = (-x * (m0 * (c * g)) + -y * (m1 * (c * g))) * (y2 * y1) := by grind
  have k2 : (x2 * y1 - x1 * y2) * m2 * (c * g) = ((x2 * g) * (y1 * c) - (x1 * c) * (y2 * g)) * m2 := by grind
  rw [k1, k2, h0, h1, e1, e2]; grind
end PH
namespace PH
open PySem PySem.Spec L2
theorem two_det {a b c d e g h i j : Int} : (c * c) * ((d * c - a * g) * (i * c - b * j) - (e * c - b * g) * (h * c - a * j)) = (c * c) * (c * detP a b c d e g h i j) := by unfold detP; grind
theorem tri_det {a b c d e g h i j : Int} : (j * j) * ((a * j - h * c) * (e * j - i * g) - (b * j - i * c) * (d * j - h * g)) = (j * j) * (j * detP a b c d e g h i j) := by unfold detP; grind
/-- an if that lets go on nowhere where it is taken -/
theorem dIf_b2 {c : DT} {t rest : DS} {Dd : DEnds} {σd : DSt} (b : Bool) (hc : ∀ R : Bool → Prop, R b → c σd R) (ht : b = true → ∀ N : DSt → Prop, t { Dd with nx := N } σd) (hr : b = false → rest Dd σd) : dSeq (dIf c t dNext) rest Dd σd :=
  hc _ (by cases b with
    | true => exact iteT (ht rfl _)
    | false => exact iteF (hr rfl))
end PH
namespace PH
theorem nc1 (A B : Int) : A * -B - -A * B = 0 := by grind
theorem nc2 (A B A' B' : Int) : A' * -B - -A * B' = A * B' - A' * B := by grind
theorem nc3 (A B A' B' : Int) : -A' * B - A * -B' = A * B' - A' * B := by grind
theorem par_math {A B A' B' G α β δ j : Int} (m1 : α * j = G * A') (m2 : β * j = G * B') (e1 : A = α * δ) (e2 : B = β * δ) : G * (A * B' - A' * B) = 0 := by
  have k : G * (A * B' - A' * B) = A * (G * B') - (G * A') * B := by grind
  rw [k, ← m1, ← m2, e1, e2]; grind
end PH
namespace PH
open PySem PySem.Spec L2
theorem eqv_pp {a b c d e g : Int} : PyData.eqv (pl a b c) (pl d e g) = (decide (a = d) && (decide (b = e) && decide (c = g))) := by
  simp only [PyData.eqv, PyData.eqvAll, Bool.and_true]; rfl
theorem dIn_plT {j k l : Nat} {a b c d e g h i m : Int} {Q : D → Prop} (hp : Pl j a b c) (hq : Pl k d e g) (hr : Pl l h i m) (h1 : pl a b c ≠ pl d e g → pl a b c ≠ pl h i m → Q (.bool true)) (h2 : Q (.bool false)) : dIn true (pl a b c) (.tuple [pl d e g, pl h i m]) Q := by
  refine ⟨sh_iii, sh_pls2, ?_⟩
  rw [if_pos rfl]
  simp only [List.any_cons, List.any_nil, Bool.or_false, eqv_pp]
  cases z : ((decide (d = a) && (decide (e = b) && decide (g = c))) || (decide (h = a) && (decide (i = b) && decide (m = c)))) with
  | true => exact h2
  | false =>
    refine h1 (fun y => ?_) (fun y => ?_)
    · simp only [PyData.tuple.injEq, List.cons.injEq, PyData.int.injEq, and_true] at y
      obtain ⟨rfl, rfl, rfl⟩ := y
      simp at z
    · simp only [PyData.tuple.injEq, List.cons.injEq, PyData.int.injEq, and_true] at y
      obtain ⟨rfl, rfl, rfl⟩ := y
      simp at z
end PH

/-! Fractions in order; looks of stretches: what is told by heights and gaps, told by ends. -/
namespace PH
/-! ### sorted lists -/
section
variable {α : Type} [DecidableEq α] (lt : α → α → Bool)
def Srt (xs : List α) : Prop := xs.Pairwise fun x y => lt x y = true
def insT (xs : List α) (h : α) : List α := if h ∈ xs then xs else xs.filter (fun x => lt x h) ++ [h] ++ xs.drop (xs.filter fun x => lt x h).length
def ordT (hs : List α) : List α := hs.foldl (insT lt) []
variable {lt} (trans : ∀ x y z, lt x y = true → lt y z = true → lt x z = true) (tot : ∀ x y, x ≠ y → lt y x = !lt x y) (irr : ∀ x, lt x x = false)
include trans tot
theorem ins_pre {u : α} : ∀ {xs : List α}, Srt lt xs → u ∉ xs → ∃ m, xs.filter (fun x => lt x u) = xs.take m ∧ (∀ x ∈ xs.take m, lt x u = true) ∧ (∀ x ∈ xs.drop m, lt u x = true) ∧ m = (xs.filter (fun x => lt x u)).length
  | [], _, _ => ⟨0, by simp⟩
  | x :: xs, hp, hn => by
    have hne : x ≠ u := fun z => hn (by simp [z])
    unfold Srt at hp
    rw [List.pairwise_cons] at hp
    cases e : lt x u with
    | true =>
      obtain ⟨m, h1, h2, h3, h4⟩ := ins_pre (u := u) hp.2 (fun z => hn (by simp [z]))
      refine ⟨m + 1, by simp [List.filter_cons, e, h1], ?_, by simpa using h3, by simp only [List.filter_cons, e, if_true, List.length_cons]; omega⟩
      intro y hy
      simp only [List.take_succ_cons, List.mem_cons] at hy
      rcases hy with rfl | hy
      · exact e
      · exact h2 y hy
    | false =>
      have ux : lt u x = true := by rw [tot x u hne, e]; rfl
      have al : ∀ y ∈ xs, lt u y = true := fun y hy => trans _ _ _ ux (hp.1 y hy)
      have no : ∀ y ∈ xs, lt y u = false := fun y hy => by
        rw [tot u y (fun z => hn (by simp [z, hy])), al y hy]; rfl
      have fe : xs.filter (fun x => lt x u) = [] := List.filter_eq_nil_iff.mpr fun y hy => by rw [no y hy]; simp
      refine ⟨0, by simp [List.filter_cons, e, fe], by simp, ?_, by simp [List.filter_cons, e, fe]⟩
      intro y hy
      simp only [List.drop_zero, List.mem_cons] at hy
      rcases hy with rfl | hy
      · exact ux
      · exact al y hy
theorem ins_ok {u : α} {xs : List α} (hp : Srt lt xs) : Srt lt (insT lt xs u) ∧ (∀ x, x ∈ insT lt xs u ↔ x = u ∨ x ∈ xs) ∧ (insT lt xs u).length ≤ xs.length + 1 := by
  unfold insT
  by_cases hn : u ∈ xs
  · rw [if_pos hn]
    exact ⟨hp, fun x => ⟨.inr, fun z => z.elim (fun y => y ▸ hn) id⟩, by omega⟩
  rw [if_neg hn]
  obtain ⟨m, h1, h2, h3, h4⟩ := ins_pre trans tot hp hn
  rw [← h4, h1]
  refine ⟨?_, fun x => ?_, ?_⟩
  · unfold Srt at *
    rw [List.pairwise_append, List.pairwise_append]
    refine ⟨⟨hp.sublist (List.take_sublist m xs), by simp, fun x hx y hy => ?_⟩, hp.sublist (List.drop_sublist m xs), fun x hx y hy => ?_⟩
    · simp at hy; subst hy; exact h2 x hx
    · rcases List.mem_append.mp hx with hx | hx
      · exact trans _ _ _ (h2 x hx) (h3 y hy)
      · simp at hx; subst hx; exact h3 y hy
  · have e := List.take_append_drop m xs
    have : x ∈ xs ↔ x ∈ xs.take m ∨ x ∈ xs.drop m := by rw [← List.mem_append, e]
    simp only [List.mem_append, List.mem_cons, List.not_mem_nil, or_false, this]
    grind
  · simp only [List.length_append, List.length_cons, List.length_nil, List.length_take, List.length_drop]; omega
theorem ord_ok (hs : List α) : Srt lt (ordT lt hs) ∧ (∀ x, x ∈ ordT lt hs ↔ x ∈ hs) ∧ (ordT lt hs).length ≤ hs.length := by
  have key : ∀ (hs xs : List α), Srt lt xs → Srt lt (hs.foldl (insT lt) xs) ∧ (∀ x, x ∈ hs.foldl (insT lt) xs ↔ x ∈ hs ∨ x ∈ xs) ∧ (hs.foldl (insT lt) xs).length ≤ hs.length + xs.length := fun hs => by
    induction hs with
    | nil => exact fun xs h => ⟨h, fun x => by simp, by simp⟩
    | cons u us ih =>
      intro xs h
      obtain ⟨a, b, c⟩ := ins_ok trans tot (u := u) h
      obtain ⟨a', b', c'⟩ := ih _ a
      refine ⟨a', fun x => ?_, by simp only [List.foldl_cons, List.length_cons]; omega⟩
      rw [List.foldl_cons, b', b]
      simp only [List.mem_cons]
      grind
  obtain ⟨a, b, c⟩ := key hs [] (by unfold Srt; simp)
  exact ⟨a, fun x => by rw [show ordT lt hs = hs.foldl (insT lt) [] from rfl, b]; simp, by show (hs.foldl (insT lt) []).length ≤ hs.length; simpa only [List.length_nil, Nat.add_zero] using c⟩
omit tot in
include irr in
/-- sorted lists with the same members are one -/
theorem srt_ext : ∀ {xs ys : List α}, Srt lt xs → Srt lt ys → (∀ x, x ∈ xs ↔ x ∈ ys) → xs = ys
  | [], [], _, _, _ => rfl
  | [], y :: ys, _, _, h => by have := (h y).mpr (by simp); simp at this
  | x :: xs, [], _, _, h => by have := (h x).mp (by simp); simp at this
  | x :: xs, y :: ys, hx, hy, h => by
    unfold Srt at hx hy
    rw [List.pairwise_cons] at hx hy
    have e : x = y := by
      rcases List.mem_cons.mp ((h x).mp (by simp)) with z | z
      · exact z
      · rcases List.mem_cons.mp ((h y).mpr (by simp)) with z' | z'
        · exact z'.symm
        · have q := trans _ _ _ (hx.1 y z') (hy.1 x z)
          rw [irr] at q; cases q
    subst e
    have nx : x ∉ xs := fun z => by have := hx.1 x z; rw [irr] at this; cases this
    have ny : x ∉ ys := fun z => by have := hy.1 x z; rw [irr] at this; cases this
    refine congrArg (x :: ·) (srt_ext hx.2 hy.2 fun z => ?_)
    have := h z
    simp only [List.mem_cons] at this
    constructor
    · intro q
      rcases this.mp (.inr q) with w | w
      · subst w; exact absurd q nx
      · exact w
    · intro q
      rcases this.mpr (.inr q) with w | w
      · subst w; exact absurd q ny
      · exact w
end
/-! ### fractions -/
structure Fq where
  p : Int
  q : Int
  pos : 0 < q
  cop : Int.gcd p q = 1
deriving DecidableEq
namespace Fq
def lt (x y : Fq) : Bool := decide (x.p * y.q < y.p * x.q)
theorem ext' {x y : Fq} (h1 : x.p = y.p) (h2 : x.q = y.q) : x = y := by
  cases x; cases y; simp at h1 h2; subst h1; subst h2; rfl
theorem irr (x : Fq) : lt x x = false := decide_eq_false (by omega)
theorem tot (x y : Fq) (h : x ≠ y) : lt y x = !lt x y := by
  unfold lt
  rcases Int.lt_trichotomy (x.p * y.q) (y.p * x.q) with z | z | z
  · rw [decide_eq_true z, decide_eq_false (by omega)]; rfl
  · exfalso
    obtain ⟨e1, e2⟩ := form_uniq x.pos y.pos x.cop y.cop z
    exact h (ext' e1 e2)
  · rw [decide_eq_true z, decide_eq_false (by omega)]; rfl
theorem trans (x y z : Fq) (h1 : lt x y = true) (h2 : lt y z = true) : lt x z = true := by
  unfold lt at *
  have a := of_decide_eq_true h1
  have b := of_decide_eq_true h2
  refine decide_eq_true ?_
  have m1 := Int.mul_lt_mul_of_pos_right a z.pos
  have m2 := Int.mul_lt_mul_of_pos_right b x.pos
  have e : x.p * z.q * y.q < z.p * x.q * y.q := by
    have e1 : x.p * z.q * y.q = x.p * y.q * z.q := by grind
    have e2 : y.p * x.q * z.q = y.p * z.q * x.q := by grind
    have e3 : z.p * x.q * y.q = z.p * y.q * x.q := by grind
    omega
  exact Int.lt_of_mul_lt_mul_right e (by have := y.pos; omega)
end Fq
end PH

/-! Looks of stretches: what is told by heights and gaps, told by ends. -/
namespace PH
section
variable {α : Type}
/-- a row of steps from the ends' weights -/
def recS (WL WH : α → Int) : Int → List α → List (α × Int × Int)
  | _, [] => []
  | a, h :: hs => (h, a + WL h, a + WL h - WH h) :: recS WL WH (a + WL h - WH h) hs
def stepsF : Int → List (α × Int × Int) → List (α × Int × Int)
  | _, [] => []
  | a, (h, x, b) :: r => (if x ≠ a ∨ b ≠ a then [(h, x, b)] else []) ++ stepsF b r
def botF : Int → List (α × Int × Int) → List (α × Int)
  | _, [] => []
  | a, (h, x, b) :: r => (if x ≠ a then [(h, x - a)] else []) ++ botF b r
def topF (s : List (α × Int × Int)) : List (α × Int) := (s.filter fun t => decide (t.2.1 ≠ t.2.2)).map fun t => (t.1, t.2.1 - t.2.2)
def sumF (s : List (α × Int × Int)) : Int := (s.map fun t => t.2.1 - t.2.2).sum
def endsW (W : α → Int) (hs : List α) : List (α × Int) := (hs.filter fun h => decide (W h ≠ 0)).map fun h => (h, W h)
variable {WL WH : α → Int}
theorem steps_rec : ∀ (hs : List α) (a : Int), stepsF a (recS WL WH a hs) = recS WL WH a (hs.filter fun h => decide (WL h ≠ 0) || decide (WH h ≠ 0))
  | [], _ => rfl
  | h :: hs, a => by
    simp only [recS, stepsF, List.filter_cons]
    by_cases e1 : WL h = 0
    · by_cases e2 : WH h = 0
      · rw [if_neg (by omega), if_neg (by simp [e1, e2]), List.nil_append, show a + WL h - WH h = a by omega]
        exact steps_rec hs a
      · rw [if_pos (by omega), if_pos (by simp [e2])]
        simp only [recS, List.cons_append, List.nil_append]
        rw [steps_rec hs]
    · rw [if_pos (by omega), if_pos (by simp [e1])]
      simp only [recS, List.cons_append, List.nil_append]
      rw [steps_rec hs]
theorem top_rec : ∀ (hs : List α) (a : Int), topF (recS WL WH a hs) = endsW WH hs
  | [], _ => rfl
  | h :: hs, a => by
    have ih := top_rec hs (a + WL h - WH h)
    unfold topF endsW at *
    simp only [recS, List.filter_cons]
    by_cases e2 : WH h = 0
    · rw [if_neg (by simp [e2]), if_neg (by simp [e2])]; exact ih
    · rw [if_pos (by simp; omega), if_pos (by simp [e2]), List.map_cons, List.map_cons, ih]
      congr 2; show a + WL h - (a + WL h - WH h) = WH h; omega
theorem bot_rec : ∀ (hs : List α) (a : Int), botF a (recS WL WH a hs) = endsW WL hs
  | [], _ => rfl
  | h :: hs, a => by
    have ih := bot_rec hs (a + WL h - WH h)
    unfold endsW at *
    simp only [recS, botF, List.filter_cons]
    by_cases e2 : WL h = 0
    · rw [if_neg (by omega), if_neg (by simp [e2])]; exact ih
    · rw [if_pos (by omega), if_pos (by simp [e2]), List.map_cons, ih]
      rw [show a + WL h - a = WL h by omega]; rfl
theorem sum_rec : ∀ (hs : List α) (a : Int), sumF (recS WL WH a hs) = (hs.map WH).sum
  | [], _ => rfl
  | h :: hs, a => by
    have ih := sum_rec hs (a + WL h - WH h)
    unfold sumF at *
    simp only [recS, List.map_cons, List.sum_cons]
    rw [ih]; omega
theorem sum_filt (W : α → Int) (hs : List α) : ((endsW W hs).map (·.2)).sum = (hs.map W).sum := by
  induction hs with
  | nil => rfl
  | cons h hs ih =>
    unfold endsW at *
    simp only [List.filter_cons]
    by_cases e : W h = 0
    · rw [if_neg (by simp [e]), ih]; simp [e]
    · rw [if_pos (by simp [e])]; simp only [List.map_cons, List.sum_cons]; rw [ih]
theorem endsW_or (hs : List α) (p : α → Bool) (W : α → Int) (h : ∀ x, W x ≠ 0 → p x = true) : endsW W (hs.filter p) = endsW W hs := by
  unfold endsW
  rw [List.filter_filter]
  congr 1
  refine List.filter_congr fun x _ => ?_
  by_cases e : W x = 0
  · simp [e]
  · simp [e, h x e]
theorem rec_congr {WL' WH' : α → Int} : ∀ (hs : List α) (a : Int), (∀ h, WL h = WL' h) → (∀ h, WH h = WH' h) → recS WL WH a hs = recS WL' WH' a hs
  | [], _, _, _ => rfl
  | h :: hs, a, e1, e2 => by simp only [recS]; rw [e1, e2, rec_congr hs _ e1 e2]
end
/-! ### rows -/
structure Rw where
  lo : Fq
  hi : Fq
  w : Int
def le (x y : Fq) : Bool := !Fq.lt y x
theorem lt_of_le_lt {x y z : Fq} (h1 : le x y = true) (h2 : Fq.lt y z = true) : Fq.lt x z = true := by
  unfold le at h1
  by_cases e : x = y
  · rw [e]; exact h2
  · have t := Fq.tot x y e
    refine Fq.trans _ _ _ ?_ h2
    cases h : Fq.lt x y with
    | true => rfl
    | false => rw [h] at t; rw [t] at h1; cases h1
theorem lt_of_lt_le {x y z : Fq} (h1 : Fq.lt x y = true) (h2 : le y z = true) : Fq.lt x z = true := by
  unfold le at h2
  by_cases e : y = z
  · rw [← e]; exact h1
  · have := Fq.tot y z e
    refine Fq.trans _ _ _ h1 ?_
    cases h : Fq.lt y z with
    | true => rfl
    | false => rw [h] at this; rw [this] at h2; cases h2
theorem asym {x y : Fq} (h : Fq.lt x y = true) : Fq.lt y x = false := by
  cases e : Fq.lt y x with
  | false => rfl
  | true => have := Fq.trans _ _ _ h e; rw [Fq.irr] at this; cases this
theorem tri (x y : Fq) : Fq.lt x y = true ∨ x = y ∨ Fq.lt y x = true := by
  by_cases e : x = y
  · exact .inr (.inl e)
  · have := Fq.tot x y e
    cases h : Fq.lt x y with
    | true => exact .inl rfl
    | false => rw [h] at this; exact .inr (.inr this)
def sw (rows : List Rw) (p : Rw → Bool) : Int := ((rows.filter p).map Rw.w).sum
def val (rows : List Rw) (h : Fq) : Int := sw rows fun r => !Fq.lt h r.lo && !Fq.lt r.hi h
def wtL (rows : List Rw) (h : Fq) : Int := sw rows fun r => decide (r.lo = h)
def wtH (rows : List Rw) (h : Fq) : Int := sw rows fun r => decide (r.hi = h)
def vbe (rows : List Rw) (h : Fq) : Int := sw rows fun r => !Fq.lt h r.lo && Fq.lt h r.hi
def vah (rows : List Rw) (h : Fq) : Int := sw rows fun r => Fq.lt r.lo h && !Fq.lt r.hi h
theorem sw_cons (r : Rw) (rows : List Rw) (p : Rw → Bool) : sw (r :: rows) p = (if p r = true then r.w else 0) + sw rows p := by
  unfold sw
  rw [List.filter_cons]
  by_cases e : p r = true
  · rw [if_pos e, if_pos e]; simp
  · rw [if_neg e, if_neg e]; simp
theorem sw_congr {rows : List Rw} {p q : Rw → Bool} (h : ∀ r ∈ rows, p r = q r) : sw rows p = sw rows q := by
  unfold sw
  rw [List.filter_congr h]
theorem sw_none {rows : List Rw} {p : Rw → Bool} (h : ∀ r ∈ rows, p r = false) : sw rows p = 0 := by
  unfold sw
  rw [List.filter_eq_nil_iff.mpr fun r hr => by rw [h r hr]; simp]; rfl
theorem sw_split {rows : List Rw} {p q s : Rw → Bool} (h : ∀ r ∈ rows, (p r = true ∧ q r = true ∧ s r = false) ∨ (p r = true ∧ q r = false ∧ s r = true) ∨ (p r = false ∧ q r = false ∧ s r = false)) : sw rows p = sw rows q + sw rows s := by
  induction rows with
  | nil => rfl
  | cons r rows ih =>
    rw [sw_cons, sw_cons, sw_cons, ih fun r hr => h r (by simp [hr])]
    rcases h r (by simp) with ⟨a, b, c⟩ | ⟨a, b, c⟩ | ⟨a, b, c⟩ <;> simp [a, b, c] <;> omega
def RowsLe (rows : List Rw) : Prop := ∀ r ∈ rows, Fq.lt r.hi r.lo = false
theorem val_be {rows : List Rw} (R : RowsLe rows) (h : Fq) : val rows h = vbe rows h + wtH rows h := by
  refine sw_split fun r hr => ?_
  have z := R r hr
  rcases tri h r.lo with a | a | a
  · refine .inr (.inr ⟨by simp [a], by simp [a], decide_eq_false fun e => ?_⟩)
    rw [← e, z] at a; cases a
  · subst a
    rw [Fq.irr]
    rcases tri r.lo r.hi with b | b | b
    · exact .inl ⟨by simp [asym b], by simp [b], decide_eq_false fun e => by rw [e, Fq.irr] at b; cases b⟩
    · exact .inr (.inl ⟨by simp [← b, Fq.irr], by simp [← b, Fq.irr], decide_eq_true b.symm⟩)
    · rw [z] at b; cases b
  · rw [asym a]
    rcases tri h r.hi with b | b | b
    · exact .inl ⟨by simp [asym b], by simp [b], decide_eq_false fun e => by rw [e, Fq.irr] at b; cases b⟩
    · exact .inr (.inl ⟨by simp [← b, Fq.irr], by simp [← b, Fq.irr], decide_eq_true b.symm⟩)
    · exact .inr (.inr ⟨by simp [b], by simp [asym b], decide_eq_false fun e => by rw [e, Fq.irr] at b; cases b⟩)
theorem val_ah {rows : List Rw} (R : RowsLe rows) (h : Fq) : val rows h = vah rows h + wtL rows h := by
  refine sw_split fun r hr => ?_
  have z := R r hr
  rcases tri r.lo h with a | a | a
  · rw [asym a, a]
    cases e : Fq.lt r.hi h with
    | true => exact .inr (.inr ⟨by simp, by simp, decide_eq_false fun e => by rw [e, Fq.irr] at a; cases a⟩)
    | false => exact .inl ⟨by simp, by simp, decide_eq_false fun e => by rw [e, Fq.irr] at a; cases a⟩
  · subst a
    exact .inr (.inl ⟨by simp [Fq.irr, z], by simp [Fq.irr], decide_eq_true rfl⟩)
  · refine .inr (.inr ⟨by simp [a], by simp [asym a], decide_eq_false fun e => by rw [e, Fq.irr] at a; cases a⟩)
/-- between two following heights -/
theorem val_gap {rows : List Rw} {hs : List Fq} (M : ∀ r ∈ rows, r.lo ∈ hs ∧ r.hi ∈ hs) {h g : Fq} (hg : Fq.lt h g = true) (nx : ∀ x ∈ hs, Fq.lt h x = true → Fq.lt g x = true) : val rows g = vbe rows h := by
  refine sw_congr fun r hr => ?_
  obtain ⟨m1, m2⟩ := M r hr
  have key : ∀ x ∈ hs, Fq.lt g x = Fq.lt h x := fun x hx => by
    cases e : Fq.lt h x with
    | true => exact nx x hx e
    | false =>
      cases e' : Fq.lt g x with
      | false => rfl
      | true => rw [Fq.trans _ _ _ hg e'] at e; cases e
  have key2 : ∀ x ∈ hs, (!Fq.lt x g) = Fq.lt h x := fun x hx => by
    rw [← key x hx]
    rcases tri x g with a | a | a
    · rw [a, asym a]; rfl
    · exfalso
      subst a
      have := nx _ hx hg
      rw [Fq.irr] at this; cases this
    · rw [a, asym a]; rfl
  rw [key _ m1, key2 _ m2]
theorem vah_next {rows : List Rw} {hs : List Fq} (M : ∀ r ∈ rows, r.lo ∈ hs ∧ r.hi ∈ hs) {h h' : Fq} (hh : Fq.lt h h' = true) (nx : ∀ x ∈ hs, Fq.lt h x = true → Fq.lt x h' = false) : vah rows h' = vbe rows h := by
  refine sw_congr fun r hr => ?_
  obtain ⟨m1, m2⟩ := M r hr
  have key : ∀ x ∈ hs, Fq.lt x h' = !Fq.lt h x := fun x hx => by
    cases e : Fq.lt h x with
    | true => exact nx x hx e
    | false => exact lt_of_le_lt (by unfold le; rw [e]; rfl) hh
  rw [key _ m1, key _ m2, Bool.not_not]
def GapOk : List Fq → List Fq → Prop
  | [], [] => True
  | [h], [g] => Fq.lt h g = true
  | h :: h' :: hs, g :: gs => Fq.lt h g = true ∧ Fq.lt g h' = true ∧ GapOk (h' :: hs) gs
  | _, _ => False
def zipG (rows : List Rw) : List Fq → List Fq → List (Fq × Int × Int)
  | h :: hs, g :: gs => (h, val rows h, val rows g) :: zipG rows hs gs
  | _, _ => []
theorem zip_rec {rows : List Rw} (R : RowsLe rows) {all : List Fq} (M : ∀ r ∈ rows, r.lo ∈ all ∧ r.hi ∈ all) : ∀ (pre hs gs : List Fq), all = pre ++ hs → Srt Fq.lt all → GapOk hs gs → ∀ a, (∀ h, hs.head? = some h → a = vah rows h) → zipG rows hs gs = recS (wtL rows) (wtH rows) a hs
  | pre, [], [], _, _, _, _, _ => rfl
  | pre, [], _ :: _, _, _, h, _, _ => by simp [GapOk] at h
  | pre, [h], [], _, _, z, _, _ => by simp [GapOk] at z
  | pre, [h], [g], e, S, G, a, ha => by
    have e1 : val rows h = a + wtL rows h := by rw [ha h rfl, val_ah R]
    have e2 : val rows g = vbe rows h := val_gap M (h := h) G (fun x hx hl => by
      rw [e] at hx S
      unfold Srt at S
      rw [List.pairwise_append] at S
      rcases List.mem_append.mp hx with q | q
      · have := S.2.2 x q h (by simp); rw [asym this] at hl; cases hl
      · simp at q; subst q; rw [Fq.irr] at hl; cases hl)
    have e3 := val_be R h
    simp only [zipG, recS]
    rw [e2, e1, show vbe rows h = a + wtL rows h - wtH rows h by omega]
  | pre, [h], _ :: _ :: _, _, _, z, _, _ => by simp [GapOk] at z
  | pre, h :: h' :: hs, [], _, _, z, _, _ => by simp [GapOk] at z
  | pre, h :: h' :: hs, g :: gs, e, S, G, a, ha => by
    obtain ⟨g1, g2, g3⟩ := G
    have pw := S
    rw [e] at pw
    unfold Srt at pw
    rw [List.pairwise_append] at pw
    have S2 := pw.2.1
    rw [List.pairwise_cons, List.pairwise_cons] at S2
    have pos : ∀ x ∈ all, Fq.lt h x = true → x = h' ∨ Fq.lt h' x = true := fun x hx hl => by
      rw [e] at hx
      rcases List.mem_append.mp hx with q | q
      · have := pw.2.2 x q h (by simp); rw [asym this] at hl; cases hl
      · rcases List.mem_cons.mp q with q | q
        · subst q; rw [Fq.irr] at hl; cases hl
        · rcases List.mem_cons.mp q with q | q
          · exact .inl q
          · exact .inr (S2.2.1 x q)
    have e1 : val rows h = a + wtL rows h := by rw [ha h rfl, val_ah R]
    have e2 : val rows g = vbe rows h := val_gap M (h := h) g1 (fun x hx hl => by
      rcases pos x hx hl with q | q
      · rw [q]; exact g2
      · exact Fq.trans _ _ _ g2 q)
    have e3 := val_be R h
    have e4 : vah rows h' = vbe rows h := vah_next M (S2.1 h' (by simp)) (fun x hx hl => by
      rcases pos x hx hl with q | q
      · rw [q]; exact Fq.irr _
      · exact asym q)
    have ih := zip_rec R M (pre ++ [h]) (h' :: hs) gs (by rw [e]; simp) S g3 (a + wtL rows h - wtH rows h) (fun x hx => by
      simp at hx; subst hx; omega)
    simp only [zipG]
    rw [ih, e2, e1, show vbe rows h = a + wtL rows h - wtH rows h by omega]
    rfl
def hsOf (rows : List Rw) : List Fq := ordT Fq.lt (rows.map Rw.lo ++ rows.map Rw.hi)
theorem ord_srt (hs : List Fq) : Srt Fq.lt (ordT Fq.lt hs) := (ord_ok Fq.trans Fq.tot hs).1
theorem ord_mem (hs : List Fq) (x : Fq) : x ∈ ordT Fq.lt hs ↔ x ∈ hs := (ord_ok Fq.trans Fq.tot hs).2.1 x
theorem ord_len (hs : List Fq) : (ordT Fq.lt hs).length ≤ hs.length := (ord_ok Fq.trans Fq.tot hs).2.2
theorem hsOf_mem (rows : List Rw) : ∀ r ∈ rows, r.lo ∈ hsOf rows ∧ r.hi ∈ hsOf rows := fun r hr => by
  unfold hsOf
  rw [ord_mem, ord_mem]
  simp only [List.mem_append, List.mem_map]
  exact ⟨.inl ⟨r, hr, rfl⟩, .inr ⟨r, hr, rfl⟩⟩
theorem vah_first {rows : List Rw} {h : Fq} (S : (hsOf rows).head? = some h) : vah rows h = 0 := by
  refine sw_none fun r hr => ?_
  have m := (hsOf_mem rows r hr).1
  have s := ord_srt (rows.map Rw.lo ++ rows.map Rw.hi)
  change Srt Fq.lt (hsOf rows) at s
  cases e : hsOf rows with
  | nil => rw [e] at m; simp at m
  | cons x xs =>
    rw [e] at m S s
    simp at S; subst S
    unfold Srt at s
    rw [List.pairwise_cons] at s
    rcases List.mem_cons.mp m with q | q
    · rw [q, Fq.irr]; rfl
    · rw [asym (s.1 _ q)]; rfl
def stepsR (rows : List Rw) : List (Fq × Int × Int) := recS (wtL rows) (wtH rows) 0 ((hsOf rows).filter fun h => decide (wtL rows h ≠ 0) || decide (wtH rows h ≠ 0))
theorem steps_told {rows : List Rw} (R : RowsLe rows) {gs : List Fq} (G : GapOk (hsOf rows) gs) : stepsF 0 (zipG rows (hsOf rows) gs) = stepsR rows := by
  rw [zip_rec R (hsOf_mem rows) [] (hsOf rows) gs rfl (ord_srt _) G 0 fun h hh => (vah_first hh).symm]
  exact steps_rec _ _
theorem wt_mem {rows : List Rw} {key : Rw → Fq} {h : Fq} (n : sw rows (fun r => decide (key r = h)) ≠ 0) : h ∈ rows.map key := by
  rw [List.mem_map]
  refine Decidable.byContradiction fun z => n (sw_none fun r hr => decide_eq_false fun e => z ⟨r, hr, e⟩)
def endsR (rows : List Rw) (key : Rw → Fq) : List (Fq × Int) := endsW (fun h => sw rows fun r => decide (key r = h)) (ordT Fq.lt (rows.map key))
theorem endsW_ext {W : Fq → Int} {xs ys : List Fq} (hx : Srt Fq.lt xs) (hy : Srt Fq.lt ys) (h : ∀ x, W x ≠ 0 → x ∈ xs ∧ x ∈ ys) : endsW W xs = endsW W ys := by
  unfold endsW
  congr 1
  refine srt_ext (lt := Fq.lt) Fq.trans Fq.irr (hx.sublist List.filter_sublist) (hy.sublist List.filter_sublist) fun x => ?_
  simp only [List.mem_filter]
  constructor
  · rintro ⟨_, b⟩; exact ⟨(h x (by simpa using b)).2, b⟩
  · rintro ⟨_, b⟩; exact ⟨(h x (by simpa using b)).1, b⟩
theorem top_steps (rows : List Rw) : topF (stepsR rows) = endsR rows Rw.hi := by
  unfold stepsR
  rw [top_rec, endsW_or _ _ _ (fun x hx => by simp [hx])]
  refine endsW_ext (ord_srt _) (ord_srt _) fun x hx => ?_
  have m := wt_mem (key := Rw.hi) hx
  refine ⟨?_, (ord_mem _ _).mpr m⟩
  unfold hsOf
  rw [ord_mem, List.mem_append]; exact .inr m
theorem bot_steps (rows : List Rw) : botF 0 (stepsR rows) = endsR rows Rw.lo := by
  unfold stepsR
  rw [bot_rec, endsW_or _ _ _ (fun x hx => by simp [hx])]
  refine endsW_ext (ord_srt _) (ord_srt _) fun x hx => ?_
  have m := wt_mem (key := Rw.lo) hx
  refine ⟨?_, (ord_mem _ _).mpr m⟩
  unfold hsOf
  rw [ord_mem, List.mem_append]; exact .inl m
theorem srt_nodup {hs : List Fq} (h : Srt Fq.lt hs) : hs.Nodup := by
  unfold Srt at h
  exact h.imp fun {a b} hab e => by rw [e, Fq.irr] at hab; cases hab
theorem zero_sum {α : Type} (hs : List α) : (hs.map fun _ => (0 : Int)).sum = 0 := by induction hs with | nil => rfl | cons _ _ ih => simp [ih]
theorem one_in {hs : List Fq} (n : hs.Nodup) {x : Fq} (hx : x ∈ hs) (w : Int) : (hs.map fun h => if decide (x = h) = true then w else 0).sum = w := by
  induction hs with
  | nil => simp at hx
  | cons y ys ih =>
    rw [List.nodup_cons] at n
    simp only [List.map_cons, List.sum_cons]
    rcases List.mem_cons.mp hx with e | e
    · subst e
      have z : (ys.map fun h => if decide (x = h) = true then w else 0) = ys.map fun _ => 0 := List.map_congr_left fun h hh => if_neg (by simp; rintro rfl; exact n.1 hh)
      rw [z, if_pos (by simp)]
      rw [zero_sum]; omega
    · rw [if_neg (by simp; rintro rfl; exact n.1 e), ih n.2 e]; omega
theorem sum_add (hs : List Fq) (f g : Fq → Int) : (hs.map fun h => f h + g h).sum = (hs.map f).sum + (hs.map g).sum := by
  induction hs with
  | nil => rfl
  | cons h hs ih => simp only [List.map_cons, List.sum_cons]; rw [ih]; omega
theorem sum_all {key : Rw → Fq} {hs : List Fq} (n : hs.Nodup) : ∀ {rows : List Rw}, (∀ r ∈ rows, key r ∈ hs) → (hs.map fun h => sw rows fun r => decide (key r = h)).sum = (rows.map Rw.w).sum
  | [], _ => by
    have : (hs.map fun h => sw [] fun r => decide (key r = h)) = hs.map fun _ => 0 := rfl
    rw [this, zero_sum]; rfl
  | r :: rows, h => by
    have e : (hs.map fun h => sw (r :: rows) fun r => decide (key r = h)) = hs.map fun h => (if decide (key r = h) = true then r.w else 0) + sw rows fun r => decide (key r = h) := List.map_congr_left fun x _ => sw_cons r rows _
    rw [e, sum_add, one_in n (h r (by simp)), sum_all n fun r hr => h r (by simp [hr])]; simp
theorem sum_ends (rows : List Rw) (key : Rw → Fq) : ((endsR rows key).map (·.2)).sum = (rows.map Rw.w).sum := by
  unfold endsR
  rw [sum_filt]
  exact sum_all (srt_nodup (ord_srt _)) fun r hr => (ord_mem _ _).mpr (List.mem_map_of_mem hr)
theorem sum_top (s : List (Fq × Int × Int)) : ((topF s).map (·.2)).sum = sumF s := by
  induction s with
  | nil => rfl
  | cons t s ih =>
    unfold topF sumF at *
    simp only [List.filter_cons, List.map_cons, List.sum_cons]
    by_cases e : t.2.1 = t.2.2
    · rw [if_neg (by simp [e]), ih]; omega
    · rw [if_pos (by simp [e])]; simp only [List.map_cons, List.sum_cons]; rw [ih]
theorem sum_steps (rows : List Rw) : sumF (stepsR rows) = (rows.map Rw.w).sum := by
  rw [← sum_top, top_steps, sum_ends]
/-- rows with the ends of one stretch have that stretch's steps -/
theorem ends_wt {rows : List Rw} {key : Rw → Fq} {l : Fq} {w : Int} (h : endsR rows key = [(l, w)]) (x : Fq) : (sw rows fun r => decide (key r = x)) = if decide (l = x) = true then w else 0 := by
  have mem : ∀ x, (sw rows fun r => decide (key r = x)) ≠ 0 → (x, sw rows fun r => decide (key r = x)) ∈ endsR rows key := fun x n => by
    unfold endsR endsW
    rw [List.mem_map]
    exact ⟨x, by rw [List.mem_filter]; exact ⟨(ord_mem _ _).mpr (wt_mem n), by simpa using n⟩, rfl⟩
  have self : (sw rows fun r => decide (key r = l)) = w := by
    have z : (l, w) ∈ endsR rows key := by rw [h]; simp
    unfold endsR endsW at z
    rw [List.mem_map] at z
    obtain ⟨y, _, e⟩ := z
    simp only [Prod.mk.injEq] at e
    obtain ⟨rfl, e⟩ := e
    exact e
  by_cases e : l = x
  · subst e; rw [if_pos (by simp), self]
  · rw [if_neg (by simp [e])]
    refine Decidable.byContradiction fun n => ?_
    have := mem x n
    rw [h] at this
    simp at this
    exact e this.1.symm
theorem one_wt (key : Rw → Fq) (r : Rw) (x : Fq) : (sw [r] fun r => decide (key r = x)) = if decide (key r = x) = true then r.w else 0 := by
  rw [sw_cons]; show _ + 0 = _; omega
theorem one_steps {rows : List Rw} {l h : Fq} {w : Int} (h1 : endsR rows Rw.lo = [(l, w)]) (h2 : endsR rows Rw.hi = [(h, w)]) : stepsR rows = stepsR [⟨l, h, w⟩] := by
  have eL : ∀ x, wtL rows x = wtL [⟨l, h, w⟩] x := fun x => (ends_wt h1 x).trans (one_wt Rw.lo ⟨l, h, w⟩ x).symm
  have eH : ∀ x, wtH rows x = wtH [⟨l, h, w⟩] x := fun x => (ends_wt h2 x).trans (one_wt Rw.hi ⟨l, h, w⟩ x).symm
  unfold stepsR
  rw [rec_congr _ _ eL eH]
  congr 1
  refine srt_ext (lt := Fq.lt) Fq.trans Fq.irr ((ord_srt _).sublist List.filter_sublist) ((ord_srt _).sublist List.filter_sublist) fun x => ?_
  have inn : ∀ (rs : List Rw), (decide (wtL rs x ≠ 0) || decide (wtH rs x ≠ 0)) = true → x ∈ hsOf rs := fun rs z => by
    unfold hsOf
    rw [ord_mem, List.mem_append]
    rcases Bool.or_eq_true_iff.mp z with q | q
    · exact .inl (wt_mem (of_decide_eq_true q))
    · exact .inr (wt_mem (of_decide_eq_true q))
  simp only [List.mem_filter]
  rw [eL, eH]
  constructor
  · rintro ⟨_, b⟩; exact ⟨inn _ b, b⟩
  · rintro ⟨_, b⟩; exact ⟨inn _ (by rw [eL, eH]; exact b), b⟩
end PH

/-! Looks of stretches: what the defs promise. -/
namespace PH
open PySem PySem.Spec L2
abbrev hD (h : Fq) : D := fr h.p h.q
abbrev rwD (r : Rw) : D := .tuple [hD r.lo, hD r.hi, .int r.w]
abbrev stD (t : Fq × Int × Int) : D := .tuple [hD t.1, .int t.2.1, .int t.2.2]
abbrev ewD (t : Fq × Int) : D := .tuple [hD t.1, .int t.2]
def Hb (k : Nat) (h : Fq) : Prop := Bd k h.p ∧ Bd k h.q
theorem Hb.mono {j k : Nat} {h : Fq} (b : Hb j h) (l : j ≤ k) : Hb k h := ⟨b.1.mono l, b.2.mono l⟩
theorem fq_of {p q : Int} {k : Nat} (h : q ≠ 0) (a : Bd k p) (b : Bd k q) : ∃ x : Fq, frac p q = hD x ∧ Hb k x ∧ x.p * q = p * x.q := by
  obtain ⟨u, v, e, hv, hg, c, b1, b2⟩ := frac_obt h a b
  exact ⟨⟨u, v, hv, hg⟩, e, ⟨b1, b2⟩, c⟩
structure RowsOk (n : Nat) (rows : List Rw) : Prop where
  le : RowsLe rows
  hb : ∀ r ∈ rows, Hb 30 r.lo ∧ Hb 30 r.hi
  wb : ∀ r ∈ rows, r.w.natAbs ≤ 3
  len : rows.length ≤ n
theorem RowsOk.up {m n : Nat} {rows : List Rw} (h : RowsOk m rows) (l : m ≤ n) : RowsOk n rows := ⟨h.le, h.hb, h.wb, Nat.le_trans h.len l⟩
/-! typed loops -/
theorem all2_m {α : Type} (enc f : α → D) {R : D → D → Prop} : ∀ xs : List α, (∀ x ∈ xs, R (enc x) (f x)) → All2 R (xs.map enc) (xs.map f)
  | [], _ => trivial
  | x :: xs, h => ⟨h x (by simp), all2_m enc f xs fun y hy => h y (by simp [hy])⟩
theorem dLcc_m {α : Type} {mi : DA} {g : DG} {me : DE} {vs : List Nat} {σd : DSt} {Q : List D → Prop} (xs : List α) (enc f : α → D) (hi : ∀ R : List D → Prop, R (xs.map enc) → mi σd R) (hl : xs.length ≤ 1000000)
    (h : ∀ x ∈ xs, ∀ Q : D → Prop, Q (f x) → g (enc x) (dwipe (clean σd) vs) fun σ2 => me σ2 Q) (hq : Q (xs.map f)) : dLcc mi g dYes me vs σd Q :=
  dLcc_k (xs.map enc) (xs.map f) hi (by rwa [List.length_map]) (all2_m enc f xs h) hq
theorem dLcc_mt {α : Type} {mi : DA} {g : DG} {mt : DT} {me : DE} {vs : List Nat} {σd : DSt} {Q : List D → Prop} (xs : List α) (enc : α → D) (t : α → Bool) (f : α → D) (hi : ∀ R : List D → Prop, R (xs.map enc) → mi σd R) (hl : xs.length ≤ 1000000)
    (h : ∀ x ∈ xs, ∀ (Q1 : D → Prop) (Q0 : Prop), (t x = true → Q1 (f x)) → (t x = false → Q0) → g (enc x) (dwipe (clean σd) vs) fun σ2 => mt σ2 fun b => if b = true then me σ2 Q1 else Q0) (hq : Q ((xs.filter t).map f)) : dLcc mi g mt me vs σd Q := by
  refine hi _ ⟨by rwa [List.length_map], fun i acc => acc = ((xs.take i).filter t).map f, by simp, fun i y acc hy _ w => ?_, fun acc w => ?_⟩
  · rw [List.getElem?_map] at hy
    obtain ⟨x, hx, rfl⟩ := Option.map_eq_some_iff.mp hy
    have e : xs.take (i + 1) = xs.take i ++ [x] := by rw [List.take_add_one, hx]; rfl
    refine h x (List.mem_of_getElem? hx) (fun z => acc ++ [z] = ((xs.take (i + 1)).filter t).map f) _ (fun ht => ?_) (fun ht => ?_)
    · rw [w, e, List.filter_append, List.map_append]
      simp [ht]
    · show acc = ((xs.take (i + 1)).filter t).map f
      rw [w, e, List.filter_append, List.map_append]
      simp [ht]
  · rw [w, List.length_map, List.take_length]; exact hq
theorem dFor_m {α : Type} {mi : DA} {g : DG} {mb rest : DS} {Dd : DEnds} {σd : DSt} (xs : List α) (enc : α → D) (W : List α → DSt → Prop) (hi : ∀ R : List D → Prop, R (xs.map enc) → mi σd R) (h0 : W [] σd)
    (ht : ∀ pre x post, xs = pre ++ x :: post → ∀ σ', W pre σ' → g (enc x) σ' fun σ2 => mb { Dd with nx := W (pre ++ [x]), ct := W (pre ++ [x]), bk := rest Dd } σ2) (hr : ∀ σ', W xs σ' → rest Dd σ') : dSeq (dFor mi g mb) rest Dd σd := by
  refine hi _ ⟨fun i => W (xs.take i), by simpa using h0, fun i y σ' hy w => ?_, fun σ' w => hr σ' ?_⟩
  · rw [List.getElem?_map] at hy
    obtain ⟨x, hx, rfl⟩ := Option.map_eq_some_iff.mp hy
    have e : xs.take (i + 1) = xs.take i ++ [x] := by rw [List.take_add_one, hx]; rfl
    have e2 : xs = xs.take i ++ x :: xs.drop (i + 1) := by
      have h0 : i < xs.length := (List.getElem?_eq_some_iff.mp hx).1
      have h1 : xs[i] = x := (List.getElem?_eq_some_iff.mp hx).2
      rw [← h1, ← List.drop_eq_getElem_cons h0, List.take_append_drop]
    have := ht (xs.take i) x _ e2 σ' w
    show g (enc x) σ' fun σ2 => mb { Dd with nx := W (xs.take (i + 1)), ct := W (xs.take (i + 1)), bk := rest Dd } σ2
    rw [e]; exact this
  · rw [List.length_map, List.take_length] at w; exact w
theorem ints_mapf {α : Type} (f : α → Int) (xs : List α) : intsOf (xs.map fun x => PyData.int (f x)) = some (xs.map f) := by
  have := intsOf_map (xs.map f)
  rwa [List.map_map] at this
theorem dSum_m {α : Type} {xs : List α} {f : α → Int} {Q : D → Prop} (h : Q (.int (xs.map f).sum)) : dSum [.list (xs.map fun x => PyData.int (f x))] Q := by
  unfold dSum
  dsimp only
  rw [ints_mapf]; exact h
theorem dNin_11 {w : Int} {Q : D → Prop} (h : Q (.bool (!(decide (w = 1) || decide (w = -1))))) : dIn true (.int w) (.tuple [.int 1, .int (-1)]) Q := by
  refine ⟨by simp [SeqAt.shaped, PyData.canLay0, PyData.depth], by simp [SeqAt.shaped, PyData.canLay0, PyData.canLayAll0, PyData.depth, PyData.depthAll], ?_⟩
  have e : ∀ a b : Int, PyData.eqv (.int a) (.int b) = decide (a = b) := fun a b => by simp only [PyData.eqv]; rfl
  simp only [List.any_cons, List.any_nil, Bool.or_false, e, if_true]
  rw [show decide ((1 : Int) = w) = decide (w = 1) by simp [eq_comm], show decide ((-1 : Int) = w) = decide (w = -1) by simp [eq_comm]]
  exact h
theorem lt_c {x y : Fq} {k : Nat} (hx : Hb k x) (hy : Hb k y) (hk : k ≤ 1000) {Q : D → Prop} (h : Q (.bool (Fq.lt x y))) : spPairs (fun _ _ _ _ => True) (fun p q r s => .bool (decide (p * s < r * q))) [hD x, hD y] Q :=
  ⟨x.p, x.q, y.p, y.q, k, rfl, hx.1, hx.2, hy.1, hy.2, hk, trivial, h⟩
/-! what the defs promise -/
def spOrd : DSp := fun ds Q => ∃ hs : List Fq, ds = [.list (hs.map hD)] ∧ (∀ h ∈ hs, Hb 30 h) ∧ hs.length ≤ 1000 ∧ Q (.list ((ordT Fq.lt hs).map hD))
def spVal : DSp := fun ds Q => ∃ (rows : List Rw) (h : Fq), ds = [.list (rows.map rwD), hD h] ∧ RowsOk 1000 rows ∧ Hb 70 h ∧ Q (.int (val rows h))
def spMid : DSp := fun ds Q => ∃ s t : Fq, ds = [hD s, hD t] ∧ Hb 30 s ∧ Hb 30 t ∧ ∀ m : Fq, Hb 62 m → (Fq.lt s t = true → Fq.lt s m = true ∧ Fq.lt m t = true) → Q (hD m)
def spGaps : DSp := fun ds Q => ∃ hs : List Fq, ds = [.list (hs.map hD)] ∧ Srt Fq.lt hs ∧ (∀ h ∈ hs, Hb 30 h) ∧ hs.length ≤ 1000 ∧ ∀ gs : List Fq, (∀ g ∈ gs, Hb 62 g) → GapOk hs gs → Q (.list (gs.map hD))
def spSteps : DSp := fun ds Q => ∃ ts : List (Fq × Int × Int), ds = [.list (ts.map stD)] ∧ ts.length ≤ 1000 ∧ Q (.tuple ((stepsF 0 ts).map stD))
def spStepsOf : DSp := fun ds Q => ∃ rows : List Rw, ds = [.list (rows.map rwD)] ∧ RowsOk 100 rows ∧ Q (.tuple ((stepsR rows).map stD))
def spDraw5 : DSp := fun ds Q => ds = [SRC, .int 5] ∧ ∀ rows : List Rw, RowsOk 5 rows → Q (.list (rows.map rwD))
def spDrawnR : DSp := fun ds Q => ds = [SRC] ∧ ∀ rows : List Rw, RowsOk 9 rows → Q (.list (rows.map rwD))
def spEnds : DSp := fun ds Q => ∃ (rows : List Rw) (i : Int), ds = [.list (rows.map rwD), .int i] ∧ RowsOk 100 rows ∧ ((i = 0 ∧ Q (.list ((endsR rows Rw.lo).map ewD))) ∨ (i = 1 ∧ Q (.list ((endsR rows Rw.hi).map ewD))))
def dueF (lows highs : List (Fq × Int)) : D := match lows, highs with
  | [(l, w)], [(h, _)] => if w.natAbs = 1 then .tuple [.int w, hD l, hD h] else .none
  | _, _ => .none
def spDue : DSp := fun ds Q => ∃ rows : List Rw, ds = [.list (rows.map rwD)] ∧ RowsOk 100 rows ∧ Q (dueF (endsR rows Rw.lo) (endsR rows Rw.hi))
def spTs (f : List (Fq × Int × Int) → D) : DSp := fun ds Q => ∃ ts : List (Fq × Int × Int), ds = [.tuple (ts.map stD)] ∧ ts.length ≤ 1000 ∧ Q (f ts)
def strF (bots tops : List (Fq × Int)) : D := match bots, tops with
  | [(b, _)], [(t, w)] => if w.natAbs = 1 then .tuple [.int w, hD b, hD t] else .none
  | _, _ => .none
end PH

/-! Looks of stretches: helpers of the defs. -/
namespace PH
open PySem PySem.Spec L2
theorem hD_inj {x y : Fq} (h : hD x = hD y) : x = y := by
  simp only [PyData.tuple.injEq, List.cons.injEq, PyData.int.injEq, and_true] at h
  exact Fq.ext' h.1 h.2
theorem hD_fr (x : Fq) : IsFr (hD x) := ⟨_, _, rfl⟩
theorem hD_mem {x : Fq} {xs : List Fq} : hD x ∈ xs.map hD ↔ x ∈ xs := by
  rw [List.mem_map]
  constructor
  · rintro ⟨y, hy, e⟩; rw [← hD_inj e]; exact hy
  · exact fun h => ⟨x, h, rfl⟩
theorem frs_map (xs : List Fq) : ∀ x ∈ xs.map hD, IsFr x := fun x hx => by
  obtain ⟨y, _, rfl⟩ := List.mem_map.mp hx
  exact hD_fr y
theorem hD_eqb (x y : Fq) : (decide (x.p = y.p) && decide (x.q = y.q)) = decide (x = y) := by
  by_cases e : x = y
  · subst e; simp
  · rw [decide_eq_false e]
    by_cases e1 : x.p = y.p
    · rw [decide_eq_true e1, decide_eq_false fun e2 => e (Fq.ext' e1 e2)]; rfl
    · rw [decide_eq_false e1]; rfl
theorem ord_snoc (xs : List Fq) (u : Fq) : ordT Fq.lt (xs ++ [u]) = insT Fq.lt (ordT Fq.lt xs) u := by
  unfold ordT; rw [List.foldl_append]; rfl
theorem ins_in {xs : List Fq} {u : Fq} (h : u ∈ xs) : insT Fq.lt xs u = xs := if_pos h
theorem ins_out {xs : List Fq} {u : Fq} (h : u ∉ xs) : insT Fq.lt xs u = xs.filter (fun x => Fq.lt x u) ++ [u] ++ xs.drop (xs.filter fun x => Fq.lt x u).length := if_neg h
theorem ord_hb {k : Nat} {xs : List Fq} (h : ∀ x ∈ xs, Hb k x) : ∀ x ∈ ordT Fq.lt xs, Hb k x := fun x hx => h x ((ord_mem _ _).mp hx)
theorem mid_lt {a b c d p q : Int} (hb : 0 < b) (hd : 0 < d) (hq : 0 < q) (h : a * d < c * b) (e : p * (2 * b * d) = (a * d + c * b) * q) : a * q < p * b ∧ p * d < c * q := by
  have k : 0 < b * q := Int.mul_pos hb hq
  have k2 : 0 < d * q := Int.mul_pos hd hq
  have m1 := Int.mul_lt_mul_of_pos_right h k
  have m2 := Int.mul_lt_mul_of_pos_right h k2
  constructor
  · refine Int.lt_of_mul_lt_mul_right (a := 2 * b * d) ?_ (by have := Int.mul_pos (Int.mul_pos (show (0 : Int) < 2 by decide) hb) hd; omega)
    have e1 : a * q * (2 * b * d) = a * d * (b * q) + a * d * (b * q) := by grind
    have e2 : p * b * (2 * b * d) = p * (2 * b * d) * b := by grind
    have e3 : (a * d + c * b) * q * b = a * d * (b * q) + c * b * (b * q) := by grind
    rw [e1, e2, e, e3]; omega
  · refine Int.lt_of_mul_lt_mul_right (a := 2 * b * d) ?_ (by have := Int.mul_pos (Int.mul_pos (show (0 : Int) < 2 by decide) hb) hd; omega)
    have e1 : c * q * (2 * b * d) = c * b * (d * q) + c * b * (d * q) := by grind
    have e2 : p * d * (2 * b * d) = p * (2 * b * d) * d := by grind
    have e3 : (a * d + c * b) * q * d = a * d * (d * q) + c * b * (d * q) := by grind
    rw [e1, e2, e, e3]; omega
/-! comprehensions whose items are told by a relation -/
def F2 {α β : Type} (P : α → β → Prop) : List α → List β → Prop
  | [], [] => True
  | a :: as, b :: bs => P a b ∧ F2 P as bs
  | _, _ => False
theorem F2.snoc {α β : Type} {P : α → β → Prop} : ∀ {as : List α} {bs : List β} {a : α} {b : β}, F2 P as bs → P a b → F2 P (as ++ [a]) (bs ++ [b])
  | [], [], _, _, _, h => ⟨h, trivial⟩
  | _ :: _, _ :: _, _, _, h, h' => ⟨h.1, F2.snoc h.2 h'⟩
  | [], _ :: _, _, _, h, _ => h.elim
  | _ :: _, [], _, _, h, _ => h.elim
theorem F2.all {α β : Type} {P : α → β → Prop} {R : β → Prop} (hP : ∀ a b, P a b → R b) : ∀ {as : List α} {bs : List β}, F2 P as bs → ∀ b ∈ bs, R b
  | [], [], _, b, hb => by simp at hb
  | a :: as, c :: bs, h, b, hb => by
    rcases List.mem_cons.mp hb with rfl | hb
    · exact hP _ _ h.1
    · exact F2.all hP h.2 b hb
  | [], _ :: _, h, _, _ => h.elim
  | _ :: _, [], h, _, _ => h.elim
theorem dLcc_n {α β : Type} {mi : DA} {g : DG} {me : DE} {vs : List Nat} {σd : DSt} {Q : List D → Prop} (xs : List α) (enc : α → D) (out : β → D) (P : α → β → Prop) (hi : ∀ R : List D → Prop, R (xs.map enc) → mi σd R) (hl : xs.length ≤ 1000000)
    (h : ∀ x ∈ xs, ∀ Q : D → Prop, (∀ b, P x b → Q (out b)) → g (enc x) (dwipe (clean σd) vs) fun σ2 => me σ2 Q) (hq : ∀ bs : List β, F2 P xs bs → Q (bs.map out)) : dLcc mi g dYes me vs σd Q := by
  refine hi _ ⟨by rwa [List.length_map], fun i acc => ∃ bs : List β, acc = bs.map out ∧ F2 P (xs.take i) bs, ⟨[], by simp, by simp [F2]⟩, fun i y acc hy _ w => ?_, fun acc w => ?_⟩
  · rw [List.getElem?_map] at hy
    obtain ⟨x, hx, rfl⟩ := Option.map_eq_some_iff.mp hy
    obtain ⟨bs, rfl, f⟩ := w
    have e : xs.take (i + 1) = xs.take i ++ [x] := by rw [List.take_add_one, hx]; rfl
    refine h x (List.mem_of_getElem? hx) _ fun b hb => ?_
    show ∃ bs' : List β, bs.map out ++ [out b] = bs'.map out ∧ F2 P (xs.take (i + 1)) bs'
    exact ⟨bs ++ [b], by simp, by rw [e]; exact f.snoc hb⟩
  · obtain ⟨bs, rfl, f⟩ := w
    rw [List.length_map, List.take_length] at f
    exact hq bs f
theorem zip_map (xs ys : List Fq) : zipD (xs.map hD) (ys.map hD) = (xs.zip ys).map fun p => .tuple [hD p.1, hD p.2] := by
  unfold zipD
  rw [List.zipWith_map, List.zip, List.map_zipWith]
theorem cut_1m (xs : List Fq) : cutD (xs.map hD) (some 1) none = (xs.drop 1).map hD := by rw [cut_1, List.map_drop]
theorem cut_l {α : Type} (f : α → D) (xs : List α) : cutD (xs.map f) (some (-1)) none = (xs.drop (xs.length - 1)).map f := by
  unfold cutD
  rw [List.map_drop]
  rw [HT.sIx_none, List.length_map]
  have e : HT.sIx xs.length 0 (some (-1)) = xs.length - 1 := by
    show (if (-1 : Int) < 0 then ((-1 : Int) + (xs.length : Int)).toNat else min (-1 : Int).toNat xs.length) = _
    rw [if_pos (by decide)]; omega
  rw [e, List.take_of_length_le (by rw [List.length_drop, List.length_map]; omega)]
theorem gap_ok : ∀ {hs g1 g2 : List Fq}, Srt Fq.lt hs → F2 (fun (p : Fq × Fq) m => Hb 62 m ∧ (Fq.lt p.1 p.2 = true → Fq.lt p.1 m = true ∧ Fq.lt m p.2 = true)) (hs.zip (hs.drop 1)) g1 → F2 (fun h g => Hb 62 g ∧ Fq.lt h g = true) (hs.drop (hs.length - 1)) g2 → GapOk hs (g1 ++ g2)
  | [], [], [], _, _, _ => trivial
  | [], _ :: _, _, _, h, _ => h.elim
  | [], [], _ :: _, _, _, h => h.elim
  | [h], [], [g], _, _, z => z.1.2
  | [h], [], [], _, _, z => z.elim
  | [h], [], _ :: _ :: _, _, _, z => z.2.elim
  | [h], _ :: _, _, _, z, _ => z.elim
  | h :: h' :: t, [], _, _, z, _ => z.elim
  | h :: h' :: t, g :: g1, g2, s, z, y => by
    unfold Srt at s
    rw [List.pairwise_cons] at s
    have l := s.1 h' (by simp)
    have zz := z.1.2 l
    refine ⟨zz.1, zz.2, gap_ok (hs := h' :: t) (g1 := g1) (g2 := g2) s.2 z.2 ?_⟩
    have e : (h :: h' :: t).drop ((h :: h' :: t).length - 1) = (h' :: t).drop ((h' :: t).length - 1) := by
      simp only [List.length_cons, Nat.add_sub_cancel]; rfl
    rw [e] at y; exact y
theorem zip_zipG (rows : List Rw) : ∀ hs gs : List Fq, (hs.zip gs).map (fun p => (p.1, val rows p.1, val rows p.2)) = zipG rows hs gs
  | [], _ => rfl
  | _ :: _, [] => rfl
  | h :: hs, g :: gs => by simp only [List.zip_cons_cons, List.map_cons, zipG]; rw [zip_zipG rows hs gs]
theorem zipG_len (rows : List Rw) (hs gs : List Fq) : (zipG rows hs gs).length ≤ hs.length := by
  rw [← zip_zipG, List.length_map, List.length_zip]; omega
theorem endsW_snoc (W : Fq → Int) (xs : List Fq) (u : Fq) : endsW W (xs ++ [u]) = endsW W xs ++ if W u = 0 then [] else [(u, W u)] := by
  unfold endsW
  rw [List.filter_append, List.map_append]
  by_cases e : W u = 0
  · simp [e]
  · simp [e]
theorem rep_1 {xs : List D} : repD 1 xs = xs := by simp [repD]
theorem rep_0 {xs : List D} : repD 0 xs = [] := by simp [repD]
/-! shapes -/
theorem lay_map {α : Type} (f : α → D) {n : Nat} (h : ∀ x, (f x).canLay0 = true ∧ (f x).depth ≤ n) : ∀ xs : List α, PyData.canLayAll0 (xs.map f) = true ∧ PyData.depthAll (xs.map f) ≤ n
  | [] => ⟨by simp [PyData.canLayAll0], by simp [PyData.depthAll]⟩
  | x :: xs => by
    obtain ⟨h1, h2⟩ := lay_map f h xs
    obtain ⟨h3, h4⟩ := h x
    exact ⟨by simp [PyData.canLayAll0, h1, h3], by simp only [List.map_cons, PyData.depthAll]; omega⟩
theorem lay_rw (r : Rw) : (rwD r).canLay0 = true ∧ (rwD r).depth ≤ 5 := ⟨by simp [PyData.canLay0, PyData.canLayAll0], by simp [PyData.depth, PyData.depthAll]⟩
theorem lay_st (t : Fq × Int × Int) : (stD t).canLay0 = true ∧ (stD t).depth ≤ 5 := ⟨by simp [PyData.canLay0, PyData.canLayAll0], by simp [PyData.depth, PyData.depthAll]⟩
theorem sh_rows (xs : List Rw) : SeqAt.shaped (.list (xs.map rwD)) = true := by
  obtain ⟨h1, h2⟩ := lay_map rwD lay_rw xs
  have e1 : (PyData.list (xs.map rwD)).canLay0 = true := by simpa [PyData.canLay0] using h1
  have e2 : (PyData.list (xs.map rwD)).depth ≤ 64 := by simp only [PyData.depth]; omega
  unfold SeqAt.shaped
  rw [e1, decide_eq_true e2]; rfl
theorem sh_ts (xs : List (Fq × Int × Int)) : SeqAt.shaped (.tuple (xs.map stD)) = true := by
  obtain ⟨h1, h2⟩ := lay_map stD lay_st xs
  have e1 : (PyData.tuple (xs.map stD)).canLay0 = true := by simpa [PyData.canLay0] using h1
  have e2 : (PyData.tuple (xs.map stD)).depth ≤ 64 := by simp only [PyData.depth]; omega
  unfold SeqAt.shaped
  rw [e1, decide_eq_true e2]; rfl
theorem dEq_nil {xs : List Rw} {Q : D → Prop} (h : Q (.bool xs.isEmpty)) : dEq (.list (xs.map rwD)) (.list []) Q := by
  show Q (.bool (xs.map rwD).isEmpty)
  cases xs <;> exact h
theorem lf_ew : ∀ xs : List (Fq × Int), listFrees (xs.map ewD) = true
  | [] => by simp [listFrees]
  | x :: xs => by simp only [List.map_cons, listFrees, listFree, Bool.true_and, Bool.and_true]; exact lf_ew xs
theorem lf_st : ∀ xs : List (Fq × Int × Int), listFrees (xs.map stD) = true
  | [] => by simp [listFrees]
  | x :: xs => by simp only [List.map_cons, listFrees, listFree, Bool.true_and, Bool.and_true]; exact lf_st xs
/-! what repr asks -/
theorem ok_map {α : Type} (f : α → D) {P : α → Prop} (h : ∀ x, P x → tame (f x) ∧ (f x).bulk ≤ 100 ∧ (f x).depth ≤ 5 ∧ (f x).hasDict = false) : ∀ xs : List α, (∀ x ∈ xs, P x) → tames (xs.map f) ∧ PyData.bulkAll (xs.map f) ≤ 102 * xs.length ∧ PyData.depthAll (xs.map f) ≤ 5 ∧ PyData.hasDictAll (xs.map f) = false
  | [], _ => ⟨trivial, by simp [PyData.bulkAll], by simp [PyData.depthAll], by simp [PyData.hasDictAll]⟩
  | x :: xs, hx => by
    obtain ⟨a, b, c, d⟩ := ok_map f h xs fun y hy => hx y (by simp [hy])
    obtain ⟨a', b', c', d'⟩ := h x (hx x (by simp))
    refine ⟨⟨a', a⟩, ?_, ?_, ?_⟩
    · simp only [List.map_cons, PyData.bulkAll, List.length_cons]; omega
    · simp only [List.map_cons, PyData.depthAll]; omega
    · simp only [List.map_cons, PyData.hasDictAll, d, d']; rfl
theorem ok_ew (t : Fq × Int) (h : Hb 900 t.1 ∧ Bd 900 t.2) : tame (ewD t) ∧ (ewD t).bulk ≤ 100 ∧ (ewD t).depth ≤ 5 ∧ (ewD t).hasDict = false := by
  refine ⟨⟨⟨h.1.1.h, h.1.2.h, trivial⟩, h.2.h, trivial⟩, ?_, ?_, ?_⟩
  · simp [PyData.bulk, PyData.bulkAll]
  · simp [PyData.depth, PyData.depthAll]
  · simp [PyData.hasDict, PyData.hasDictAll]
theorem rOk_two {xs ys : List (Fq × Int)} (hx : ∀ t ∈ xs, Hb 900 t.1 ∧ Bd 900 t.2) (hy : ∀ t ∈ ys, Hb 900 t.1 ∧ Bd 900 t.2) (lx : xs.length ≤ 100) (ly : ys.length ≤ 100) : rOk (.list [.list (xs.map ewD), .list (ys.map ewD)]) := by
  obtain ⟨a, b, c, d⟩ := ok_map ewD ok_ew xs hx
  obtain ⟨a', b', c', d'⟩ := ok_map ewD ok_ew ys hy
  refine rOk_of ⟨by simpa [tame] using a, by simpa [tame] using a', trivial⟩ ?_ ?_ ?_
  · simp only [PyData.bulk, PyData.bulkAll]; omega
  · simp only [PyData.depth, PyData.depthAll]; omega
  · intro z
    simp only [PyData.hasDict, PyData.hasDictAll, d, d'] at z
    cases z
theorem sw_bd (p : Rw → Bool) : ∀ {rows : List Rw}, (∀ r ∈ rows, r.w.natAbs ≤ 3) → (sw rows p).natAbs ≤ 3 * rows.length
  | [], _ => by simp [sw]
  | r :: rows, h => by
    have ih := sw_bd p (rows := rows) fun x hx => h x (by simp [hx])
    have := h r (by simp)
    rw [sw_cons, List.length_cons]
    split <;> omega
theorem ends_ok {n : Nat} {rows : List Rw} (R : RowsOk n rows) (hn : n ≤ 100) (key : Rw → Fq) (hk : ∀ r ∈ rows, Hb 30 (key r)) : (∀ t ∈ endsR rows key, Hb 900 t.1 ∧ Bd 900 t.2) ∧ (endsR rows key).length ≤ 100 := by
  constructor
  · intro t ht
    unfold endsR endsW at ht
    rw [List.mem_map] at ht
    obtain ⟨h, hh, rfl⟩ := ht
    have m := (ord_mem _ _).mp (List.mem_filter.mp hh).1
    obtain ⟨r, hr, rfl⟩ := List.mem_map.mp m
    refine ⟨(hk r hr).mono (by decide), ⟨?_⟩⟩
    have := sw_bd (rows := rows) (fun r' => decide (key r' = key r)) R.wb
    have := R.len
    have : (300 : Nat) < 2 ^ 900 := by decide +kernel
    show (sw rows _).natAbs < _
    omega
  · unfold endsR endsW
    rw [List.length_map]
    have l := ord_len (rows.map key)
    rw [List.length_map] at l
    have := R.len
    exact Nat.le_trans (List.length_filter_le _ _) (by omega)
end PH
namespace PH
theorem F2.len {α β : Type} {P : α → β → Prop} : ∀ {as : List α} {bs : List β}, F2 P as bs → as.length = bs.length
  | [], [], _ => rfl
  | _ :: _, _ :: _, h => by simp [F2.len h.2]
  | [], _ :: _, h => h.elim
  | _ :: _, [], h => h.elim
end PH
namespace PH
theorem dLcc_x {ι : Type} {mi : DA} {g : DG} {mt : DT} {me : DE} {vs : List Nat} {σd : DSt} {Q : List D → Prop} (P : ι → Prop) (ys : ι → List D) (hi : ∀ R : List D → Prop, (∀ i, P i → R (ys i)) → mi σd R)
    (h : ∀ i, P i → dLcc (fun _ R => R (ys i)) g mt me vs σd Q) : dLcc mi g mt me vs σd Q := hi _ h
end PH
namespace PH
open PySem PySem.Spec L2
theorem dFor_n {mi : DA} {g : DG} {mb rest : DS} {Dd : DEnds} {σd : DSt} (n : Nat) (W : Nat → DSt → Prop) (hi : ∀ R : List D → Prop, (∀ ys : List D, ys.length ≤ n → R ys) → mi σd R) (h0 : W 0 σd)
    (ht : ∀ i y, i < n → ∀ σ', W i σ' → g y σ' fun σ2 => mb { Dd with nx := W (i + 1), ct := W (i + 1), bk := rest Dd } σ2) (hr : ∀ i, i ≤ n → ∀ σ', W i σ' → rest Dd σ') : dSeq (dFor mi g mb) rest Dd σd :=
  hi _ fun ys hl => ⟨W, h0, fun i y σ' e w => ht i y (Nat.lt_of_lt_of_le (List.getElem?_eq_some_iff.mp e).1 hl) σ' w, hr _ hl⟩
theorem cop_next (n : Int) : Int.gcd n (n + 1) = 1 := by
  have h1 := Int.gcd_dvd_left (a := n) (b := n + 1)
  have h2 := Int.gcd_dvd_right (a := n) (b := n + 1)
  have h3 : (Int.gcd n (n + 1) : Int) ∣ 1 := by
    have := Int.dvd_sub h2 h1
    rwa [show n + 1 - n = 1 by omega] at this
  have := Int.le_of_dvd (by decide) h3
  have h0 : Int.gcd n (n + 1) ≠ 0 := fun z => by
    have := Int.gcd_eq_zero_iff.mp z
    omega
  omega
def IsH (d : D) : Prop := ∃ h : Fq, d = hD h ∧ Hb 30 h
theorem isH_1 {n : Int} (h0 : 0 < n) (h1 : n ≤ 10 ^ 9) : IsH (fr 1 n) := ⟨⟨1, n, h0, by simp⟩, rfl, ⟨by show (1 : Int).natAbs < 2 ^ 30; decide⟩, ⟨by show n.natAbs < 2 ^ 30; omega⟩⟩
theorem isH_n {n : Int} (h0 : 0 ≤ n) (h1 : n < 10 ^ 9) : IsH (fr n (n + 1)) := ⟨⟨n, n + 1, by omega, cop_next n⟩, rfl, ⟨by show n.natAbs < 2 ^ 30; omega⟩, ⟨by show (n + 1).natAbs < 2 ^ 30; omega⟩⟩
theorem RowsOk.nil : RowsOk 0 [] := ⟨fun _ h => by simp at h, fun _ h => by simp at h, fun _ h => by simp at h, by simp⟩
theorem RowsOk.cons {n : Nat} {rows : List Rw} (R : RowsOk n rows) {lo hi : Fq} {w : Int} (h : Fq.lt hi lo = false) (h1 : Hb 30 lo) (h2 : Hb 30 hi) (hw : w.natAbs ≤ 3) : RowsOk (n + 1) (⟨lo, hi, w⟩ :: rows) :=
  ⟨fun r hr => by rcases List.mem_cons.mp hr with rfl | hr; exact h; exact R.le r hr, fun r hr => by rcases List.mem_cons.mp hr with rfl | hr; exact ⟨h1, h2⟩; exact R.hb r hr, fun r hr => by rcases List.mem_cons.mp hr with rfl | hr; exact hw; exact R.wb r hr, by have := R.len; simp; omega⟩
theorem RowsOk.app {m n : Nat} {xs ys : List Rw} (R : RowsOk m xs) (S : RowsOk n ys) : RowsOk (m + n) (xs ++ ys) :=
  ⟨fun r hr => by rcases List.mem_append.mp hr with hr | hr; exact R.le r hr; exact S.le r hr, fun r hr => by rcases List.mem_append.mp hr with hr | hr; exact R.hb r hr; exact S.hb r hr, fun r hr => by rcases List.mem_append.mp hr with hr | hr; exact R.wb r hr; exact S.wb r hr, by have := R.len; have := S.len; simp; omega⟩
theorem RowsOk.tail {n : Nat} {r : Rw} {rs : List Rw} (R : RowsOk (n + 1) (r :: rs)) : RowsOk n rs := ⟨fun x hx => R.le x (by simp [hx]), fun x hx => R.hb x (by simp [hx]), fun x hx => R.wb x (by simp [hx]), by have := R.len; simp at this; omega⟩
abbrev negR (r : Rw) : Rw := ⟨r.lo, r.hi, -r.w⟩
theorem RowsOk.neg {n : Nat} {rs : List Rw} (R : RowsOk n rs) : RowsOk n (rs.map negR) := by
  refine ⟨fun x hx => ?_, fun x hx => ?_, fun x hx => ?_, by rw [List.length_map]; exact R.len⟩ <;> obtain ⟨y, hy, rfl⟩ := List.mem_map.mp hx
  · exact R.le y hy
  · exact R.hb y hy
  · have := R.wb y hy; show (-y.w).natAbs ≤ 3; omega
end PH

namespace PH
open PySem PySem.Spec L2
theorem str_due {lows highs : List (Fq × Int)} (h : (lows.map (·.2)).sum = (highs.map (·.2)).sum) : strF lows highs = dueF lows highs := by
  rcases lows with _ | ⟨⟨l, w⟩, _ | ⟨l2, ls⟩⟩
  · rfl
  · rcases highs with _ | ⟨⟨k, v⟩, _ | ⟨k2, ks⟩⟩
    · rfl
    · have e : w = v := by simpa using h
      subst e; rfl
    · rfl
  · rfl
theorem str_cases {lows highs : List (Fq × Int)} (h : (lows.map (·.2)).sum = (highs.map (·.2)).sum) : strF lows highs = .none ∨ ∃ (l k : Fq) (w : Int), lows = [(l, w)] ∧ highs = [(k, w)] ∧ w.natAbs = 1 ∧ strF lows highs = .tuple [.int w, hD l, hD k] := by
  rcases lows with _ | ⟨⟨l, w⟩, _ | ⟨l2, ls⟩⟩
  · exact .inl rfl
  · rcases highs with _ | ⟨⟨k, v⟩, _ | ⟨k2, ks⟩⟩
    · exact .inl rfl
    · have e : w = v := by simpa using h
      subst e
      by_cases z : w.natAbs = 1
      · exact .inr ⟨l, k, w, rfl, rfl, z, if_pos z⟩
      · exact .inl (if_neg z)
    · exact .inl rfl
  · exact .inl rfl
theorem ends_hb {n k : Nat} {rows : List Rw} (R : RowsOk n rows) (key : Rw → Fq) (hk : ∀ r ∈ rows, Hb k (key r)) : ∀ t ∈ endsR rows key, Hb k t.1 := by
  intro t ht
  unfold endsR endsW at ht
  rw [List.mem_map] at ht
  obtain ⟨h, hh, rfl⟩ := ht
  have m := (ord_mem _ _).mp (List.mem_filter.mp hh).1
  obtain ⟨r, hr, rfl⟩ := List.mem_map.mp m
  exact hk r hr
theorem rec_len {α : Type} (WL WH : α → Int) : ∀ (a : Int) (hs : List α), (recS WL WH a hs).length = hs.length
  | _, [] => rfl
  | a, h :: hs => by simp only [recS, List.length_cons]; rw [rec_len]
theorem steps_len {n : Nat} {rows : List Rw} (R : RowsOk n rows) : (stepsR rows).length ≤ 2 * n := by
  unfold stepsR
  rw [rec_len]
  have := ord_len (rows.map Rw.lo ++ rows.map Rw.hi)
  rw [List.length_append, List.length_map, List.length_map] at this
  have := R.len
  exact Nat.le_trans (List.length_filter_le _ _) (by unfold hsOf; omega)
theorem sum_bd : ∀ {rows : List Rw}, (∀ r ∈ rows, r.w.natAbs ≤ 3) → (rows.map Rw.w).sum.natAbs ≤ 3 * rows.length
  | [], _ => by simp
  | r :: rows, h => by
    have ih := sum_bd (rows := rows) fun x hx => h x (by simp [hx])
    have := h r (by simp)
    simp only [List.map_cons, List.sum_cons, List.length_cons]
    omega
end PH
namespace PH
open PySem PySem.Spec L2
theorem notN_no {Q : D → Prop} : dIsN true .none .none Q = Q (.bool false) := rfl
theorem notN_t {xs : List D} {Q : D → Prop} : dIsN true (.tuple xs) .none Q = Q (.bool true) := rfl
theorem isN_no {Q : D → Prop} : dIsN false .none .none Q = Q (.bool true) := rfl
end PH

/-! Sums of rounded down fractions: ladders. -/
namespace PH
/-- the sum of (a i + b) / m, rounded down, i from 0 to n - 1 -/
def lad : Nat → Int → Int → Int → Int
  | 0, _, _, _ => 0
  | n + 1, a, b, m => lad n a b m + (a * (n : Int) + b) / m
def trg : Nat → Int
  | 0 => 0
  | n + 1 => trg n + (n : Int)
theorem trg_two (n : Nat) : (n : Int) * ((n : Int) - 1) = 2 * trg n := by
  induction n with
  | zero => rfl
  | succ n ih =>
    have e : ((n + 1 : Nat) : Int) * (((n + 1 : Nat) : Int) - 1) = (n : Int) * ((n : Int) - 1) + 2 * (n : Int) := by
      have : ((n + 1 : Nat) : Int) = (n : Int) + 1 := by omega
      rw [this]; grind
    rw [e, ih]
    show _ = 2 * (trg n + (n : Int))
    omega
theorem trg_div (n : Nat) : (n : Int) * ((n : Int) - 1) / 2 = trg n := by
  rw [trg_two]; omega
theorem lad_add (n k : Nat) (a b m : Int) : lad (n + k) a b m = lad n a b m + lad k a (b + a * (n : Int)) m := by
  induction k with
  | zero => simp [lad]
  | succ k ih =>
    show lad (n + k) a b m + (a * ((n + k : Nat) : Int) + b) / m = _ + (lad k a (b + a * (n : Int)) m + (a * (k : Int) + (b + a * (n : Int))) / m)
    have e : a * ((n + k : Nat) : Int) + b = a * (k : Int) + (b + a * (n : Int)) := by
      have : ((n + k : Nat) : Int) = (n : Int) + (k : Int) := by omega
      rw [this]; grind
    rw [ih, e]; omega
theorem lad_b (n : Nat) (a b s m : Int) (hm : 0 < m) : lad n a (b + s * m) m = lad n a b m + s * (n : Int) := by
  induction n with
  | zero => simp [lad]
  | succ n ih =>
    show lad n a (b + s * m) m + (a * (n : Int) + (b + s * m)) / m = lad n a b m + (a * (n : Int) + b) / m + s * ((n + 1 : Nat) : Int)
    have e : (a * (n : Int) + (b + s * m)) / m = (a * (n : Int) + b) / m + s := by
      rw [← Int.add_assoc, Int.add_mul_ediv_right _ _ (by omega)]
    have e2 : s * ((n + 1 : Nat) : Int) = s * (n : Int) + s := by
      have : ((n + 1 : Nat) : Int) = (n : Int) + 1 := by omega
      rw [this]; grind
    rw [ih, e, e2]; omega
theorem lad_a (n : Nat) (a b s m : Int) (hm : 0 < m) : lad n (a + s * m) b m = lad n a b m + s * trg n := by
  induction n with
  | zero => simp [lad, trg]
  | succ n ih =>
    show lad n (a + s * m) b m + ((a + s * m) * (n : Int) + b) / m = lad n a b m + (a * (n : Int) + b) / m + s * (trg n + (n : Int))
    have e : ((a + s * m) * (n : Int) + b) / m = (a * (n : Int) + b) / m + s * (n : Int) := by
      have : (a + s * m) * (n : Int) + b = (a * (n : Int) + b) + (s * (n : Int)) * m := by grind
      rw [this, Int.add_mul_ediv_right _ _ (by omega)]
    have e2 : s * (trg n + (n : Int)) = s * trg n + s * (n : Int) := by grind
    rw [ih, e, e2]; omega
theorem ldiv_of {x m q r : Int} (h : x = m * q + r) (h0 : 0 ≤ r) (h1 : r < m) : x / m = q := by
  rw [h, Int.mul_add_ediv_left _ _ (by omega), Int.ediv_eq_zero_of_lt h0 h1]; omega
theorem lneg_div (x m : Int) (hm : 0 < m) : (-x - 1) / m = -(x / m) - 1 := by
  have h1 := Int.mul_ediv_add_emod x m
  have h2 := Int.emod_nonneg x (show m ≠ 0 by omega)
  have h3 := Int.emod_lt_of_pos x hm
  refine ldiv_of (r := m - 1 - x % m) ?_ (by omega) (by omega)
  have : m * (-(x / m) - 1) = -(m * (x / m)) - m := by grind
  rw [this]; omega
theorem lad_neg (n : Nat) (a b m : Int) (hm : 0 < m) : lad n (0 - a) (0 - b - 1) m = 0 - lad n a b m - (n : Int) := by
  induction n with
  | zero => simp [lad]
  | succ n ih =>
    show lad n (0 - a) (0 - b - 1) m + ((0 - a) * (n : Int) + (0 - b - 1)) / m = 0 - (lad n a b m + (a * (n : Int) + b) / m) - ((n + 1 : Nat) : Int)
    have e : (0 - a) * (n : Int) + (0 - b - 1) = -(a * (n : Int) + b) - 1 := by grind
    rw [ih, e, lneg_div _ _ hm]; omega
/-- counted along the other coordinate -/
theorem lad_swap {a b m : Int} (ha : 0 < a) (hm : 0 < m) (ham : a < m) (hb : 0 ≤ b) (hbm : b < m) : ∀ n : Nat, lad n a b m = lad ((a * (n : Int) + b) / m).toNat m ((a * (n : Int) + b) % m) a
  | 0 => by
    have : (a * ((0 : Nat) : Int) + b) / m = 0 := by
      rw [show a * ((0 : Nat) : Int) + b = b by simp]; exact Int.ediv_eq_zero_of_lt hb hbm
    rw [this]; rfl
  | n + 1 => by
    have ih := lad_swap ha hm ham hb hbm n
    have h1 := Int.mul_ediv_add_emod (a * (n : Int) + b) m
    have h2 := Int.emod_nonneg (a * (n : Int) + b) (show m ≠ 0 by omega)
    have h3 := Int.emod_lt_of_pos (a * (n : Int) + b) hm
    have hn : 0 ≤ a * (n : Int) := Int.mul_nonneg (by omega) (by omega)
    have hY : 0 ≤ (a * (n : Int) + b) / m := Int.ediv_nonneg (by omega) (by omega)
    have e1 : a * ((n + 1 : Nat) : Int) + b = (a * (n : Int) + b) + a := by
      have : ((n + 1 : Nat) : Int) = (n : Int) + 1 := by omega
      rw [this]; grind
    show lad n a b m + (a * (n : Int) + b) / m = _
    rw [e1, ih]
    generalize a * (n : Int) + b = x at *
    generalize hq : x / m = Y at *
    generalize hr : x % m = R at *
    by_cases c : R + a < m
    · have d : (x + a) / m = Y := ldiv_of (r := R + a) (by omega) (by omega) c
      have f : (x + a) % m = R + a := by
        have := Int.mul_ediv_add_emod (x + a) m
        rw [d] at this; omega
      rw [d, f]
      have z := lad_b Y.toNat m R 1 a ha
      rw [show R + 1 * a = R + a by omega] at z
      rw [z, show ((Y.toNat : Nat) : Int) = Y by omega]; omega
    · have hmy : m * (Y + 1) = m * Y + m := by grind
      have d : (x + a) / m = Y + 1 := ldiv_of (r := R + a - m) (by omega) (by omega) (by omega)
      have f : (x + a) % m = R + a - m := by
        have := Int.mul_ediv_add_emod (x + a) m
        rw [d] at this; omega
      rw [d, f, show (Y + 1).toNat = 1 + Y.toNat by omega, lad_add]
      have z := lad_b Y.toNat m R 1 a ha
      have g : R + a - m + m * ((1 : Nat) : Int) = R + 1 * a := by simp
      rw [g, z, show ((Y.toNat : Nat) : Int) = Y by omega]
      have l1 : lad 1 m (R + a - m) a = 0 := by
        show (0 : Int) + (m * ((0 : Nat) : Int) + (R + a - m)) / a = 0
        rw [show m * ((0 : Nat) : Int) + (R + a - m) = R + a - m by simp, Int.ediv_eq_zero_of_lt (by omega) (by omega)]; rfl
      omega
theorem lad_zero (n : Nat) {b m : Int} (hb : 0 ≤ b) (hbm : b < m) : lad n 0 b m = 0 := by
  induction n with
  | zero => rfl
  | succ n ih =>
    show lad n 0 b m + (0 * (n : Int) + b) / m = 0
    rw [ih, show (0 : Int) * (n : Int) + b = b by simp, Int.ediv_eq_zero_of_lt hb hbm]; rfl
/-- one turn of the loop -/
theorem lad_turn (n : Nat) (a b : Int) {m : Int} (hm : 0 < m) : lad n a b m = (a / m) * trg n + (b / m) * (n : Int) + lad ((a % m * (n : Int) + b % m) / m).toNat m ((a % m * (n : Int) + b % m) % m) (a % m) := by
  have a1 := Int.emod_nonneg a (show m ≠ 0 by omega)
  have a2 := Int.emod_lt_of_pos a hm
  have b1 := Int.emod_nonneg b (show m ≠ 0 by omega)
  have b2 := Int.emod_lt_of_pos b hm
  have ea : a = a % m + (a / m) * m := by have := Int.mul_ediv_add_emod a m; rw [Int.mul_comm] at this; omega
  have eb : b = b % m + (b / m) * m := by have := Int.mul_ediv_add_emod b m; rw [Int.mul_comm] at this; omega
  have e : lad n a b m = lad n (a % m) (b % m) m + (a / m) * trg n + (b / m) * (n : Int) := by
    conv => lhs; rw [ea, eb]
    rw [lad_b _ _ _ _ _ hm, lad_a _ _ _ _ _ hm]
  rw [e]
  by_cases z : a % m = 0
  · rw [z, lad_zero n b1 b2]
    have : ((0 : Int) * (n : Int) + b % m) / m = 0 := by rw [show (0 : Int) * (n : Int) + b % m = b % m by simp, Int.ediv_eq_zero_of_lt b1 b2]
    rw [this]
    show _ = _ + lad 0 _ _ _
    simp only [lad]; omega
  · rw [lad_swap (by omega) hm a2 b1 b2 n]; omega
theorem lad_rev (n : Nat) (a b m : Int) : lad n a b m = lad n (-a) (b + a * ((n : Int) - 1)) m := by
  induction n with
  | zero => rfl
  | succ n ih =>
    have e1 : a * (((n + 1 : Nat) : Int) - 1) = a * (n : Int) := by rw [show ((n + 1 : Nat) : Int) - 1 = (n : Int) by omega]
    rw [e1]
    have z : lad (n + 1) (-a) (b + a * (n : Int)) m = lad (1 + n) (-a) (b + a * (n : Int)) m := by rw [Nat.add_comm]
    rw [z, lad_add 1 n]
    show lad n a b m + (a * (n : Int) + b) / m = (0 + (-a * ((0 : Nat) : Int) + (b + a * (n : Int))) / m) + _
    have e2 : -a * ((0 : Nat) : Int) + (b + a * (n : Int)) = a * (n : Int) + b := by simp; omega
    have e3 : b + a * (n : Int) + -a * ((1 : Nat) : Int) = b + a * ((n : Int) - 1) := by
      have : ((1 : Nat) : Int) = 1 := rfl
      rw [this]; grind
    rw [e2, e3, ih]; omega
theorem lad_cop {p o : Int} (ho : 0 < o) (g : Int.gcd p o = 1) (k : Nat) (hk : (k : Int) < o) : lad k (-p) (-p) o = -lad k p p o - (k : Int) := by
  induction k with
  | zero => rfl
  | succ k ih =>
    show lad k (-p) (-p) o + (-p * (k : Int) + -p) / o = -(lad k p p o + (p * (k : Int) + p) / o) - ((k + 1 : Nat) : Int)
    rw [ih (by omega)]
    have e1 : p * (k : Int) + p = p * ((k : Int) + 1) := by grind
    have e2 : -p * (k : Int) + -p = -(p * ((k : Int) + 1)) := by grind
    have nd : p * ((k : Int) + 1) % o ≠ 0 := fun z => by
      have d : o ∣ p * ((k : Int) + 1) := Int.dvd_of_emod_eq_zero z
      have d2 : o ∣ ((k : Int) + 1) := by
        have w := Int.dvd_gcd_mul_iff_dvd_mul.mpr d
        rw [Int.gcd_comm, g] at w
        simpa using w
      have := Int.le_of_dvd (by omega) d2
      omega
    rw [e1, e2]
    have h1 := Int.mul_ediv_add_emod (p * ((k : Int) + 1)) o
    have h2 := Int.emod_nonneg (p * ((k : Int) + 1)) (show o ≠ 0 by omega)
    have h3 := Int.emod_lt_of_pos (p * ((k : Int) + 1)) ho
    have : -(p * ((k : Int) + 1)) / o = -(p * ((k : Int) + 1) / o) - 1 := by
      refine ldiv_of (r := o - p * ((k : Int) + 1) % o) ?_ (by omega) (by omega)
      have : o * (-(p * ((k : Int) + 1) / o) - 1) = -(o * (p * ((k : Int) + 1) / o)) - o := by grind
      rw [this]; omega
    rw [this]; omega
theorem lad_half {p o : Int} (hp : 0 < p) (ho : 0 < o) (g : Int.gcd p o = 1) : lad o.toNat p 0 o = (p - 1) * (o - 1) / 2 := by
  have e0 : o.toNat = 1 + (o - 1).toNat := by omega
  rw [e0, lad_add]
  have l1 : lad 1 p 0 o = 0 := by
    show (0 : Int) + (p * ((0 : Nat) : Int) + 0) / o = 0
    simp
  have e1 : (0 : Int) + p * ((1 : Nat) : Int) = p := by simp
  rw [l1, e1]
  have t1 := lad_rev (o - 1).toNat p p o
  have hn : (((o - 1).toNat : Nat) : Int) = o - 1 := by omega
  rw [hn] at t1
  have e2 : p + p * (o - 1 - 1) = -p + p * o := by grind
  rw [e2, lad_b _ _ _ _ _ ho, lad_cop ho g _ (by omega), hn] at t1
  generalize lad (o - 1).toNat p p o = T at *
  have e3 : (p - 1) * (o - 1) = 2 * T := by
    have : p * (o - 1) - (o - 1) = (p - 1) * (o - 1) := by grind
    omega
  rw [e3]; omega
theorem lad_abs (n : Nat) (a b m : Int) (hm : 0 < m) : (lad n a b m).natAbs ≤ n * (a.natAbs * n + b.natAbs) := by
  suffices h : ∀ k : Nat, k ≤ n → (lad k a b m).natAbs ≤ k * (a.natAbs * n + b.natAbs) from h n (Nat.le_refl _)
  intro k hk
  induction k with
  | zero => simp [lad]
  | succ k ih =>
    have i := ih (by omega)
    have s : ((a * (k : Int) + b) / m).natAbs ≤ a.natAbs * n + b.natAbs := by
      have h1 : ((a * (k : Int) + b) / m).natAbs ≤ (a * (k : Int) + b).natAbs := Int.natAbs_ediv_le_natAbs _ _
      have h2 : (a * (k : Int) + b).natAbs ≤ a.natAbs * k + b.natAbs := by
        refine Nat.le_trans (Int.natAbs_add_le _ _) ?_
        rw [Int.natAbs_mul]; simp
      have h3 : a.natAbs * k ≤ a.natAbs * n := Nat.mul_le_mul_left _ (by omega)
      omega
    have t : (lad (k + 1) a b m).natAbs ≤ (lad k a b m).natAbs + ((a * (k : Int) + b) / m).natAbs := Int.natAbs_add_le _ _
    rw [Nat.succ_mul]; omega
theorem fdiv_p {x m : Int} (h : 0 < m) : x.fdiv m = x / m := Int.fdiv_eq_ediv_of_nonneg x (by omega)
theorem fmod_p {x m : Int} (h : 0 < m) : x.fmod m = x % m := Int.fmod_eq_emod_of_nonneg x (by omega)
theorem bd_ediv {a : Nat} {x m : Int} (h : Bd a x) : Bd a (x / m) := ⟨Nat.lt_of_le_of_lt (Int.natAbs_ediv_le_natAbs _ _) h.h⟩
theorem bd_emod {b : Nat} {x m : Int} (h : Bd b m) (hm : 0 < m) : Bd b (x % m) := ⟨by
  have h1 := Int.emod_nonneg x (show m ≠ 0 by omega)
  have h2 := Int.emod_lt_of_pos x hm
  have := h.h
  omega⟩
theorem bd_le {a : Nat} {x y : Int} (h : Bd a y) (h0 : 0 ≤ x) (h1 : x ≤ y) : Bd a x := ⟨by have := h.h; omega⟩
theorem lad_bd {n : Nat} {a b m : Int} {c d : Nat} (hm : 0 < m) (hn : Bd c (n : Int)) (ha : Bd d a) (hb : Bd (c + d) b) : Bd (c + (c + d + 1)) (lad n a b m) := ⟨by
  refine Nat.lt_of_le_of_lt (lad_abs n a b m hm) ?_
  have h1 : n < 2 ^ c := by have := hn.h; simpa using this
  have h2 : a.natAbs * n ≤ 2 ^ d * 2 ^ c := Nat.mul_le_mul (Nat.le_of_lt ha.h) (Nat.le_of_lt h1)
  have h3 : 2 ^ d * 2 ^ c = 2 ^ (c + d) := by rw [Nat.add_comm, Nat.pow_add]
  have h4 := hb.h
  have h5 : a.natAbs * n + b.natAbs < 2 ^ (c + d + 1) := by rw [Nat.pow_succ]; omega
  have p : 0 < 2 ^ (c + d + 1) := Nat.pow_pos (by decide)
  rw [Nat.pow_add]
  exact Nat.lt_of_le_of_lt (Nat.mul_le_mul_left n (Nat.le_of_lt h5)) (Nat.mul_lt_mul_of_pos_right h1 p)⟩
/-- a ladder -/
def spLad : DSp := fun ds Q => ∃ n a b m : Int, ds = [.int n, .int a, .int b, .int m] ∧ 0 ≤ n ∧ 0 < m ∧ Bd 140 n ∧ Bd 140 a ∧ Bd 280 b ∧ Bd 140 m ∧ Q (.int (lad n.toNat a b m))
/-- n grows no more -/
theorem lad_next {n a b m : Int} (n0 : 0 ≤ n) (hm : 0 < m) : 0 ≤ (a % m * n + b % m) / m ∧ (a % m * n + b % m) / m ≤ n := by
  have a1 := Int.emod_nonneg a (show m ≠ 0 by omega)
  have a2 := Int.emod_lt_of_pos a hm
  have b1 := Int.emod_nonneg b (show m ≠ 0 by omega)
  have b2 := Int.emod_lt_of_pos b hm
  have p : 0 ≤ a % m * n := Int.mul_nonneg a1 n0
  refine ⟨Int.ediv_nonneg (by omega) (by omega), ?_⟩
  have q : a % m * n ≤ (m - 1) * n := Int.mul_le_mul_of_nonneg_right (by omega) n0
  have e : (m - 1) * n = m * n - n := by grind
  have l : (a % m * n + b % m) / m < n + 1 := by
    refine Int.ediv_lt_of_lt_mul hm ?_
    have : (n + 1) * m = m * n + m := by grind
    omega
  omega
/-- behind the last turn -/
theorem lad_next0 {n a b m : Int} (n0 : 0 ≤ n) (hm : 0 < m) (h : 0 < (a % m * n + b % m) / m) : 0 < a % m := by
  have a1 := Int.emod_nonneg a (show m ≠ 0 by omega)
  have b1 := Int.emod_nonneg b (show m ≠ 0 by omega)
  have b2 := Int.emod_lt_of_pos b hm
  rcases Int.lt_or_eq_of_le a1 with z | z
  · exact z
  · rw [← z, Int.zero_mul, Int.zero_add, Int.ediv_eq_zero_of_lt b1 b2] at h
    omega
theorem lad_c {n a b m z : Int} (h0 : 0 ≤ n) (hm : 0 < m) (bn : Bd 140 n) (ba : Bd 140 a) (bb : Bd 280 b) (bm : Bd 140 m) (e : lad n.toNat a b m = z) {Q : D → Prop} (h : Q (.int z)) : spLad [.int n, .int a, .int b, .int m] Q := ⟨n, a, b, m, rfl, h0, hm, bn, ba, bb, bm, e ▸ h⟩
theorem lad_sum (n : Nat) (a b : Int) {m : Int} (hm : 0 < m) : ((List.range n).map fun i : Nat => (a * ((0 : Int) + (i : Int)) + b).fdiv m).sum = lad n a b m := by
  induction n with
  | zero => rfl
  | succ n ih =>
    rw [List.range_succ, List.map_append, List.sum_append, ih]
    show lad n a b m + ((a * ((0 : Int) + (n : Int)) + b).fdiv m + 0) = lad n a b m + (a * (n : Int) + b) / m
    rw [fdiv_p hm, Int.zero_add, Int.add_zero]
theorem ne_no {x y : Int} {R : Bool → Prop} (e : x = y) (h : R false) : R (!decide (x = y)) := by rw [decide_eq_true e]; exact h
theorem gcd_out {p o : Int} (hp : 0 < p) (ho : 0 < o) : ∃ a b : Int, 0 < a ∧ 0 < b ∧ a ≤ p ∧ b ≤ o ∧ Int.gcd a b = 1 ∧ p.fdiv (Int.gcd p o : Int) = a ∧ o.fdiv (Int.gcd p o : Int) = b := by
  have g0 : 0 < (Int.gcd p o : Int) := by
    have : Int.gcd p o ≠ 0 := fun z => by have := (Int.gcd_eq_zero_iff.mp z).1; omega
    omega
  obtain ⟨a, ha⟩ : (Int.gcd p o : Int) ∣ p := Int.gcd_dvd_left ..
  obtain ⟨b, hb⟩ : (Int.gcd p o : Int) ∣ o := Int.gcd_dvd_right ..
  have a0 : 0 < a := by
    rcases Int.lt_or_le 0 a with z | z
    · exact z
    · have := Int.mul_nonneg (show 0 ≤ (Int.gcd p o : Int) by omega) (show 0 ≤ -a by omega)
      rw [Int.mul_neg, ← ha] at this; omega
  have b0 : 0 < b := by
    rcases Int.lt_or_le 0 b with z | z
    · exact z
    · have := Int.mul_nonneg (show 0 ≤ (Int.gcd p o : Int) by omega) (show 0 ≤ -b by omega)
      rw [Int.mul_neg, ← hb] at this; omega
  have la : 1 * a ≤ (Int.gcd p o : Int) * a := Int.mul_le_mul_of_nonneg_right (by omega) (by omega)
  have lb : 1 * b ≤ (Int.gcd p o : Int) * b := Int.mul_le_mul_of_nonneg_right (by omega) (by omega)
  have gg : Int.gcd p o = Int.gcd p o * Int.gcd a b := by
    have := Int.gcd_mul_left (Int.gcd p o : Int) a b
    rw [← ha, ← hb] at this
    simpa using this
  refine ⟨a, b, a0, b0, by omega, by omega, ?_, ?_, ?_⟩
  · have : Int.gcd p o * 1 = Int.gcd p o * Int.gcd a b := by omega
    exact (Nat.eq_of_mul_eq_mul_left (by omega) this).symm
  · conv => lhs; arg 1; rw [ha]
    exact Int.mul_fdiv_cancel_left a (by omega)
  · conv => lhs; arg 1; rw [hb]
    exact Int.mul_fdiv_cancel_left b (by omega)
def GB (g : Int) : Prop := 0 < g ∧ Bd 132 g
end PH


namespace K85
open PySem PySem.Spec L2 PH
open PyProof.Rows (envOfC)
/-! ### the text by places -/
def top (i : Nat) : Stmt := PySem.Challenge.pw_plateheaps_k85_ladders.main.body.getD i (.Pass ⟨0, 0, 0, 0⟩)
abbrev s_ladder : Stmt := top 1
abbrev s_l_open_cells : Stmt := top 3
abbrev s_l_pick : Stmt := top 4
abbrev s_l_common : Stmt := top 5
abbrev s_law : Stmt := top 6
/-! ### the head: facts by names -/
def d_ladder : He.DefD := ⟨("ladder", none), "ladder", "ladder", defArgs s_ladder, defBody s_ladder, defScope s_ladder, [], []⟩
def d_l_open_cells : He.DefD := ⟨("_law_open_cells", none), "_law_open_cells", "_law_open_cells", defArgs s_l_open_cells, defBody s_l_open_cells, defScope s_l_open_cells, [], []⟩
def d_l_pick : He.DefD := ⟨("_law_pick", none), "_law_pick", "_law_pick", defArgs s_l_pick, defBody s_l_pick, defScope s_l_pick, [], []⟩
def d_l_common : He.DefD := ⟨("_law_common", none), "_law_common", "_law_common", defArgs s_l_common, defBody s_l_common, defScope s_l_common, [], []⟩
def d_law : He.DefD := ⟨("law", none), "law", "law", defArgs s_law, defBody s_law, defScope s_law, [], []⟩
def fnL : List He.DefD := [d_ladder, d_l_open_cells, d_l_pick, d_l_common, d_law]
def faL : List He.Fa := [.glo "ladder", .glo "_law_open_cells", .glo "_law_pick", .glo "_law_common", .glo "law", .free "abs", .free "int", .free "len", .free "range", .free "sum"]
def exB (K : PySem.W.Frag) : Bool := true
structure Tx (K : PySem.W.Frag) (mg : Str → Option Value) : Prop where
  b_abs : mg "abs" = none
  b_int : mg "int" = none
  b_len : mg "len" = none
  b_range : mg "range" = none
  b_sum : mg "sum" = none
  f_ladder : Dfn K mg "ladder" s_ladder
  f_l_open_cells : Dfn K mg "_law_open_cells" s_l_open_cells
  f_l_pick : Dfn K mg "_law_pick" s_l_pick
  f_l_common : Dfn K mg "_law_common" s_l_common
  f_law : Dfn K mg "law" s_law
theorem tx_of {K : PySem.W.Frag} {h : Heap} {mg : Str → Option Value} (X : K.In h) (G : h.Ns mainGlobals mg) (c : SaysE faL fnL exB K) : Tx K mg where
  b_abs := He.free_ok X G (c.d.fact 5 (f := .free "abs") rfl)
  b_int := He.free_ok X G (c.d.fact 6 (f := .free "int") rfl)
  b_len := He.free_ok X G (c.d.fact 7 (f := .free "len") rfl)
  b_range := He.free_ok X G (c.d.fact 8 (f := .free "range") rfl)
  b_sum := He.free_ok X G (c.d.fact 9 (f := .free "sum") rfl)
  f_ladder := let ⟨fd, F⟩ := c.d.def_ 0 (d := d_ladder) rfl; ⟨_, fd, He.glo_ok X G (c.d.fact 0 (f := .glo "ladder") rfl), toFun F⟩
  f_l_open_cells := let ⟨fd, F⟩ := c.d.def_ 1 (d := d_l_open_cells) rfl; ⟨_, fd, He.glo_ok X G (c.d.fact 1 (f := .glo "_law_open_cells") rfl), toFun F⟩
  f_l_pick := let ⟨fd, F⟩ := c.d.def_ 2 (d := d_l_pick) rfl; ⟨_, fd, He.glo_ok X G (c.d.fact 2 (f := .glo "_law_pick") rfl), toFun F⟩
  f_l_common := let ⟨fd, F⟩ := c.d.def_ 3 (d := d_l_common) rfl; ⟨_, fd, He.glo_ok X G (c.d.fact 3 (f := .glo "_law_common") rfl), toFun F⟩
  f_law := let ⟨fd, F⟩ := c.d.def_ 4 (d := d_law) rfl; ⟨_, fd, He.glo_ok X G (c.d.fact 4 (f := .glo "law") rfl), toFun F⟩
abbrev N_ladder : List Str := ["n", "a", "b", "m", "total", "reached"]
theorem sc_ladder : FnScope ["n", "a", "b", "m", "total", "reached"] ["n", "a", "b", "m"] (defScope s_ladder) := ⟨rfl, rfl, rfl, by decide +kernel, rfl, by decide +kernel, by decide +kernel⟩
theorem bn_ladder : BindOk "ladder" ["n", "a", "b", "m"] s_ladder := fun _ _ _ _ _ _ us hl => match us, hl with | [_, _, _, _], _ => rfl
abbrev N_l_open_cells : List Str := ["_law_script", "_law_mixed", "_law_cell", "_law_digits"]
theorem sc_l_open_cells : FnScope ["_law_script", "_law_mixed", "_law_cell", "_law_digits"] ["_law_script"] (defScope s_l_open_cells) := ⟨rfl, rfl, rfl, by decide +kernel, rfl, by decide +kernel, by decide +kernel⟩
theorem bn_l_open_cells : BindOk "_law_open_cells" ["_law_script"] s_l_open_cells := fun _ _ _ _ _ _ us hl => match us, hl with | [_], _ => rfl
abbrev N_l_pick : List Str := ["_law_source", "_law_most", "_law_digits", "_law_left", "_law_laps", "_law_mixed"]
theorem sc_l_pick : FnScope ["_law_source", "_law_most", "_law_digits", "_law_left", "_law_laps", "_law_mixed"] ["_law_source", "_law_most"] (defScope s_l_pick) := ⟨rfl, rfl, rfl, by decide +kernel, rfl, by decide +kernel, by decide +kernel⟩
theorem bn_l_pick : BindOk "_law_pick" ["_law_source", "_law_most"] s_l_pick := fun _ _ _ _ _ _ us hl => match us, hl with | [_, _], _ => rfl
abbrev N_l_common : List Str := ["_law_a", "_law_b"]
theorem sc_l_common : FnScope ["_law_a", "_law_b"] ["_law_a", "_law_b"] (defScope s_l_common) := ⟨rfl, rfl, rfl, by decide +kernel, rfl, by decide +kernel, by decide +kernel⟩
theorem bn_l_common : BindOk "_law_common" ["_law_a", "_law_b"] s_l_common := fun _ _ _ _ _ _ us hl => match us, hl with | [_, _], _ => rfl
abbrev N_law : List Str := ["_law_script", "_law_source", "_law_lap", "_law_n", "_law_m", "_law_a", "_law_b", "_law_great", "_law_k", "_law_step", "_law_one", "_law_other", "_law_both"]
theorem sc_law : FnScope ["_law_script", "_law_source", "_law_lap", "_law_n", "_law_m", "_law_a", "_law_b", "_law_great", "_law_k", "_law_step", "_law_one", "_law_other", "_law_both"] ["_law_script"] (defScope s_law) := ⟨rfl, rfl, rfl, by decide +kernel, rfl, by decide +kernel, by decide +kernel⟩
theorem bn_law : BindOk "law" ["_law_script"] s_law := fun _ _ _ _ _ _ us hl => match us, hl with | [_], _ => rfl
section
variable {P : Program} {w : World} {K : PySem.W.Frag} {mg : Str → Option Value} {base : Heap}
theorem ok_ladder (T : Tx K mg) : DefOk P w K mg base 1 "ladder" ["n", "a", "b", "m"] spLad := by
  refine defOk T.f_ladder sc_ladder bn_ladder (fun f cdv A outer s H hr hg => (pss_dc (psd_set (i := 4) sc_ladder.nd rfl (Or.inl rfl) pd_int)
      (pss_dc (psd_while PassesOwn.never (pdt_gt (pd_var 0) pd_int) (pss_dc (psd_set (i := 4) sc_ladder.nd rfl (Or.inl rfl) (pd_addA (pd_addA (pd_var 4) (pd_mulA (pd_fd (pd_var 1) (pd_var 3)) (pd_fd (pd_mulA (pd_var 0) (pd_sub (pd_var 0) pd_int)) pd_int))) (pd_mulA (pd_fd (pd_var 2) (pd_var 3)) (pd_var 0))))
      (pss_dc (psd_par (i := 1) (j := 2) rfl sc_ladder.nd rfl rfl (by decide) rfl rfl (pda_cons (pd_mod (pd_var 1) (pd_var 3)) (pda_cons (pd_mod (pd_var 2) (pd_var 3)) pda_nil)) rfl)
      (pss_dc (psd_set (i := 5) sc_ladder.nd rfl (Or.inl rfl) (pd_addA (pd_mulA (pd_var 1) (pd_var 0)) (pd_var 2)))
      (pss_d1 (psd_asg (pd_tup (pda_cons (pd_fd (pd_var 5) (pd_var 3)) (pda_cons (pd_var 3) (pda_cons (pd_mod (pd_var 5) (pd_var 3)) (pda_cons (pd_var 1) pda_nil))))) (pdg_tup rfl (pdgs_cons (i := 0) sc_ladder.nd rfl (Or.inl rfl) (pdgs_cons (i := 1) sc_ladder.nd rfl (Or.inl rfl) (pdgs_cons (i := 2) sc_ladder.nd rfl (Or.inl rfl) (pdgs_cons (i := 3) sc_ladder.nd rfl (Or.inl rfl) pdgs_nil)))))))))))
      (pss_d1 (psd_ret (pd_var 4)))))) ?_
  rintro ds Qd _ ⟨n0, a0, b0, m0, rfl, hn0, hm0, bn, ba, bb, bm, h⟩
  show dSeq _ _ _ [.val (.int n0), .val (.int a0), .val (.int b0), .val (.int m0), .emp, .emp]
  refine dSeq_g (fun σ => σ = [.val (.int n0), .val (.int a0), .val (.int b0), .val (.int m0), .val (.int 0), .emp]) ?_ ?_
  · intro N hN
    simp only [dSeq, dNext, dRet, dIf, dDrop, dAsg, dgName, dgNil, dgCons, dgTup, dPar, dPar3, dOwn, dApp, dFrz, dVar, dC, dOp, dI, dI0, dB0, dNeg, dTup, dLst, dBoolT, dAndT, dOrT, dNotT, dAndV, dOrV, dNotV, dCall, dCall0, dB, dIsi, dRepr, dAbs, dInt1, dInt2, dAll, dstart, dwipe, clean, Sl.clean, List.map_cons, List.map_nil, List.length_cons, List.length_nil, List.replicate, List.cons_append, List.nil_append, List.set_cons_zero, List.set_cons_succ, List.getElem?_cons_zero, List.getElem?_cons_succ, Nat.reduceAdd, Nat.reduceSub, Nat.add_zero, Nat.zero_add, Nat.add_sub_cancel, Nat.sub_self, atI_0, atI_1, atI_2, atI_3, dLtI, dLeI, dGtI, dGeI, dSub, dFd, dMod, dPow, eAdd_i, eAdd_l, eMul_i, eMul_l, eIx_l, eIx_t, eLen_l, eLen_t, eInt_i, eInt_b, eEq_i, eNe_i, eEq_e, dRaise, dRetX, dTry, dGcd3, dIsB, dChain, dZip, dItT, dItL, dSl, dNoPart, dPart, dChain, dgUnl, dParO, notN_no, notN_t, isN_no, dRev]
    exact hN _ rfl
  rintro σ2 rfl
  have LB : Bd 421 (lad n0.toNat a0 b0 m0) := (lad_bd (c := 140) (d := 140) hm0 (by rw [Int.toNat_of_nonneg hn0]; exact bn) ba bb).mono (by decide)
  generalize hL : lad n0.toNat a0 b0 m0 = L0 at h LB
  refine dSeq_g (fun σ => ∃ (n a b m : Int) (x5 : Sl), σ = [.val (.int n), .val (.int a), .val (.int b), .val (.int m), .val (.int L0), x5]) ?_ ?_
  · intro N hN
    refine ⟨fun k σ => ∃ (n a b m t : Int) (x5 : Sl), k = m.toNat ∧ 0 ≤ n ∧ (0 < n → 0 < m) ∧ Bd 140 n ∧ Bd 140 a ∧ Bd 280 b ∧ Bd 140 m ∧ t + lad n.toNat a b m = L0 ∧ σ = [.val (.int n), .val (.int a), .val (.int b), .val (.int m), .val (.int t), x5], ⟨_, n0, a0, b0, m0, 0, _, rfl, hn0, fun _ => hm0, bn, ba, bb, bm, by rw [hL]; omega, rfl⟩, ?_⟩
    rintro k σ' ⟨n, a, b, m, t, x5, rfl, hn, hnm, cn, ca, cb, cm, e, rfl⟩
    simp only [dSeq, dNext, dRet, dIf, dDrop, dAsg, dgName, dgNil, dgCons, dgTup, dPar, dPar3, dOwn, dApp, dFrz, dVar, dC, dOp, dI, dI0, dB0, dNeg, dTup, dLst, dBoolT, dAndT, dOrT, dNotT, dAndV, dOrV, dNotV, dCall, dCall0, dB, dIsi, dRepr, dAbs, dInt1, dInt2, dAll, dstart, dwipe, clean, Sl.clean, List.map_cons, List.map_nil, List.length_cons, List.length_nil, List.replicate, List.cons_append, List.nil_append, List.set_cons_zero, List.set_cons_succ, List.getElem?_cons_zero, List.getElem?_cons_succ, Nat.reduceAdd, Nat.reduceSub, Nat.add_zero, Nat.zero_add, Nat.add_sub_cancel, Nat.sub_self, atI_0, atI_1, atI_2, atI_3, dLtI, dLeI, dGtI, dGeI, dSub, dFd, dMod, dPow, eAdd_i, eAdd_l, eMul_i, eMul_l, eIx_l, eIx_t, eLen_l, eLen_t, eInt_i, eInt_b, eEq_i, eNe_i, eEq_e, dRaise, dRetX, dTry, dGcd3, dIsB, dChain, dZip, dItT, dItL, dSl, dNoPart, dPart, dChain, dgUnl, dParO, notN_no, notN_t, isN_no, dRev]
    by_cases z : n > 0
    · have hm := hnm z
      refine ifT (decide_eq_true z) ?_
      have nt : ((n.toNat : Nat) : Int) = n := Int.toNat_of_nonneg hn
      have e2 := lad_turn n.toNat a b hm
      rw [nt] at e2
      obtain ⟨y0, y1⟩ := lad_next (a := a) (b := b) hn hm
      have y2 := lad_next0 (a := a) (b := b) hn hm
      have c1 : Bd 140 (n - 1) := bd_le cn (by omega) (by omega)
      have c2 : Bd 280 (n * (n - 1)) := @bd_mul _ _ _ _ cn c1
      have d2 : Bd 2 (2 : Int) := ⟨by decide⟩
      have c3 : Bd 280 (n * (n - 1) / 2) := bd_ediv c2
      have c4 : Bd 140 (a / m) := bd_ediv ca
      have c5 : Bd 280 (b / m) := bd_ediv cb
      have c6 : Bd 140 (a % m) := bd_emod cm hm
      have mn : m ≠ 0 := by omega
      rw [fdiv_p hm, fdiv_p (x := n * (n - 1)) (show (0 : Int) < 2 by decide), fdiv_p (x := b) hm, fmod_p (x := a) hm, fmod_p (x := b) hm, fdiv_p hm, fmod_p hm]
      refine ⟨cfd mn cm (by decide), cmb cn c1 (by decide), cfd (by decide) d2 (by decide), cmb c4 c3 (by decide), cfd mn cm (by decide), cmb c5 cn (by decide), mn, mn, cmb c6 cn (by decide), cfd mn cm (by decide), mn, ?_⟩
      have t2 : n * (n - 1) / 2 = trg n.toNat := by have := trg_div n.toNat; rw [nt] at this; exact this
      have a1 := Int.emod_nonneg a mn
      have a2 := Int.emod_lt_of_pos a hm
      refine ⟨(a % m).toNat, by omega, _, _, _, _, _, _, rfl, y0, y2, bd_le cn y0 y1, cm, (bd_emod cm hm).mono (by decide), c6, ?_, rfl⟩
      rw [t2]
      omega
    · refine ifF (decide_eq_false z) ?_
      have z0 : n = 0 := by omega
      subst z0
      have et : t = L0 := by
        have : lad (0 : Int).toNat a b m = 0 := rfl
        omega
      subst et
      exact hN _ ⟨_, _, _, _, _, rfl⟩
  rintro σ2 ⟨n, a, b, m, x5, rfl⟩
  simp only [dSeq, dNext, dRet, dIf, dDrop, dAsg, dgName, dgNil, dgCons, dgTup, dPar, dPar3, dOwn, dApp, dFrz, dVar, dC, dOp, dI, dI0, dB0, dNeg, dTup, dLst, dBoolT, dAndT, dOrT, dNotT, dAndV, dOrV, dNotV, dCall, dCall0, dB, dIsi, dRepr, dAbs, dInt1, dInt2, dAll, dstart, dwipe, clean, Sl.clean, List.map_cons, List.map_nil, List.length_cons, List.length_nil, List.replicate, List.cons_append, List.nil_append, List.set_cons_zero, List.set_cons_succ, List.getElem?_cons_zero, List.getElem?_cons_succ, Nat.reduceAdd, Nat.reduceSub, Nat.add_zero, Nat.zero_add, Nat.add_sub_cancel, Nat.sub_self, atI_0, atI_1, atI_2, atI_3, dLtI, dLeI, dGtI, dGeI, dSub, dFd, dMod, dPow, eAdd_i, eAdd_l, eMul_i, eMul_l, eIx_l, eIx_t, eLen_l, eLen_t, eInt_i, eInt_b, eEq_i, eNe_i, eEq_e, dRaise, dRetX, dTry, dGcd3, dIsB, dChain, dZip, dItT, dItL, dSl, dNoPart, dPart, dChain, dgUnl, dParO, notN_no, notN_t, isN_no, dRev]
  exact h
theorem ok_l_open_cells (T : Tx K mg) : NameOk P w K mg base 1 "_law_open_cells" ["_law_script"] (spCells K) := by
  refine nameOk T.f_l_open_cells sc_l_open_cells bn_l_open_cells (fun vs H Q E h => ?_) (fun f cdv A outer s H vs Q hr hg h => ?_)
  · obtain ⟨_, _, rfl, _⟩ := h
    rfl
  obtain ⟨a, ns, rfl, hS, hlen, hbits, k⟩ := h
  refine ⟨_, pss_cons (ps_set (i := 1) sc_l_open_cells.nd rfl (Or.inl rfl) pe_int)
    (pss_cons (ps_for PassesOwn.never rfl (pi_list (pv 0)) (pg_name (i := 2) sc_l_open_cells.nd rfl (Or.inl rfl))
      (pss_one (ps_set (i := 1) sc_l_open_cells.nd rfl (Or.inl rfl) (pe_op op_mod (pe_callTy call_int1 rfl T.b_int (by decide +kernel) (pa_cons (pe_op op_add (pe_op op_add (pe_op op_mul (pv 1) pe_int) (pe_op op_mul (pv 2) pe_int)) pe_int) pa_nil)) pe_int))))
    (pss_cons (ps_setLc (i := 3) (own := [("_law_cell", 2)]) (g := gName 2) (tt := tYes) rfl sc_l_open_cells.nd rfl rfl (sw_true rfl rfl rfl (by decide +kernel)) (pi_list (pv 0)) (blkOk_by (N := N_l_open_cells) (sc := defScope s_l_open_cells) (by decide +kernel))
      (fun _ _ _ _ _ => pg_name sc_l_open_cells.nd rfl (Or.inl rfl)) (fun _ _ _ _ _ => pts_nil) (fun _ _ _ _ _ => pe_callB call_abs (by rfl) T.b_abs (by decide +kernel) (pa_cons (pv 2) pa_nil)))
    (pss_one (ps_ret (pe_disp (pps_cons pe_str (pe_revL (pv 3)) (pps_cons pe_str pe_int (pps_cons pe_str (pv 1) (pps_cons pe_str pe_int pps_nil)))) rfl rfl (by simp) (by decide)))))), ?_⟩
  -- the loop
  refine ⟨_, rfl, a, rfl, ⟨_, hS⟩, for_list (K := K) (a := a) (xs := ns.map V.int) (fun i σ H2 => H2 = H ∧ ∃ (m : Int) (v : Option V), σ = [some (.ref a), some (.int m), v, none])
    ⟨rfl, 11, none, rfl⟩ (fun i σ H2 _ ⟨e, _⟩ => e ▸ hS) ?_ ?_⟩
  · rintro i x σ H2 hx ⟨eH, m, v, rfl⟩
    subst H2
    obtain ⟨z, rfl⟩ : ∃ z, x = V.int z := by
      rw [List.getElem?_map] at hx
      cases e : ns[i]? with
      | none => rw [e] at hx; cases hx
      | some z => rw [e] at hx; exact ⟨z, (Option.some.inj hx).symm⟩
    refine ⟨_, rfl, _, _, rfl, rfl, Or.inr ⟨by decide, by decide⟩, _, rfl, _, _, rfl, rfl, Or.inr ⟨by decide, by decide⟩, _, _, rfl, rfl, _, _, rfl, rfl, Or.inl ⟨_, rfl, _, _, rfl, rfl, (by show (0 : Int) < 2147483629; decide), ?_⟩⟩
    exact ⟨rfl, _, _, rfl⟩
  rintro σ H2 ⟨eH, m, v, rfl⟩
  subst H2
  -- the cells
  refine ⟨_, rfl, a, rfl, ⟨_, hS⟩, fun Dl hD => ?_⟩
  have hSD : ∀ o, SqL K (upd H Dl o) a (ns.map V.int) := fun o => (Same.upd hD).seq hS
  refine lc_list (K := K) (a := a) (xs := ns.map V.int) (fun i H2 => ∃ ms : List Int, H2 = upd H Dl (.lst (ms.map V.int)) ∧ ms.length ≤ i) ⟨[], rfl, Nat.le_refl _⟩ (fun i H2 _ ⟨ms, e, _⟩ => e ▸ hSD _) ?_ ?_
  · rintro i x H2 hx ⟨ms, rfl, hms⟩
    obtain ⟨z, rfl⟩ : ∃ z, x = V.int z := by
      rw [List.getElem?_map] at hx
      cases e : ns[i]? with
      | none => rw [e] at hx; cases hx
      | some z => rw [e] at hx; exact ⟨z, (Option.some.inj hx).symm⟩
    have hi : i < ns.length := by
      rw [List.getElem?_map] at hx
      cases e : ns[i]? with
      | none => rw [e] at hx; cases hx
      | some z => exact (List.getElem?_eq_some_iff.mp e).1
    refine ⟨rfl, ?_⟩
    simp only [tYes, if_true]
    refine ⟨_, rfl, _, rfl, _, upd_same, by rw [List.length_map, sizeLine_eq]; omega, ms ++ [if z < 0 then -z else z], ?_, by simp; omega⟩
    rw [upd_upd, List.map_append]; rfl
  rintro H2 ⟨ms, rfl, hms⟩
  -- the dict
  intro p hp
  have hDp : Dl ≠ p := ne_of_none upd_same hp
  refine ⟨_, rfl, Dl, _, rfl, Or.inl (Or.inl (by rw [upd_ne hDp]; exact upd_same)), fun c hc => ?_⟩
  have hcp : c ≠ p := fun z => by subst z; rw [upd_same] at hc; cases hc
  have hcD : c ≠ Dl := fun z => by subst z; rw [upd_ne hDp, upd_same] at hc; cases hc
  refine ⟨_, rfl, ?_⟩
  refine ⟨by rw [upd_ne hcp.symm, upd_same], [(.inr "cells", .ref c), (.inr "left", .int 1), (.inr "mixed", .int m), (.inr "turn", .int 0)], rfl, by simp, ?_⟩
  refine k p c ms.reverse 1 m 0 _ ?_ ?_ hcp.symm (fun b o e => ?_) ?_ ?_
  · cases q : H p with
    | none => rfl
    | some o => rw [upd_ne (ne_of_none (H := upd H Dl (.lst (ms.map V.int))) (upd_same) hp).symm] at hp; rw [q] at hp; cases hp
  · cases q : H c with
    | none => rfl
    | some o => rw [upd_ne hcp, upd_ne hcD, q] at hc; cases hc
  · have h1 : b ≠ Dl := ne_of_none e hD
    have h2 : upd H Dl (.lst (ms.map V.int)) b = some o := by rw [upd_ne h1]; exact e
    have h3 : b ≠ p := ne_of_none h2 hp
    have h4 : upd (upd H Dl (.lst (ms.map V.int))) p (.dK []) b = some o := by rw [upd_ne h3]; exact h2
    rw [upd_ne h3, upd_ne (ne_of_none h4 hc)]; exact h4
  · rw [upd_ne hcp, upd_same, List.map_reverse]
  · rw [upd_same]; rfl

theorem ok_l_pick (T : Tx K mg) : DefOk P w K mg base 1 "_law_pick" ["_law_source", "_law_most"] spPick := by
  refine nameOk T.f_l_pick sc_l_pick bn_l_pick (fun vs H Q E h => ?_) (fun f cdv A outer s H vs Q hr hg h => ?_)
  · obtain ⟨_, _, _, _, _, _, _, l, _⟩ := h
    exact l
  obtain ⟨S, M, ds, Qd, hM, so, rs, _, ⟨m, rfl, hm, hq⟩, k⟩ := h
  have hu := hu_of hr
  cases rs with
  | cons r1 rs =>
  cases rs with
  | cons r2 rs =>
  cases rs
  cases r2
  cases r1 with
  | @src p c eS =>
  obtain ⟨hp, hc, hpc, ns0, l0, m0, t0, h1, h2⟩ := so p c eS
  have fin : ∀ {H' : Hp} (z : Int), (KeepS S H H' ∧ ∃ (ns : List Int) (l m t : Int), H' c = some (.lst (ns.map V.int)) ∧ H' p = some (.dK (srcKvs c l m t))) → 0 ≤ z → (z < m ∨ z = 0) → Q (.int z) H' := fun {H'} z ⟨kp, ns, l, mm, t, e1, e2⟩ g1 g2 =>
    k _ _ H' (hq z g1 g2) kp (fun p' c' e => by rw [eS] at e; cases e; exact ⟨hp, hc, hpc, ns, l, mm, t, e1, e2⟩) (.int z)
  have keepP : ∀ {H' : Hp} {o : HO}, KeepS S H H' → KeepS S H (upd H' p o) := fun {H' o} kp a u e n => by
    rw [upd_ne (n p c eS).1]; exact kp a u e n
  have keepC : ∀ {H' : Hp} {o : HO}, KeepS S H H' → KeepS S H (upd H' c o) := fun {H' o} kp a u e n => by
    rw [upd_ne (n p c eS).2]; exact kp a u e n
  have dg : ∀ {H' : Hp} {l mm t : Int}, H' p = some (.dK (srcKvs c l mm t)) → DGet H' p (.str "cells") (some (.ref c)) ∧ DGet H' p (.str "left") (some (.int l)) ∧ DGet H' p (.str "mixed") (some (.int mm)) ∧ DGet H' p (.str "turn") (some (.int t)) := fun {H' l mm t} e => by
    obtain ⟨a, b, d, f⟩ := srcKvs_val c l mm t
    exact ⟨a ▸ DGet.k (k := Sum.inr "cells") e, b ▸ DGet.k (k := Sum.inr "left") e, d ▸ DGet.k (k := Sum.inr "mixed") e, f ▸ DGet.k (k := Sum.inr "turn") e⟩
  refine ⟨_, pss_cons (ps_if (pt_cmpR op_lt (pv 1) pe_int (nomark _)) (pss_one (ps_ret pe_int)) pss_nil)
    (pss_cons (ps_set (i := 2) sc_l_pick.nd rfl (Or.inl rfl) (pe_dget hu (pv 0) pe_str (fun _ _ => rfl)))
    (pss_cons (ps_while PassesOwn.never (pw_and (pt_cmpR op_lt (pe_dget hu (pv 0) pe_str (fun _ _ => rfl)) pe_int (nomark _)) (pw_and1 (pt_cmpR op_gt (pe_callB call_len (by rfl) T.b_len PySem.boot_len (pa_cons (pv 2) pa_nil)) pe_int (nomark _)))).pt
      (pss_one (ps_dput hu (pv 0) pe_str (pe_bm0 PySem.F.plainAttrs_list PySem.F.slot_list_pop PySem.F.type_list_pop mt_pop (pv 2)) rfl)))
    (pss_cons (ps_set (i := 3) sc_l_pick.nd rfl (Or.inl rfl) (pe_dget hu (pv 0) pe_str (fun _ _ => rfl)))
    (pss_cons (ps_if (pt_cmpR op_gt (pv 3) pe_int (nomark _))
      (pss_cons (ps_dput hu (pv 0) pe_str (pe_op op_fdiv (pv 3) (pv 1)) rfl) (pss_one (ps_ret (pe_op op_mod (pe_callTy call_int1 rfl T.b_int (by decide +kernel) (pa_cons (pv 3) pa_nil)) (pv 1))))) pss_nil)
    (pss_cons (ps_dput hu (pv 0) pe_str (pe_op op_add (pe_dget hu (pv 0) pe_str (fun _ _ => rfl)) pe_int) rfl)
    (pss_cons (ps_set (i := 4) sc_l_pick.nd rfl (Or.inl rfl) (pe_dget hu (pv 0) pe_str (fun _ _ => rfl)))
    (pss_cons (ps_set (i := 5) sc_l_pick.nd rfl (Or.inl rfl) (pe_op op_mod (pe_callTy call_int1 rfl T.b_int (by decide +kernel) (pa_cons (pe_op op_add (pe_dget hu (pv 0) pe_str (fun _ _ => rfl)) (pe_op op_mul (pv 4) pe_int)) pa_nil)) pe_int))
    (pss_cons (ps_set (i := 5) sc_l_pick.nd rfl (Or.inl rfl) (pe_op op_mod (pe_callTy call_int1 rfl T.b_int (by decide +kernel) (pa_cons (pe_op op_add (pe_op op_mul (pv 5) (pv 5)) (pe_op op_mul (pv 4) pe_int)) pa_nil)) pe_int))
    (pss_one (ps_ret (pe_op op_mod (pe_callTy call_int1 rfl T.b_int (by decide +kernel) (pa_cons (pe_op op_fdiv (pv 5) pe_int) pa_nil)) (pv 1)))))))))))), ?_⟩
  -- if most < 2: return 0
  refine ⟨_, rfl, _, _, rfl, rfl, _, rfl, ?_⟩
  by_cases hm2 : m < 2
  · refine ifT (decide_eq_true hm2) ?_
    exact fin 0 ⟨.refl, ns0, l0, m0, t0, h1, h2⟩ (Int.le_refl 0) (.inr rfl)
  refine ifF (decide_eq_false hm2) ?_
  -- digits = source['cells']
  refine ⟨_, rfl, p, _, rfl, (dg h2).1, ?_⟩
  -- while
  refine ⟨fun n σ' H' => σ' = [some (.ref p), some (.int m), some (.ref c), none, none, none] ∧ KeepS S H H' ∧ ∃ (ns : List Int) (l mm t : Int), n = ns.length ∧ H' c = some (.lst (ns.map V.int)) ∧ H' p = some (.dK (srcKvs c l mm t)), ⟨_, rfl, .refl, ns0, l0, m0, t0, rfl, h1, h2⟩, ?_⟩
  rintro n σ' H' ⟨rfl, kp, ns, l, mm, t, rfl, e1, e2⟩
  refine ⟨_, rfl, p, _, rfl, (dg e2).2.1, _, _, rfl, rfl, _, rfl, ?_⟩
  by_cases hl : l < 2
  · refine ifT (decide_eq_true hl) ?_
    refine ⟨_, rfl, _, _, rfl, Or.inl ⟨_, Or.inl (Or.inl e1), rfl⟩, _, _, rfl, rfl, _, rfl, ?_⟩
    by_cases hn : 0 < ns.length
    · refine ifT (decide_eq_true (by rw [List.length_map]; omega)) ?_
      have hne : ns ≠ [] := fun z => by rw [z] at hn; exact absurd hn (by decide)
      refine ⟨fun σ2 H2 => σ2 = [some (.ref p), some (.int m), some (.ref c), none, none, none] ∧ KeepS S H H2 ∧ ∃ (l : Int), H2 c = some (.lst (ns.dropLast.map V.int)) ∧ H2 p = some (.dK (srcKvs c l mm t)), fun σ2 H2 ⟨q1, q2, l2, q3, q4⟩ => ⟨ns.dropLast.length, by rw [List.length_dropLast]; omega, q1, q2, ns.dropLast, l2, mm, t, rfl, q3, q4⟩, ?_⟩
      have hlast : (ns.map V.int)[(ns.map V.int).length - 1]? = some (.int (ns.getLast hne)) := by
        rw [List.length_map, List.getElem?_map, ← List.getLast?_eq_getElem?, List.getLast?_eq_some_getLast hne]; rfl
      refine ⟨_, rfl, Or.inl ⟨rfl, _, Or.inl (Or.inl e1)⟩, c, _, _, rfl, rfl, e1, hlast, _, rfl, p, _, rfl, DPut.k (k := Sum.inr "left") (by rw [upd_ne hpc]; exact e2) (by rw [sizeLine_eq]; show 4 < 16777216; decide), ?_⟩
      refine ⟨rfl, keepP (keepC kp), ns.getLast hne, ?_, ?_⟩
      · rw [upd_ne hpc.symm, upd_same, List.map_dropLast]
      · rw [upd_same, srcKvs_left]
    · refine ifF (decide_eq_false (by rw [List.length_map]; omega)) ?_
      -- left = source['left']; if left > 1
      refine ⟨_, rfl, p, _, rfl, (dg e2).2.1, ?_⟩
      refine ⟨_, rfl, _, _, rfl, rfl, _, rfl, ?_⟩
      by_cases hl1 : 1 < l
      · refine ifT (decide_eq_true hl1) ?_
        refine ⟨_, rfl, _, rfl, _, _, rfl, rfl, ⟨by omega, by omega⟩, _, rfl, p, _, rfl, DPut.k (k := Sum.inr "left") e2 (by rw [sizeLine_eq]; show 4 < 16777216; decide), ?_⟩
        refine ⟨_, rfl, Or.inl ⟨_, rfl, _, rfl, _, _, rfl, rfl, (by omega : (0 : Int) < m), ?_⟩⟩
        exact fin (l % m) ⟨keepP kp, ns, l / m, mm, t, by rw [upd_ne hpc.symm]; exact e1, by rw [upd_same, srcKvs_left]⟩ (Int.emod_nonneg _ (by omega)) (.inl (Int.emod_lt_of_pos _ (by omega)))
      refine ifF (decide_eq_false hl1) ?_
      refine ⟨_, rfl, p, _, rfl, (dg e2).2.2.2, _, _, rfl, rfl, _, rfl, p, _, rfl, DPut.k (k := Sum.inr "turn") e2 (by rw [sizeLine_eq]; show 4 < 16777216; decide), ?_⟩
      have e3 : upd H' p (.dK (putK (srcKvs c l mm t) (Sum.inr "turn") (.int (t + 1)))) p = some (.dK (srcKvs c l mm (t + 1))) := by rw [upd_same, srcKvs_turn]
      have e4 : upd H' p (.dK (putK (srcKvs c l mm t) (Sum.inr "turn") (.int (t + 1)))) c = some (.lst (ns.map V.int)) := by rw [upd_ne hpc.symm]; exact e1
      refine ⟨_, rfl, p, _, rfl, (dg e3).2.2.2, ?_⟩
      refine ⟨_, rfl, p, _, rfl, (dg e3).2.2.1, _, rfl, _, _, rfl, rfl, Or.inr ⟨by decide, by decide⟩, _, _, rfl, rfl, Or.inl ⟨_, rfl, _, _, rfl, rfl, (by show (0 : Int) < 998244353; decide), ?_⟩⟩
      have b0 : 0 ≤ (mm + (t + 1) * 104729) % 998244353 := Int.emod_nonneg _ (by decide)
      have b1 : (mm + (t + 1) * 104729) % 998244353 < 998244353 := Int.emod_lt_of_pos _ (by decide)
      refine ⟨_, rfl, _, rfl, _, _, rfl, rfl, Or.inl ⟨by omega, by omega⟩, _, rfl, _, _, rfl, rfl, Or.inr ⟨by decide, by decide⟩, _, _, rfl, rfl, Or.inl ⟨_, rfl, _, _, rfl, rfl, (by show (0 : Int) < 2147483647; decide), ?_⟩⟩
      refine ⟨_, rfl, _, _, rfl, rfl, ⟨by decide, by decide⟩, Or.inl ⟨_, rfl, _, rfl, _, _, rfl, rfl, (by omega : (0 : Int) < m), ?_⟩⟩
      exact fin _ ⟨keepP kp, ns, l, mm, t + 1, e4, e3⟩ (Int.emod_nonneg _ (by omega)) (.inl (Int.emod_lt_of_pos _ (by omega)))
  · refine ifF (decide_eq_false hl) ?_
    refine iteF ?_
    · skip
      -- left = source['left']; if left > 1
      refine ⟨_, rfl, p, _, rfl, (dg e2).2.1, ?_⟩
      refine ⟨_, rfl, _, _, rfl, rfl, _, rfl, ?_⟩
      by_cases hl1 : 1 < l
      · refine ifT (decide_eq_true hl1) ?_
        refine ⟨_, rfl, _, rfl, _, _, rfl, rfl, ⟨by omega, by omega⟩, _, rfl, p, _, rfl, DPut.k (k := Sum.inr "left") e2 (by rw [sizeLine_eq]; show 4 < 16777216; decide), ?_⟩
        refine ⟨_, rfl, Or.inl ⟨_, rfl, _, rfl, _, _, rfl, rfl, (by omega : (0 : Int) < m), ?_⟩⟩
        exact fin (l % m) ⟨keepP kp, ns, l / m, mm, t, by rw [upd_ne hpc.symm]; exact e1, by rw [upd_same, srcKvs_left]⟩ (Int.emod_nonneg _ (by omega)) (.inl (Int.emod_lt_of_pos _ (by omega)))
      refine ifF (decide_eq_false hl1) ?_
      refine ⟨_, rfl, p, _, rfl, (dg e2).2.2.2, _, _, rfl, rfl, _, rfl, p, _, rfl, DPut.k (k := Sum.inr "turn") e2 (by rw [sizeLine_eq]; show 4 < 16777216; decide), ?_⟩
      have e3 : upd H' p (.dK (putK (srcKvs c l mm t) (Sum.inr "turn") (.int (t + 1)))) p = some (.dK (srcKvs c l mm (t + 1))) := by rw [upd_same, srcKvs_turn]
      have e4 : upd H' p (.dK (putK (srcKvs c l mm t) (Sum.inr "turn") (.int (t + 1)))) c = some (.lst (ns.map V.int)) := by rw [upd_ne hpc.symm]; exact e1
      refine ⟨_, rfl, p, _, rfl, (dg e3).2.2.2, ?_⟩
      refine ⟨_, rfl, p, _, rfl, (dg e3).2.2.1, _, rfl, _, _, rfl, rfl, Or.inr ⟨by decide, by decide⟩, _, _, rfl, rfl, Or.inl ⟨_, rfl, _, _, rfl, rfl, (by show (0 : Int) < 998244353; decide), ?_⟩⟩
      have b0 : 0 ≤ (mm + (t + 1) * 104729) % 998244353 := Int.emod_nonneg _ (by decide)
      have b1 : (mm + (t + 1) * 104729) % 998244353 < 998244353 := Int.emod_lt_of_pos _ (by decide)
      refine ⟨_, rfl, _, rfl, _, _, rfl, rfl, Or.inl ⟨by omega, by omega⟩, _, rfl, _, _, rfl, rfl, Or.inr ⟨by decide, by decide⟩, _, _, rfl, rfl, Or.inl ⟨_, rfl, _, _, rfl, rfl, (by show (0 : Int) < 2147483647; decide), ?_⟩⟩
      refine ⟨_, rfl, _, _, rfl, rfl, ⟨by decide, by decide⟩, Or.inl ⟨_, rfl, _, rfl, _, _, rfl, rfl, (by omega : (0 : Int) < m), ?_⟩⟩
      exact fin _ ⟨keepP kp, ns, l, mm, t + 1, e4, e3⟩ (Int.emod_nonneg _ (by omega)) (.inl (Int.emod_lt_of_pos _ (by omega)))

theorem ok_l_common (T : Tx K mg) : DefOk P w K mg base 1 "_law_common" ["_law_a", "_law_b"] spCommon := by
  refine defOk T.f_l_common sc_l_common bn_l_common (fun f cdv A outer s H hr hg => (pss_dc (psd_par (i := 0) (j := 1) rfl sc_l_common.nd rfl rfl (by decide) rfl rfl (pda_cons (pd_blt call_abs lc_abs rfl T.b_abs (by decide +kernel) (pda_cons (pd_var 0) pda_nil)) (pda_cons (pd_blt call_abs lc_abs rfl T.b_abs (by decide +kernel) (pda_cons (pd_var 1) pda_nil)) pda_nil)) rfl)
      (pss_dc (psd_while PassesOwn.never (pdt_ne hr.units (pd_var 1) pd_int) (pss_d1 (psd_par (i := 0) (j := 1) rfl sc_l_common.nd rfl rfl (by decide) rfl rfl (pda_cons (pd_var 1) (pda_cons (pd_mod (pd_var 0) (pd_var 1)) pda_nil)) rfl)))
      (pss_d1 (psd_ret (pd_var 0)))))) ?_
  rintro ds Qd _ ⟨a, b, rfl, h⟩
  simp only [dSeq, dNext, dRet, dIf, dDrop, dAsg, dgName, dgNil, dgCons, dgTup, dPar, dPar3, dOwn, dApp, dFrz, dVar, dC, dOp, dI, dI0, dB0, dNeg, dTup, dLst, dBoolT, dAndT, dOrT, dNotT, dAndV, dOrV, dNotV, dIfE, dCall, dCall0, dB, dIsi, dRepr, dAbs, dInt1, dInt2, dAll, dstart, dwipe, clean, Sl.clean, List.map_cons, List.map_nil, List.length_cons, List.length_nil, List.replicate, List.cons_append, List.nil_append, List.set_cons_zero, List.set_cons_succ, List.getElem?_cons_zero, List.getElem?_cons_succ, Nat.reduceAdd, Nat.reduceSub, Nat.add_zero, Nat.zero_add, Nat.add_sub_cancel, Nat.sub_self, atI_0, atI_1, atI_2, atI_3, dLtI, dLeI, dGtI, dGeI, dSub, dFd, dMod, dPow, eAdd_i, eAdd_l, eMul_i, eMul_l, eIx_l, eIx_t, eLen_l, eLen_t, eInt_i, eInt_b, eEq_i, eNe_i, eEq_e]
  refine ⟨fun k σ => ∃ x y : Nat, σ = [.val (.int x), .val (.int y)] ∧ Nat.gcd x y = Int.gcd a b ∧ k = y, ⟨b.natAbs, a.natAbs, b.natAbs, ?_, rfl, rfl⟩, ?_⟩
  · have e : ∀ z : Int, (if z < 0 then -z else z) = (z.natAbs : Int) := fun z => by split <;> omega
    rw [e, e]
  · rintro k σ' ⟨x, y, rfl, hg, hk⟩
    subst hk
    simp only [dNe, dMod, dSeq, dNext, dRet, dIf, dDrop, dAsg, dgName, dgNil, dgCons, dgTup, dPar, dPar3, dOwn, dApp, dFrz, dVar, dC, dOp, dI, dI0, dB0, dNeg, dTup, dLst, dBoolT, dAndT, dOrT, dNotT, dAndV, dOrV, dNotV, dIfE, dCall, dCall0, dB, dIsi, dRepr, dAbs, dInt1, dInt2, dAll, dstart, dwipe, clean, Sl.clean, List.map_cons, List.map_nil, List.length_cons, List.length_nil, List.replicate, List.cons_append, List.nil_append, List.set_cons_zero, List.set_cons_succ, List.getElem?_cons_zero, List.getElem?_cons_succ, Nat.reduceAdd, Nat.reduceSub, Nat.add_zero, Nat.zero_add, Nat.add_sub_cancel, Nat.sub_self, atI_0, atI_1, atI_2, atI_3, dLtI, dLeI, dGtI, dGeI, dSub, dFd, dMod, dPow, eAdd_i, eAdd_l, eMul_i, eMul_l, eIx_l, eIx_t, eLen_l, eLen_t, eInt_i, eInt_b, eEq_i, eNe_i, eEq_e]
    by_cases hy : (k : Int) = 0
    · have hy0 : k = 0 := by omega
      subst hy0
      refine ifF (by simp) ?_
      rw [Nat.gcd_zero_right] at hg
      rw [hg]; exact h
    · refine ifT (by simpa using hy) ⟨fun z => hy z, x % k, ?_, k, x % k, ?_, ?_, rfl⟩
      · exact Nat.mod_lt _ (by omega)
      · rw [Int.fmod_eq_emod_of_nonneg _ (by omega)]; rfl
      · rw [← hg, Nat.gcd_comm, ← Nat.gcd_rec, Nat.gcd_comm]
theorem ok_law (T : Tx K mg) : ∃ (f : Addr) (fd : FuncData), mg "law" = some (.ref f) ∧ (∀ (s : Shared) (u : Value), BindsTo s fd ⟨[u], []⟩ [("_law_script", u)]) ∧ ∀ base : Heap, FnG P w K mg base 2 f fd ["_law_script"] (spLaw K) := by
  refine lawOk T.f_law sc_law bn_law spLaw_len (fun base f cdv A outer s H vs Q hr hg h => ?_)
  obtain ⟨a, ns, rfl, hsq, hl, hb, hQ⟩ := h
  obtain ⟨fo, fdo, hmo, kpo, hbo, Fo⟩ := ok_l_open_cells (P := P) (w := w) (base := base) T
  obtain ⟨t2, p2, l2⟩ : PDSs W0 (cxOf CX0 P w K mg base N_law "law" (defScope s_law) f cdv A outer s H E0).nox (defBody s_law).tail _ := (pss_dc (psd_for PassesOwn.never rfl (pdi_rng1 rfl T.b_range (pda_cons pd_int pda_nil)) (pdg_name (i := 2) sc_law.nd rfl (Or.inl rfl)) (pss_dc (psd_asg (pd_tup (pda_cons (pd_fn (ok_l_pick T) hr (by decide) hg (pda_cons (pd_var 1) (pda_cons pd_int pda_nil))) (pda_cons (pd_addA pd_int (pd_fn (ok_l_pick T) hr (by decide) hg (pda_cons (pd_var 1) (pda_cons pd_int pda_nil)))) pda_nil))) (pdg_tup rfl (pdgs_cons (i := 3) sc_law.nd rfl (Or.inl rfl) (pdgs_cons (i := 4) sc_law.nd rfl (Or.inr rfl) pdgs_nil))))
      (pss_dc (psd_asg (pd_tup (pda_cons (pd_sub (pd_fn (ok_l_pick T) hr (by decide) hg (pda_cons (pd_var 1) (pda_cons pd_int pda_nil))) pd_int) (pda_cons (pd_sub (pd_fn (ok_l_pick T) hr (by decide) hg (pda_cons (pd_var 1) (pda_cons pd_int pda_nil))) pd_int) pda_nil))) (pdg_tup rfl (pdgs_cons (i := 5) sc_law.nd rfl (Or.inr rfl) (pdgs_cons (i := 6) sc_law.nd rfl (Or.inr rfl) pdgs_nil))))
      (pss_d1 (psd_if (pdt_ne hr.units (pd_fn (ok_ladder T) hr (by decide) hg (pda_cons (pd_var 3) (pda_cons (pd_var 5) (pda_cons (pd_var 6) (pda_cons (pd_var 4) pda_nil))))) (pd_blt (cr_sum rfl) lc_sum rfl T.b_sum (by decide +kernel) (pda_cons (pd_new (pdn_lc (own := [("_law_k", 8)]) rfl sc_law.nd (pdi_rng1 rfl T.b_range (pda_cons (pd_var 3) pda_nil)) (blk (N := N_law) (sc := defScope s_law) (by decide +kernel)) (fun _ _ _ _ _ => pg_name sc_law.nd rfl (Or.inl rfl)) (lg_name 8) (sets_name (by decide)) (fun _ _ _ _ _ => (pd_fd (pd_ty call_int1 lc_int rfl T.b_int (by decide +kernel) (pda_cons (pd_addA (pd_mulA (pd_var 5) (pd_var 8)) (pd_var 6)) pda_nil)) (pd_var 4))))) pda_nil))) (pss_d1 (psd_ret pd_bl)) pss_d0)))))
      (pss_dc (psd_setLc (i := 7) (own := [("_law_lap", 2)]) rfl sc_law.nd rfl rfl (sw_true rfl rfl rfl (by decide +kernel)) (pdi_rng1 rfl T.b_range (pda_cons pd_int pda_nil)) (blk (N := N_law) (sc := defScope s_law) (by decide +kernel)) (fun _ _ _ _ _ => pg_name sc_law.nd rfl (Or.inl rfl)) (lg_name 2) (sets_name (by decide)) (fun _ _ _ _ _ => (pd_addA (pd_addA (pd_pow pd_int pd_int) (pd_mulA (pd_fn (ok_l_pick T) hr (by decide) hg (pda_cons (pd_var 1) (pda_cons (pd_pow pd_int pd_int) pda_nil))) (pd_pow pd_int pd_int))) (pd_fn (ok_l_pick T) hr (by decide) hg (pda_cons (pd_var 1) (pda_cons (pd_pow pd_int pd_int) pda_nil))))))
      (pss_dc (psd_asg (pd_tup (pda_cons (pd_ix (pd_var 7) pd_int) (pda_cons (pd_ix (pd_var 7) pd_int) (pda_cons (pd_mulA (pd_ix (pd_var 7) pd_int) (pd_ix (pd_lst (pda_cons pd_int (pda_cons (pd_sub pd_int pd_int) pda_nil))) (pd_fn (ok_l_pick T) hr (by decide) hg (pda_cons (pd_var 1) (pda_cons pd_int pda_nil))))) (pda_cons (pd_ix (pd_var 7) pd_int) pda_nil))))) (pdg_tup rfl (pdgs_cons (i := 3) sc_law.nd rfl (Or.inl rfl) (pdgs_cons (i := 5) sc_law.nd rfl (Or.inr rfl) (pdgs_cons (i := 6) sc_law.nd rfl (Or.inr rfl) (pdgs_cons (i := 4) sc_law.nd rfl (Or.inr rfl) pdgs_nil))))))
      (pss_dc (psd_par (i := 8) (j := 9) rfl sc_law.nd rfl rfl (by decide) rfl rfl (pda_cons (pd_mulA (pd_fn (ok_l_pick T) hr (by decide) hg (pda_cons (pd_var 1) (pda_cons (pd_pow pd_int pd_int) pda_nil))) (pd_pow pd_int pd_int)) (pda_cons (pd_sub (pd_fn (ok_l_pick T) hr (by decide) hg (pda_cons (pd_var 1) (pda_cons pd_int pda_nil))) pd_int) pda_nil)) rfl)
      (pss_dc (psd_if (pdt_ne hr.units (pd_fn (ok_ladder T) hr (by decide) hg (pda_cons (pd_addA (pd_var 3) (pd_var 8)) (pda_cons (pd_var 5) (pda_cons (pd_var 6) (pda_cons (pd_var 4) pda_nil))))) (pd_addA (pd_fn (ok_ladder T) hr (by decide) hg (pda_cons (pd_var 3) (pda_cons (pd_var 5) (pda_cons (pd_var 6) (pda_cons (pd_var 4) pda_nil))))) (pd_fn (ok_ladder T) hr (by decide) hg (pda_cons (pd_var 8) (pda_cons (pd_var 5) (pda_cons (pd_addA (pd_var 6) (pd_mulA (pd_var 5) (pd_var 3))) (pda_cons (pd_var 4) pda_nil))))))) (pss_d1 (psd_ret pd_bl)) pss_d0)
      (pss_dc (psd_if (pdt_ne hr.units (pd_sub (pd_fn (ok_ladder T) hr (by decide) hg (pda_cons (pd_addA (pd_var 3) pd_int) (pda_cons (pd_var 5) (pda_cons (pd_var 6) (pda_cons (pd_var 4) pda_nil))))) (pd_fn (ok_ladder T) hr (by decide) hg (pda_cons (pd_var 3) (pda_cons (pd_var 5) (pda_cons (pd_var 6) (pda_cons (pd_var 4) pda_nil)))))) (pd_fd (pd_ty call_int1 lc_int rfl T.b_int (by decide +kernel) (pda_cons (pd_addA (pd_mulA (pd_var 5) (pd_var 3)) (pd_var 6)) pda_nil)) (pd_var 4))) (pss_d1 (psd_ret pd_bl)) pss_d0)
      (pss_dc (psd_if (pdt_ne hr.units (pd_fn (ok_ladder T) hr (by decide) hg (pda_cons (pd_var 3) (pda_cons (pd_addA (pd_var 5) (pd_mulA (pd_var 9) (pd_var 4))) (pda_cons (pd_var 6) (pda_cons (pd_var 4) pda_nil))))) (pd_addA (pd_fn (ok_ladder T) hr (by decide) hg (pda_cons (pd_var 3) (pda_cons (pd_var 5) (pda_cons (pd_var 6) (pda_cons (pd_var 4) pda_nil))))) (pd_mulA (pd_var 9) (pd_fd (pd_ty call_int1 lc_int rfl T.b_int (by decide +kernel) (pda_cons (pd_mulA (pd_var 3) (pd_sub (pd_var 3) pd_int)) pda_nil)) pd_int)))) (pss_d1 (psd_ret pd_bl)) pss_d0)
      (pss_dc (psd_if (pdt_ne hr.units (pd_fn (ok_ladder T) hr (by decide) hg (pda_cons (pd_var 3) (pda_cons (pd_var 5) (pda_cons (pd_addA (pd_var 6) (pd_mulA (pd_var 9) (pd_var 4))) (pda_cons (pd_var 4) pda_nil))))) (pd_addA (pd_fn (ok_ladder T) hr (by decide) hg (pda_cons (pd_var 3) (pda_cons (pd_var 5) (pda_cons (pd_var 6) (pda_cons (pd_var 4) pda_nil))))) (pd_mulA (pd_var 9) (pd_var 3)))) (pss_d1 (psd_ret pd_bl)) pss_d0)
      (pss_dc (psd_if (pdt_ne hr.units (pd_fn (ok_ladder T) hr (by decide) hg (pda_cons (pd_var 3) (pda_cons (pd_sub pd_int (pd_var 5)) (pda_cons (pd_sub (pd_sub pd_int (pd_var 6)) pd_int) (pda_cons (pd_var 4) pda_nil))))) (pd_sub (pd_sub pd_int (pd_fn (ok_ladder T) hr (by decide) hg (pda_cons (pd_var 3) (pda_cons (pd_var 5) (pda_cons (pd_var 6) (pda_cons (pd_var 4) pda_nil)))))) (pd_var 3))) (pss_d1 (psd_ret pd_bl)) pss_d0)
      (pss_dc (psd_par (i := 10) (j := 11) rfl sc_law.nd rfl rfl (by decide) rfl rfl (pda_cons (pd_addA pd_int (pd_fn (ok_l_pick T) hr (by decide) hg (pda_cons (pd_var 1) (pda_cons (pd_pow pd_int pd_int) pda_nil)))) (pda_cons (pd_addA pd_int (pd_fn (ok_l_pick T) hr (by decide) hg (pda_cons (pd_var 1) (pda_cons (pd_pow pd_int pd_int) pda_nil)))) pda_nil)) rfl)
      (pss_dc (psd_set (i := 12) sc_law.nd rfl (Or.inl rfl) (pd_fn (ok_l_common T) hr (by decide) hg (pda_cons (pd_var 10) (pda_cons (pd_var 11) pda_nil))))
      (pss_dc (psd_par (i := 10) (j := 11) rfl sc_law.nd rfl rfl (by decide) rfl rfl (pda_cons (pd_fd (pd_var 10) (pd_var 12)) (pda_cons (pd_fd (pd_var 11) (pd_var 12)) pda_nil)) rfl)
      (pss_d1 (psd_ret (pd_eq hr.units (pd_fn (ok_ladder T) hr (by decide) hg (pda_cons (pd_var 11) (pda_cons (pd_var 10) (pda_cons pd_int (pda_cons (pd_var 11) pda_nil))))) (pd_fd (pd_ty call_int1 lc_int rfl T.b_int (by decide +kernel) (pda_cons (pd_mulA (pd_sub (pd_var 10) pd_int) (pd_sub (pd_var 11) pd_int)) pda_nil)) pd_int))))))))))))))))
  refine ⟨_, pss_cons (ps_set (i := 1) sc_law.nd rfl (Or.inr rfl) (pe_callG Fo (hr.mono (by decide)) hg rfl hmo kpo hbo (pa_cons (pv 0) pa_nil))) p2, ?_⟩
  refine ⟨_, rfl, a, ns, rfl, hsq, hl, hb, fun p c ms l m t H' hp hc hpc sm hc' hp' => ?_⟩
  refine l2 (some (p, c)) (fun z => z = p ∨ z = c) H' H' _ (.emp :: .val SRC :: List.replicate 11 .emp) { nx := fun _ => False, rt := (· = .bool true) } _ (ev_law (.ref a) 11 hpc hc' hp') ?_ ?_
  · refine dFor_k (intsD 0 4) (fun σ => ∃ x2 x3 x4 x5 x6 x7 x8 x9 x10 x11 x12 : Sl, σ = [.emp, .val SRC, x2, x3, x4, x5, x6, x7, x8, x9, x10, x11, x12]) (fun R h => ⟨by decide, h⟩) ⟨.emp, .emp, .emp, .emp, .emp, .emp, .emp, .emp, .emp, .emp, .emp, rfl⟩ ?_ ?_
    · rintro y0 hy σ' ⟨x2, x3, x4, x5, x6, x7, x8, x9, x10, x11, x12, rfl⟩
      show dSeq _ _ _ _
      refine dSeq_g (fun σ => ∃ n : Int, ∃ m : Int, ∃ x2 x5 x6 x7 x8 x9 x10 x11 x12 : Sl, 0 ≤ n ∧ n < 30 ∧ 0 ≤ m ∧ m < 20 ∧ σ = [.emp, .val SRC, x2, .val (.int n), .val (.int (1 + m)), x5, x6, x7, x8, x9, x10, x11, x12]) ?_ ?_
      · intro N hN
        simp only [dSeq, dNext, dRet, dIf, dDrop, dAsg, dgName, dgNil, dgCons, dgTup, dPar, dPar3, dOwn, dApp, dFrz, dVar, dC, dOp, dI, dI0, dB0, dNeg, dTup, dLst, dBoolT, dAndT, dOrT, dNotT, dAndV, dOrV, dNotV, dCall, dCall0, dB, dIsi, dRepr, dAbs, dInt1, dInt2, dAll, dstart, dwipe, clean, Sl.clean, List.map_cons, List.map_nil, List.length_cons, List.length_nil, List.replicate, List.cons_append, List.nil_append, List.set_cons_zero, List.set_cons_succ, List.getElem?_cons_zero, List.getElem?_cons_succ, Nat.reduceAdd, Nat.reduceSub, Nat.add_zero, Nat.zero_add, Nat.add_sub_cancel, Nat.sub_self, atI_0, atI_1, atI_2, atI_3, dLtI, dLeI, dGtI, dGeI, dSub, dFd, dMod, dPow, eAdd_i, eAdd_l, eMul_i, eMul_l, eIx_l, eIx_t, eLen_l, eLen_t, eInt_i, eInt_b, eEq_i, eNe_i, eEq_e, dRaise, dRetX, dTry, dGcd3, dIsB, dChain, dZip, dItT, dItL, dSl, dNoPart, dPart, dChain, dgUnl, dParO, notN_no, notN_t, isN_no, dRev, dFor, dRng1, dItL]
        exact pick (by decide) (by decide) fun n n0 n1 => pick (by decide) (by decide) fun m m0 m1 => hN _ ⟨n, m, _, _, _, _, _, _, _, _, _, n0, n1, m0, m1, rfl⟩
      rintro σ2 ⟨n, m, x2, x5, x6, x7, x8, x9, x10, x11, x12, n0, n1, m0, m1, rfl⟩
      refine dSeq_g (fun σ => ∃ n : Int, ∃ m : Int, ∃ a : Int, ∃ b : Int, ∃ x2 x7 x8 x9 x10 x11 x12 : Sl, 0 ≤ n ∧ n < 30 ∧ 0 ≤ m ∧ m < 20 ∧ 0 ≤ a ∧ a < 61 ∧ 0 ≤ b ∧ b < 81 ∧ σ = [.emp, .val SRC, x2, .val (.int n), .val (.int (1 + m)), .val (.int (a - 30)), .val (.int (b - 40)), x7, x8, x9, x10, x11, x12]) ?_ ?_
      · intro N hN
        simp only [dSeq, dNext, dRet, dIf, dDrop, dAsg, dgName, dgNil, dgCons, dgTup, dPar, dPar3, dOwn, dApp, dFrz, dVar, dC, dOp, dI, dI0, dB0, dNeg, dTup, dLst, dBoolT, dAndT, dOrT, dNotT, dAndV, dOrV, dNotV, dCall, dCall0, dB, dIsi, dRepr, dAbs, dInt1, dInt2, dAll, dstart, dwipe, clean, Sl.clean, List.map_cons, List.map_nil, List.length_cons, List.length_nil, List.replicate, List.cons_append, List.nil_append, List.set_cons_zero, List.set_cons_succ, List.getElem?_cons_zero, List.getElem?_cons_succ, Nat.reduceAdd, Nat.reduceSub, Nat.add_zero, Nat.zero_add, Nat.add_sub_cancel, Nat.sub_self, atI_0, atI_1, atI_2, atI_3, dLtI, dLeI, dGtI, dGeI, dSub, dFd, dMod, dPow, eAdd_i, eAdd_l, eMul_i, eMul_l, eIx_l, eIx_t, eLen_l, eLen_t, eInt_i, eInt_b, eEq_i, eNe_i, eEq_e, dRaise, dRetX, dTry, dGcd3, dIsB, dChain, dZip, dItT, dItL, dSl, dNoPart, dPart, dChain, dgUnl, dParO, notN_no, notN_t, isN_no, dRev, dFor, dRng1, dItL]
        exact pick (by decide) (by decide) fun a a0 a1 => pick (by decide) (by decide) fun b b0 b1 => hN _ ⟨n, m, a, b, _, _, _, _, _, _, _, n0, n1, m0, m1, a0, a1, b0, b1, rfl⟩
      rintro σ2 ⟨n, m, a, b, x2, x7, x8, x9, x10, x11, x12, n0, n1, m0, m1, a0, a1, b0, b1, rfl⟩
      have bn : Bd 10 n := ⟨by show n.natAbs < 1024; omega⟩
      have bm : Bd 10 (1 + m) := ⟨by show (1 + m).natAbs < 1024; omega⟩
      have ba : Bd 10 (a - 30) := ⟨by show (a - 30).natAbs < 1024; omega⟩
      have bb : Bd 10 (b - 40) := ⟨by show (b - 40).natAbs < 1024; omega⟩
      have mp : 0 < 1 + m := by omega
      generalize a - 30 = a at ba ⊢
      generalize b - 40 = b at bb ⊢
      generalize 1 + m = m at bm mp ⊢
      simp only [dSeq, dNext, dRet, dIf, dDrop, dAsg, dgName, dgNil, dgCons, dgTup, dPar, dPar3, dOwn, dApp, dFrz, dVar, dC, dOp, dI, dI0, dB0, dNeg, dTup, dLst, dBoolT, dAndT, dOrT, dNotT, dAndV, dOrV, dNotV, dCall, dCall0, dB, dIsi, dRepr, dAbs, dInt1, dInt2, dAll, dstart, dwipe, clean, Sl.clean, List.map_cons, List.map_nil, List.length_cons, List.length_nil, List.replicate, List.cons_append, List.nil_append, List.set_cons_zero, List.set_cons_succ, List.getElem?_cons_zero, List.getElem?_cons_succ, Nat.reduceAdd, Nat.reduceSub, Nat.add_zero, Nat.zero_add, Nat.add_sub_cancel, Nat.sub_self, atI_0, atI_1, atI_2, atI_3, dLtI, dLeI, dGtI, dGeI, dSub, dFd, dMod, dPow, eAdd_i, eAdd_l, eMul_i, eMul_l, eIx_l, eIx_t, eLen_l, eLen_t, eInt_i, eInt_b, eEq_i, eNe_i, eEq_e, dRaise, dRetX, dTry, dGcd3, dIsB, dChain, dZip, dItT, dItL, dSl, dNoPart, dPart, dChain, dgUnl, dParO, notN_no, notN_t, isN_no, dRev, dFor, dRng1, dItL]
      refine lad_c n0 mp (bn.mono (by decide)) (ba.mono (by decide)) (bb.mono (by decide)) (bm.mono (by decide)) rfl ?_
      refine dLcc_m (List.range n.toNat) (fun i : Nat => .int ((0 : Int) + (i : Int))) (fun i : Nat => .int ((a * ((0 : Int) + (i : Int)) + b).fdiv m)) (fun R hR => ?_) (by simp; omega) ?_ ?_
      · simp only [dSeq, dNext, dRet, dIf, dDrop, dAsg, dgName, dgNil, dgCons, dgTup, dPar, dPar3, dOwn, dApp, dFrz, dVar, dC, dOp, dI, dI0, dB0, dNeg, dTup, dLst, dBoolT, dAndT, dOrT, dNotT, dAndV, dOrV, dNotV, dCall, dCall0, dB, dIsi, dRepr, dAbs, dInt1, dInt2, dAll, dstart, dwipe, clean, Sl.clean, List.map_cons, List.map_nil, List.length_cons, List.length_nil, List.replicate, List.cons_append, List.nil_append, List.set_cons_zero, List.set_cons_succ, List.getElem?_cons_zero, List.getElem?_cons_succ, Nat.reduceAdd, Nat.reduceSub, Nat.add_zero, Nat.zero_add, Nat.add_sub_cancel, Nat.sub_self, atI_0, atI_1, atI_2, atI_3, dLtI, dLeI, dGtI, dGeI, dSub, dFd, dMod, dPow, eAdd_i, eAdd_l, eMul_i, eMul_l, eIx_l, eIx_t, eLen_l, eLen_t, eInt_i, eInt_b, eEq_i, eNe_i, eEq_e, dRaise, dRetX, dTry, dGcd3, dIsB, dChain, dZip, dItT, dItL, dSl, dNoPart, dPart, dChain, dgUnl, dParO, notN_no, notN_t, isN_no, dRev, dFor, dRng1, dItL, dRng1]
        exact ⟨by omega, hR⟩
      · intro i hi Q hQ
        have hi2 := List.mem_range.mp hi
        have bi : Bd 10 ((0 : Int) + (i : Int)) := ⟨by show ((0 : Int) + (i : Int)).natAbs < 1024; omega⟩
        simp only [dSeq, dNext, dRet, dIf, dDrop, dAsg, dgName, dgNil, dgCons, dgTup, dPar, dPar3, dOwn, dApp, dFrz, dVar, dC, dOp, dI, dI0, dB0, dNeg, dTup, dLst, dBoolT, dAndT, dOrT, dNotT, dAndV, dOrV, dNotV, dCall, dCall0, dB, dIsi, dRepr, dAbs, dInt1, dInt2, dAll, dstart, dwipe, clean, Sl.clean, List.map_cons, List.map_nil, List.length_cons, List.length_nil, List.replicate, List.cons_append, List.nil_append, List.set_cons_zero, List.set_cons_succ, List.getElem?_cons_zero, List.getElem?_cons_succ, Nat.reduceAdd, Nat.reduceSub, Nat.add_zero, Nat.zero_add, Nat.add_sub_cancel, Nat.sub_self, atI_0, atI_1, atI_2, atI_3, dLtI, dLeI, dGtI, dGeI, dSub, dFd, dMod, dPow, eAdd_i, eAdd_l, eMul_i, eMul_l, eIx_l, eIx_t, eLen_l, eLen_t, eInt_i, eInt_b, eEq_i, eNe_i, eEq_e, dRaise, dRetX, dTry, dGcd3, dIsB, dChain, dZip, dItT, dItL, dSl, dNoPart, dPart, dChain, dgUnl, dParO, notN_no, notN_t, isN_no, dRev, dFor, dRng1, dItL]
        exact ⟨cmb ba bi (by decide), cfd (by omega) bm (by decide), hQ⟩
      · refine dSum_m (f := fun i : Nat => (a * ((0 : Int) + (i : Int)) + b).fdiv m) ?_
        rw [lad_sum _ _ _ mp, eNe_i, decide_eq_true rfl]
        exact iteF ⟨_, _, _, _, _, _, _, _, _, _, _, rfl⟩
    rintro σ' ⟨x2, x3, x4, x5, x6, x7, x8, x9, x10, x11, x12, rfl⟩
    refine dSeq_g (fun σ => ∃ g0 : Int, ∃ g1 : Int, ∃ g2 : Int, ∃ g3 : Int, ∃ x2 x3 x4 x5 x6 x8 x9 x10 x11 x12 : Sl, GB g0 ∧ GB g1 ∧ GB g2 ∧ GB g3 ∧ σ = [.emp, .val SRC, x2, x3, x4, x5, x6, .val (.list [.int g0, .int g1, .int g2, .int g3]), x8, x9, x10, x11, x12]) ?_ ?_
    · intro N hN
      simp only [dSeq, dNext, dRet, dIf, dDrop, dAsg, dgName, dgNil, dgCons, dgTup, dPar, dPar3, dOwn, dApp, dFrz, dVar, dC, dOp, dI, dI0, dB0, dNeg, dTup, dLst, dBoolT, dAndT, dOrT, dNotT, dAndV, dOrV, dNotV, dCall, dCall0, dB, dIsi, dRepr, dAbs, dInt1, dInt2, dAll, dstart, dwipe, clean, Sl.clean, List.map_cons, List.map_nil, List.length_cons, List.length_nil, List.replicate, List.cons_append, List.nil_append, List.set_cons_zero, List.set_cons_succ, List.getElem?_cons_zero, List.getElem?_cons_succ, Nat.reduceAdd, Nat.reduceSub, Nat.add_zero, Nat.zero_add, Nat.add_sub_cancel, Nat.sub_self, atI_0, atI_1, atI_2, atI_3, dLtI, dLeI, dGtI, dGeI, dSub, dFd, dMod, dPow, eAdd_i, eAdd_l, eMul_i, eMul_l, eIx_l, eIx_t, eLen_l, eLen_t, eInt_i, eInt_b, eEq_i, eNe_i, eEq_e, dRaise, dRetX, dTry, dGcd3, dIsB, dChain, dZip, dItT, dItL, dSl, dNoPart, dPart, dChain, dgUnl, dParO, notN_no, notN_t, isN_no, dRev, dFor, dRng1, dItL]
      refine dLcc_n (List.range 4) (fun i : Nat => .int ((0 : Int) + (i : Int))) (fun g : Int => .int g) (fun _ g => GB g) (fun R hR => ?_) (by decide) ?_ ?_
      · simp only [dSeq, dNext, dRet, dIf, dDrop, dAsg, dgName, dgNil, dgCons, dgTup, dPar, dPar3, dOwn, dApp, dFrz, dVar, dC, dOp, dI, dI0, dB0, dNeg, dTup, dLst, dBoolT, dAndT, dOrT, dNotT, dAndV, dOrV, dNotV, dCall, dCall0, dB, dIsi, dRepr, dAbs, dInt1, dInt2, dAll, dstart, dwipe, clean, Sl.clean, List.map_cons, List.map_nil, List.length_cons, List.length_nil, List.replicate, List.cons_append, List.nil_append, List.set_cons_zero, List.set_cons_succ, List.getElem?_cons_zero, List.getElem?_cons_succ, Nat.reduceAdd, Nat.reduceSub, Nat.add_zero, Nat.zero_add, Nat.add_sub_cancel, Nat.sub_self, atI_0, atI_1, atI_2, atI_3, dLtI, dLeI, dGtI, dGeI, dSub, dFd, dMod, dPow, eAdd_i, eAdd_l, eMul_i, eMul_l, eIx_l, eIx_t, eLen_l, eLen_t, eInt_i, eInt_b, eEq_i, eNe_i, eEq_e, dRaise, dRetX, dTry, dGcd3, dIsB, dChain, dZip, dItT, dItL, dSl, dNoPart, dPart, dChain, dgUnl, dParO, notN_no, notN_t, isN_no, dRev, dFor, dRng1, dItL, dRng1]
        exact ⟨by decide, hR⟩
      · intro x hx Q hQ
        simp only [dSeq, dNext, dRet, dIf, dDrop, dAsg, dgName, dgNil, dgCons, dgTup, dPar, dPar3, dOwn, dApp, dFrz, dVar, dC, dOp, dI, dI0, dB0, dNeg, dTup, dLst, dBoolT, dAndT, dOrT, dNotT, dAndV, dOrV, dNotV, dCall, dCall0, dB, dIsi, dRepr, dAbs, dInt1, dInt2, dAll, dstart, dwipe, clean, Sl.clean, List.map_cons, List.map_nil, List.length_cons, List.length_nil, List.replicate, List.cons_append, List.nil_append, List.set_cons_zero, List.set_cons_succ, List.getElem?_cons_zero, List.getElem?_cons_succ, Nat.reduceAdd, Nat.reduceSub, Nat.add_zero, Nat.zero_add, Nat.add_sub_cancel, Nat.sub_self, atI_0, atI_1, atI_2, atI_3, dLtI, dLeI, dGtI, dGeI, dSub, dFd, dMod, dPow, eAdd_i, eAdd_l, eMul_i, eMul_l, eIx_l, eIx_t, eLen_l, eLen_t, eInt_i, eInt_b, eEq_i, eNe_i, eEq_e, dRaise, dRetX, dTry, dGcd3, dIsB, dChain, dZip, dItT, dItL, dSl, dNoPart, dPart, dChain, dgUnl, dParO, notN_no, notN_t, isN_no, dRev, dFor, dRng1, dItL]
        refine ⟨cpow (by decide) (by decide) (by decide), cpow (by decide) (by decide) (by decide), pick (by decide) (by decide) fun i i0 i1 => ?_⟩
        have hi : i < 1000000000 := i1
        have b1 : Bd 30 i := ⟨by show i.natAbs < 1073741824; omega⟩
        have b2 : Bd 67 ((10 : Int) ^ (20 : Int).toNat) := ⟨by decide +kernel⟩
        have p2 : 0 ≤ (10 : Int) ^ (20 : Int).toNat := by decide +kernel
        refine ⟨cpow (by decide) (by decide) (by decide), cmb b1 b2 (by decide), cpow (by decide) (by decide) (by decide), pick (by decide) (by decide) fun j j0 j1 => ?_⟩
        have hj : j < 1000000000 := j1
        have b3 : Bd 30 j := ⟨by show j.natAbs < 1073741824; omega⟩
        have b4 : Bd 130 ((10 : Int) ^ (39 : Int).toNat) := ⟨by decide +kernel⟩
        have p4 : 0 < (10 : Int) ^ (39 : Int).toNat := by decide +kernel
        have b5 : Bd 97 (i * (10 : Int) ^ (20 : Int).toNat) := @bd_mul _ _ _ _ b1 b2
        have p5 : 0 ≤ i * (10 : Int) ^ (20 : Int).toNat := Int.mul_nonneg i0 p2
        refine hQ _ ⟨by omega, ?_⟩
        exact (bd_add2 (bd_add2 b4 (b5.mono (by decide))) (b3.mono (by decide))).mono (by decide)
      · intro gs F
        have gl := F.len
        have gb := F.all (R := fun g => GB g) fun _ _ z => z
        match gs, gl, gb with
        | [g0, g1, g2, g3], _, gb => exact hN _ ⟨g0, g1, g2, g3, _, _, _, _, _, _, _, _, _, _, gb _ (by simp), gb _ (by simp), gb _ (by simp), gb _ (by simp), rfl⟩
    rintro σ2 ⟨g0, g1, g2, g3, x2, x3, x4, x5, x6, x8, x9, x10, x11, x12, h0, h1, h2, h3, rfl⟩
    refine dSeq_g (fun σ => ∃ n : Int, ∃ a : Int, ∃ b : Int, ∃ m : Int, ∃ x2 x7 x8 x9 x10 x11 x12 : Sl, GB n ∧ GB a ∧ Bd 132 b ∧ GB m ∧ σ = [.emp, .val SRC, x2, .val (.int n), .val (.int m), .val (.int a), .val (.int b), x7, x8, x9, x10, x11, x12]) ?_ ?_
    · intro N hN
      simp only [dSeq, dNext, dRet, dIf, dDrop, dAsg, dgName, dgNil, dgCons, dgTup, dPar, dPar3, dOwn, dApp, dFrz, dVar, dC, dOp, dI, dI0, dB0, dNeg, dTup, dLst, dBoolT, dAndT, dOrT, dNotT, dAndV, dOrV, dNotV, dCall, dCall0, dB, dIsi, dRepr, dAbs, dInt1, dInt2, dAll, dstart, dwipe, clean, Sl.clean, List.map_cons, List.map_nil, List.length_cons, List.length_nil, List.replicate, List.cons_append, List.nil_append, List.set_cons_zero, List.set_cons_succ, List.getElem?_cons_zero, List.getElem?_cons_succ, Nat.reduceAdd, Nat.reduceSub, Nat.add_zero, Nat.zero_add, Nat.add_sub_cancel, Nat.sub_self, atI_0, atI_1, atI_2, atI_3, dLtI, dLeI, dGtI, dGeI, dSub, dFd, dMod, dPow, eAdd_i, eAdd_l, eMul_i, eMul_l, eIx_l, eIx_t, eLen_l, eLen_t, eInt_i, eInt_b, eEq_i, eNe_i, eEq_e, dRaise, dRetX, dTry, dGcd3, dIsB, dChain, dZip, dItT, dItL, dSl, dNoPart, dPart, dChain, dgUnl, dParO, notN_no, notN_t, isN_no, dRev, dFor, dRng1, dItL]
      refine pick (by decide) (by decide) fun j j0 j1 => ?_
      obtain rfl | rfl : j = 0 ∨ j = 1 := by omega
      · simp only [dSeq, dNext, dRet, dIf, dDrop, dAsg, dgName, dgNil, dgCons, dgTup, dPar, dPar3, dOwn, dApp, dFrz, dVar, dC, dOp, dI, dI0, dB0, dNeg, dTup, dLst, dBoolT, dAndT, dOrT, dNotT, dAndV, dOrV, dNotV, dCall, dCall0, dB, dIsi, dRepr, dAbs, dInt1, dInt2, dAll, dstart, dwipe, clean, Sl.clean, List.map_cons, List.map_nil, List.length_cons, List.length_nil, List.replicate, List.cons_append, List.nil_append, List.set_cons_zero, List.set_cons_succ, List.getElem?_cons_zero, List.getElem?_cons_succ, Nat.reduceAdd, Nat.reduceSub, Nat.add_zero, Nat.zero_add, Nat.add_sub_cancel, Nat.sub_self, atI_0, atI_1, atI_2, atI_3, dLtI, dLeI, dGtI, dGeI, dSub, dFd, dMod, dPow, eAdd_i, eAdd_l, eMul_i, eMul_l, eIx_l, eIx_t, eLen_l, eLen_t, eInt_i, eInt_b, eEq_i, eNe_i, eEq_e, dRaise, dRetX, dTry, dGcd3, dIsB, dChain, dZip, dItT, dItL, dSl, dNoPart, dPart, dChain, dgUnl, dParO, notN_no, notN_t, isN_no, dRev, dFor, dRng1, dItL]
        exact ⟨cmb h2.2 bd_1 (by decide), hN _ ⟨_, _, _, _, _, _, _, _, _, _, _, h0, h1, by rw [Int.mul_one]; exact h2.2, h3, rfl⟩⟩
      · simp only [dSeq, dNext, dRet, dIf, dDrop, dAsg, dgName, dgNil, dgCons, dgTup, dPar, dPar3, dOwn, dApp, dFrz, dVar, dC, dOp, dI, dI0, dB0, dNeg, dTup, dLst, dBoolT, dAndT, dOrT, dNotT, dAndV, dOrV, dNotV, dCall, dCall0, dB, dIsi, dRepr, dAbs, dInt1, dInt2, dAll, dstart, dwipe, clean, Sl.clean, List.map_cons, List.map_nil, List.length_cons, List.length_nil, List.replicate, List.cons_append, List.nil_append, List.set_cons_zero, List.set_cons_succ, List.getElem?_cons_zero, List.getElem?_cons_succ, Nat.reduceAdd, Nat.reduceSub, Nat.add_zero, Nat.zero_add, Nat.add_sub_cancel, Nat.sub_self, atI_0, atI_1, atI_2, atI_3, dLtI, dLeI, dGtI, dGeI, dSub, dFd, dMod, dPow, eAdd_i, eAdd_l, eMul_i, eMul_l, eIx_l, eIx_t, eLen_l, eLen_t, eInt_i, eInt_b, eEq_i, eNe_i, eEq_e, dRaise, dRetX, dTry, dGcd3, dIsB, dChain, dZip, dItT, dItL, dSl, dNoPart, dPart, dChain, dgUnl, dParO, notN_no, notN_t, isN_no, dRev, dFor, dRng1, dItL]
        have b1 : Bd 1 ((0 : Int) - 1) := ⟨by decide⟩
        exact ⟨cmb h2.2 b1 (by decide), hN _ ⟨_, _, _, _, _, _, _, _, _, _, _, h0, h1, by rw [show g2 * ((0 : Int) - 1) = -g2 by omega]; exact @bd_neg _ _ h2.2, h3, rfl⟩⟩
    rintro σ2 ⟨n, a, b, m, x2, x7, x8, x9, x10, x11, x12, hn, ha, hb, hm, rfl⟩
    refine dSeq_g (fun σ => ∃ n : Int, ∃ a : Int, ∃ b : Int, ∃ m : Int, ∃ k : Int, ∃ st : Int, ∃ x2 x7 x10 x11 x12 : Sl, GB n ∧ GB a ∧ Bd 132 b ∧ GB m ∧ 0 ≤ k ∧ Bd 120 k ∧ Bd 4 st ∧ σ = [.emp, .val SRC, x2, .val (.int n), .val (.int m), .val (.int a), .val (.int b), x7, .val (.int k), .val (.int st), x10, x11, x12]) ?_ ?_
    · intro N hN
      simp only [dSeq, dNext, dRet, dIf, dDrop, dAsg, dgName, dgNil, dgCons, dgTup, dPar, dPar3, dOwn, dApp, dFrz, dVar, dC, dOp, dI, dI0, dB0, dNeg, dTup, dLst, dBoolT, dAndT, dOrT, dNotT, dAndV, dOrV, dNotV, dCall, dCall0, dB, dIsi, dRepr, dAbs, dInt1, dInt2, dAll, dstart, dwipe, clean, Sl.clean, List.map_cons, List.map_nil, List.length_cons, List.length_nil, List.replicate, List.cons_append, List.nil_append, List.set_cons_zero, List.set_cons_succ, List.getElem?_cons_zero, List.getElem?_cons_succ, Nat.reduceAdd, Nat.reduceSub, Nat.add_zero, Nat.zero_add, Nat.add_sub_cancel, Nat.sub_self, atI_0, atI_1, atI_2, atI_3, dLtI, dLeI, dGtI, dGeI, dSub, dFd, dMod, dPow, eAdd_i, eAdd_l, eMul_i, eMul_l, eIx_l, eIx_t, eLen_l, eLen_t, eInt_i, eInt_b, eEq_i, eNe_i, eEq_e, dRaise, dRetX, dTry, dGcd3, dIsB, dChain, dZip, dItT, dItL, dSl, dNoPart, dPart, dChain, dgUnl, dParO, notN_no, notN_t, isN_no, dRev, dFor, dRng1, dItL]
      refine ⟨cpow (by decide) (by decide) (by decide), pick (by decide) (by decide) fun i i0 i1 => ?_⟩
      have hi : i < 1000000 := i1
      have b1 : Bd 20 i := ⟨by show i.natAbs < 1048576; omega⟩
      have b2 : Bd 100 ((10 : Int) ^ (30 : Int).toNat) := ⟨by decide +kernel⟩
      have p2 : 0 ≤ (10 : Int) ^ (30 : Int).toNat := by decide +kernel
      refine ⟨cpow (by decide) (by decide) (by decide), cmb b1 b2 (by decide), pick (by decide) (by decide) fun j j0 j1 => ?_⟩
      exact hN _ ⟨_, _, _, _, _, _, _, _, _, _, _, hn, ha, hb, hm, Int.mul_nonneg i0 p2, @bd_mul _ _ _ _ b1 b2, ⟨by show (j - 3).natAbs < 16; omega⟩, rfl⟩
    rintro σ2 ⟨n, a, b, m, k, st, x2, x7, x10, x11, x12, hn, ha, hb, hm, k0, hk, hs, rfl⟩
    have n0 : 0 ≤ n := by have := hn.1; omega
    have ab : Bd 264 (a * n) := @bd_mul _ _ _ _ ha.2 hn.2
    refine dIf_no ?_ ?_
    · intro R hR
      simp only [dSeq, dNext, dRet, dIf, dDrop, dAsg, dgName, dgNil, dgCons, dgTup, dPar, dPar3, dOwn, dApp, dFrz, dVar, dC, dOp, dI, dI0, dB0, dNeg, dTup, dLst, dBoolT, dAndT, dOrT, dNotT, dAndV, dOrV, dNotV, dCall, dCall0, dB, dIsi, dRepr, dAbs, dInt1, dInt2, dAll, dstart, dwipe, clean, Sl.clean, List.map_cons, List.map_nil, List.length_cons, List.length_nil, List.replicate, List.cons_append, List.nil_append, List.set_cons_zero, List.set_cons_succ, List.getElem?_cons_zero, List.getElem?_cons_succ, Nat.reduceAdd, Nat.reduceSub, Nat.add_zero, Nat.zero_add, Nat.add_sub_cancel, Nat.sub_self, atI_0, atI_1, atI_2, atI_3, dLtI, dLeI, dGtI, dGeI, dSub, dFd, dMod, dPow, eAdd_i, eAdd_l, eMul_i, eMul_l, eIx_l, eIx_t, eLen_l, eLen_t, eInt_i, eInt_b, eEq_i, eNe_i, eEq_e, dRaise, dRetX, dTry, dGcd3, dIsB, dChain, dZip, dItT, dItL, dSl, dNoPart, dPart, dChain, dgUnl, dParO, notN_no, notN_t, isN_no, dRev, dFor, dRng1, dItL]
      refine lad_c (by omega) hm.1 ((bd_add2 hn.2 (hk.mono (by decide))).mono (by decide)) (ha.2.mono (by decide)) (hb.mono (by decide)) (hm.2.mono (by decide)) rfl ?_
      refine lad_c n0 hm.1 (hn.2.mono (by decide)) (ha.2.mono (by decide)) (hb.mono (by decide)) (hm.2.mono (by decide)) rfl ?_
      refine ⟨cmb ha.2 hn.2 (by decide), lad_c k0 hm.1 (hk.mono (by decide)) (ha.2.mono (by decide)) ((bd_add2 (hb.mono (show 132 ≤ 264 by decide)) ab).mono (by decide)) (hm.2.mono (by decide)) rfl ?_⟩
      refine ne_no ?_ hR
      rw [show (n + k).toNat = n.toNat + k.toNat by omega, lad_add, Int.toNat_of_nonneg n0]
    refine dIf_no ?_ ?_
    · intro R hR
      simp only [dSeq, dNext, dRet, dIf, dDrop, dAsg, dgName, dgNil, dgCons, dgTup, dPar, dPar3, dOwn, dApp, dFrz, dVar, dC, dOp, dI, dI0, dB0, dNeg, dTup, dLst, dBoolT, dAndT, dOrT, dNotT, dAndV, dOrV, dNotV, dCall, dCall0, dB, dIsi, dRepr, dAbs, dInt1, dInt2, dAll, dstart, dwipe, clean, Sl.clean, List.map_cons, List.map_nil, List.length_cons, List.length_nil, List.replicate, List.cons_append, List.nil_append, List.set_cons_zero, List.set_cons_succ, List.getElem?_cons_zero, List.getElem?_cons_succ, Nat.reduceAdd, Nat.reduceSub, Nat.add_zero, Nat.zero_add, Nat.add_sub_cancel, Nat.sub_self, atI_0, atI_1, atI_2, atI_3, dLtI, dLeI, dGtI, dGeI, dSub, dFd, dMod, dPow, eAdd_i, eAdd_l, eMul_i, eMul_l, eIx_l, eIx_t, eLen_l, eLen_t, eInt_i, eInt_b, eEq_i, eNe_i, eEq_e, dRaise, dRetX, dTry, dGcd3, dIsB, dChain, dZip, dItT, dItL, dSl, dNoPart, dPart, dChain, dgUnl, dParO, notN_no, notN_t, isN_no, dRev, dFor, dRng1, dItL]
      refine lad_c (by omega) hm.1 ((bd_add2 hn.2 (bd_1.mono (by decide))).mono (by decide)) (ha.2.mono (by decide)) (hb.mono (by decide)) (hm.2.mono (by decide)) rfl ?_
      refine lad_c n0 hm.1 (hn.2.mono (by decide)) (ha.2.mono (by decide)) (hb.mono (by decide)) (hm.2.mono (by decide)) rfl ?_
      refine ⟨cmb ha.2 hn.2 (by decide), cfd (by have := hm.1; omega) hm.2 (by decide), ?_⟩
      refine ne_no ?_ hR
      rw [show (n + 1).toNat = n.toNat + 1 by omega, fdiv_p hm.1]
      show lad n.toNat a b m + (a * ((n.toNat : Nat) : Int) + b) / m - lad n.toNat a b m = _
      rw [Int.toNat_of_nonneg n0]; omega
    have sm : Bd 136 (st * m) := @bd_mul _ _ _ _ hs hm.2
    refine dIf_no ?_ ?_
    · intro R hR
      simp only [dSeq, dNext, dRet, dIf, dDrop, dAsg, dgName, dgNil, dgCons, dgTup, dPar, dPar3, dOwn, dApp, dFrz, dVar, dC, dOp, dI, dI0, dB0, dNeg, dTup, dLst, dBoolT, dAndT, dOrT, dNotT, dAndV, dOrV, dNotV, dCall, dCall0, dB, dIsi, dRepr, dAbs, dInt1, dInt2, dAll, dstart, dwipe, clean, Sl.clean, List.map_cons, List.map_nil, List.length_cons, List.length_nil, List.replicate, List.cons_append, List.nil_append, List.set_cons_zero, List.set_cons_succ, List.getElem?_cons_zero, List.getElem?_cons_succ, Nat.reduceAdd, Nat.reduceSub, Nat.add_zero, Nat.zero_add, Nat.add_sub_cancel, Nat.sub_self, atI_0, atI_1, atI_2, atI_3, dLtI, dLeI, dGtI, dGeI, dSub, dFd, dMod, dPow, eAdd_i, eAdd_l, eMul_i, eMul_l, eIx_l, eIx_t, eLen_l, eLen_t, eInt_i, eInt_b, eEq_i, eNe_i, eEq_e, dRaise, dRetX, dTry, dGcd3, dIsB, dChain, dZip, dItT, dItL, dSl, dNoPart, dPart, dChain, dgUnl, dParO, notN_no, notN_t, isN_no, dRev, dFor, dRng1, dItL]
      refine ⟨cmb hs hm.2 (by decide), lad_c n0 hm.1 (hn.2.mono (by decide)) ((bd_add2 (ha.2.mono (show 132 ≤ 136 by decide)) sm).mono (by decide)) (hb.mono (by decide)) (hm.2.mono (by decide)) rfl ?_⟩
      refine lad_c n0 hm.1 (hn.2.mono (by decide)) (ha.2.mono (by decide)) (hb.mono (by decide)) (hm.2.mono (by decide)) rfl ?_
      have c1 : Bd 133 (n - 1) := bd_sub2 hn.2 (bd_1.mono (by decide))
      have c2 : Bd 265 (n * (n - 1)) := @bd_mul _ _ _ _ hn.2 c1
      have d2 : Bd 2 (2 : Int) := ⟨by decide⟩
      have e2 : (n * (n - 1)).fdiv 2 = trg n.toNat := by rw [fdiv_p (by decide)]; have := trg_div n.toNat; rw [Int.toNat_of_nonneg n0] at this; exact this
      have c3 : Bd 265 ((n * (n - 1)).fdiv 2) := @bd_fdiv _ _ _ c2
      refine ⟨cmb hn.2 c1 (by decide), cfd (by decide) d2 (by decide), cmb hs c3 (by decide), ?_⟩
      refine ne_no ?_ hR
      rw [e2, lad_a _ _ _ _ _ hm.1]
    refine dIf_no ?_ ?_
    · intro R hR
      simp only [dSeq, dNext, dRet, dIf, dDrop, dAsg, dgName, dgNil, dgCons, dgTup, dPar, dPar3, dOwn, dApp, dFrz, dVar, dC, dOp, dI, dI0, dB0, dNeg, dTup, dLst, dBoolT, dAndT, dOrT, dNotT, dAndV, dOrV, dNotV, dCall, dCall0, dB, dIsi, dRepr, dAbs, dInt1, dInt2, dAll, dstart, dwipe, clean, Sl.clean, List.map_cons, List.map_nil, List.length_cons, List.length_nil, List.replicate, List.cons_append, List.nil_append, List.set_cons_zero, List.set_cons_succ, List.getElem?_cons_zero, List.getElem?_cons_succ, Nat.reduceAdd, Nat.reduceSub, Nat.add_zero, Nat.zero_add, Nat.add_sub_cancel, Nat.sub_self, atI_0, atI_1, atI_2, atI_3, dLtI, dLeI, dGtI, dGeI, dSub, dFd, dMod, dPow, eAdd_i, eAdd_l, eMul_i, eMul_l, eIx_l, eIx_t, eLen_l, eLen_t, eInt_i, eInt_b, eEq_i, eNe_i, eEq_e, dRaise, dRetX, dTry, dGcd3, dIsB, dChain, dZip, dItT, dItL, dSl, dNoPart, dPart, dChain, dgUnl, dParO, notN_no, notN_t, isN_no, dRev, dFor, dRng1, dItL]
      refine ⟨cmb hs hm.2 (by decide), lad_c n0 hm.1 (hn.2.mono (by decide)) (ha.2.mono (by decide)) ((bd_add2 (hb.mono (show 132 ≤ 136 by decide)) sm).mono (by decide)) (hm.2.mono (by decide)) rfl ?_⟩
      refine lad_c n0 hm.1 (hn.2.mono (by decide)) (ha.2.mono (by decide)) (hb.mono (by decide)) (hm.2.mono (by decide)) rfl ?_
      refine ⟨cmb hs hn.2 (by decide), ?_⟩
      refine ne_no ?_ hR
      rw [lad_b _ _ _ _ _ hm.1, Int.toNat_of_nonneg n0]
    refine dIf_no ?_ ?_
    · intro R hR
      simp only [dSeq, dNext, dRet, dIf, dDrop, dAsg, dgName, dgNil, dgCons, dgTup, dPar, dPar3, dOwn, dApp, dFrz, dVar, dC, dOp, dI, dI0, dB0, dNeg, dTup, dLst, dBoolT, dAndT, dOrT, dNotT, dAndV, dOrV, dNotV, dCall, dCall0, dB, dIsi, dRepr, dAbs, dInt1, dInt2, dAll, dstart, dwipe, clean, Sl.clean, List.map_cons, List.map_nil, List.length_cons, List.length_nil, List.replicate, List.cons_append, List.nil_append, List.set_cons_zero, List.set_cons_succ, List.getElem?_cons_zero, List.getElem?_cons_succ, Nat.reduceAdd, Nat.reduceSub, Nat.add_zero, Nat.zero_add, Nat.add_sub_cancel, Nat.sub_self, atI_0, atI_1, atI_2, atI_3, dLtI, dLeI, dGtI, dGeI, dSub, dFd, dMod, dPow, eAdd_i, eAdd_l, eMul_i, eMul_l, eIx_l, eIx_t, eLen_l, eLen_t, eInt_i, eInt_b, eEq_i, eNe_i, eEq_e, dRaise, dRetX, dTry, dGcd3, dIsB, dChain, dZip, dItT, dItL, dSl, dNoPart, dPart, dChain, dgUnl, dParO, notN_no, notN_t, isN_no, dRev, dFor, dRng1, dItL]
      refine lad_c n0 hm.1 (hn.2.mono (by decide)) ((bd_sub2 (bd_0.mono (by decide)) ha.2).mono (by decide)) ((bd_sub2 (bd_sub2 (bd_0.mono (by decide)) hb) (bd_1.mono (by decide))).mono (by decide)) (hm.2.mono (by decide)) rfl ?_
      refine lad_c n0 hm.1 (hn.2.mono (by decide)) (ha.2.mono (by decide)) (hb.mono (by decide)) (hm.2.mono (by decide)) rfl ?_
      refine ne_no ?_ hR
      rw [lad_neg _ _ _ _ hm.1, Int.toNat_of_nonneg n0]
    refine dSeq_g (fun σ => ∃ p : Int, ∃ q : Int, ∃ x2 x3 x4 x5 x6 x7 x8 x9 x12 : Sl, 0 < p ∧ p ≤ 1000000000 ∧ 0 < q ∧ q ≤ 1000000000 ∧ σ = [.emp, .val SRC, x2, x3, x4, x5, x6, x7, x8, x9, .val (.int p), .val (.int q), x12]) ?_ ?_
    · intro N hN
      simp only [dSeq, dNext, dRet, dIf, dDrop, dAsg, dgName, dgNil, dgCons, dgTup, dPar, dPar3, dOwn, dApp, dFrz, dVar, dC, dOp, dI, dI0, dB0, dNeg, dTup, dLst, dBoolT, dAndT, dOrT, dNotT, dAndV, dOrV, dNotV, dCall, dCall0, dB, dIsi, dRepr, dAbs, dInt1, dInt2, dAll, dstart, dwipe, clean, Sl.clean, List.map_cons, List.map_nil, List.length_cons, List.length_nil, List.replicate, List.cons_append, List.nil_append, List.set_cons_zero, List.set_cons_succ, List.getElem?_cons_zero, List.getElem?_cons_succ, Nat.reduceAdd, Nat.reduceSub, Nat.add_zero, Nat.zero_add, Nat.add_sub_cancel, Nat.sub_self, atI_0, atI_1, atI_2, atI_3, dLtI, dLeI, dGtI, dGeI, dSub, dFd, dMod, dPow, eAdd_i, eAdd_l, eMul_i, eMul_l, eIx_l, eIx_t, eLen_l, eLen_t, eInt_i, eInt_b, eEq_i, eNe_i, eEq_e, dRaise, dRetX, dTry, dGcd3, dIsB, dChain, dZip, dItT, dItL, dSl, dNoPart, dPart, dChain, dgUnl, dParO, notN_no, notN_t, isN_no, dRev, dFor, dRng1, dItL]
      refine ⟨cpow (by decide) (by decide) (by decide), pick (by decide) (by decide) fun i i0 i1 => ?_⟩
      refine ⟨cpow (by decide) (by decide) (by decide), pick (by decide) (by decide) fun j j0 j1 => ?_⟩
      have hi : i < 1000000000 := i1
      have hj : j < 1000000000 := j1
      exact hN _ ⟨1 + i, 1 + j, _, _, _, _, _, _, _, _, _, by omega, by omega, by omega, by omega, rfl⟩
    rintro σ2 ⟨p, q, x2, x3, x4, x5, x6, x7, x8, x9, x12, p0, p1, q0, q1, rfl⟩
    refine dSeq_g (fun σ => ∃ p : Int, ∃ q : Int, ∃ x2 x3 x4 x5 x6 x7 x8 x9 : Sl, 0 < p ∧ p ≤ 1000000000 ∧ 0 < q ∧ q ≤ 1000000000 ∧ σ = [.emp, .val SRC, x2, x3, x4, x5, x6, x7, x8, x9, .val (.int p), .val (.int q), .val (.int (Int.gcd p q))]) ?_ ?_
    · intro N hN
      simp only [dSeq, dNext, dRet, dIf, dDrop, dAsg, dgName, dgNil, dgCons, dgTup, dPar, dPar3, dOwn, dApp, dFrz, dVar, dC, dOp, dI, dI0, dB0, dNeg, dTup, dLst, dBoolT, dAndT, dOrT, dNotT, dAndV, dOrV, dNotV, dCall, dCall0, dB, dIsi, dRepr, dAbs, dInt1, dInt2, dAll, dstart, dwipe, clean, Sl.clean, List.map_cons, List.map_nil, List.length_cons, List.length_nil, List.replicate, List.cons_append, List.nil_append, List.set_cons_zero, List.set_cons_succ, List.getElem?_cons_zero, List.getElem?_cons_succ, Nat.reduceAdd, Nat.reduceSub, Nat.add_zero, Nat.zero_add, Nat.add_sub_cancel, Nat.sub_self, atI_0, atI_1, atI_2, atI_3, dLtI, dLeI, dGtI, dGeI, dSub, dFd, dMod, dPow, eAdd_i, eAdd_l, eMul_i, eMul_l, eIx_l, eIx_t, eLen_l, eLen_t, eInt_i, eInt_b, eEq_i, eNe_i, eEq_e, dRaise, dRetX, dTry, dGcd3, dIsB, dChain, dZip, dItT, dItL, dSl, dNoPart, dPart, dChain, dgUnl, dParO, notN_no, notN_t, isN_no, dRev, dFor, dRng1, dItL]
      exact ⟨_, _, rfl, hN _ ⟨_, _, _, _, _, _, _, _, _, _, p0, p1, q0, q1, rfl⟩⟩
    rintro σ2 ⟨p, q, x2, x3, x4, x5, x6, x7, x8, x9, p0, p1, q0, q1, rfl⟩
    obtain ⟨c, d, c0, d0, c1, d1, g, e1, e2⟩ := gcd_out p0 q0
    have gb : Bd 40 (Int.gcd p q : Int) := ⟨by
      have := Int.gcd_le_natAbs_left q (show p ≠ 0 by omega)
      show Int.gcd p q < 1099511627776
      omega⟩
    have g0 : (Int.gcd p q : Int) ≠ 0 := by
      have : Int.gcd p q ≠ 0 := fun z => by have := (Int.gcd_eq_zero_iff.mp z).1; omega
      omega
    have cb : Bd 40 c := ⟨by show c.natAbs < 1099511627776; omega⟩
    have db : Bd 40 d := ⟨by show d.natAbs < 1099511627776; omega⟩
    simp only [dSeq, dNext, dRet, dIf, dDrop, dAsg, dgName, dgNil, dgCons, dgTup, dPar, dPar3, dOwn, dApp, dFrz, dVar, dC, dOp, dI, dI0, dB0, dNeg, dTup, dLst, dBoolT, dAndT, dOrT, dNotT, dAndV, dOrV, dNotV, dCall, dCall0, dB, dIsi, dRepr, dAbs, dInt1, dInt2, dAll, dstart, dwipe, clean, Sl.clean, List.map_cons, List.map_nil, List.length_cons, List.length_nil, List.replicate, List.cons_append, List.nil_append, List.set_cons_zero, List.set_cons_succ, List.getElem?_cons_zero, List.getElem?_cons_succ, Nat.reduceAdd, Nat.reduceSub, Nat.add_zero, Nat.zero_add, Nat.add_sub_cancel, Nat.sub_self, atI_0, atI_1, atI_2, atI_3, dLtI, dLeI, dGtI, dGeI, dSub, dFd, dMod, dPow, eAdd_i, eAdd_l, eMul_i, eMul_l, eIx_l, eIx_t, eLen_l, eLen_t, eInt_i, eInt_b, eEq_i, eNe_i, eEq_e, dRaise, dRetX, dTry, dGcd3, dIsB, dChain, dZip, dItT, dItL, dSl, dNoPart, dPart, dChain, dgUnl, dParO, notN_no, notN_t, isN_no, dRev, dFor, dRng1, dItL]
    refine ⟨cfd g0 gb (by decide), cfd g0 gb (by decide), ?_⟩
    rw [e1, e2]
    refine lad_c (by omega) d0 (db.mono (by decide)) (cb.mono (by decide)) (bd_0.mono (by decide)) (db.mono (by decide)) (lad_half c0 d0 g) ?_
    have d2 : Bd 2 (2 : Int) := ⟨by decide⟩
    refine ⟨cmb (bd_sub2 cb (bd_1.mono (by decide))) (bd_sub2 db (bd_1.mono (by decide))) (by decide), cfd (by decide) d2 (by decide), ?_⟩
    rw [fdiv_p (by decide), eEq_i, decide_eq_true rfl]
  · refine ⟨fun _ _ _ z _ => z.elim, fun d v H2 z _ _ _ r => ?_, fun _ _ _ z _ => z.elim, fun _ _ _ z _ => z.elim, fun _ _ _ _ z _ => z.elim⟩
    cases z
    cases r
    exact hQ _

end
theorem facts {P : Program} {w : World} {K : PySem.W.Frag} {h : Heap} {mg : Str → Option Value} {f : Addr} (X : K.In h) (G : h.Ns mainGlobals mg) (hfa : mg ("law" : Str) = some (.ref f)) (c : SaysE faL fnL exB K) :
  ∃ fd : FuncData, (∀ (s : Shared) (u : Value), BindsTo s fd ⟨[u], []⟩ [("_law_script", u)]) ∧ ∀ base : Heap, K.In base → base.Ns mainGlobals mg → FnG P w K mg base 2 f fd ["_law_script"] (spLaw K) := by
  obtain ⟨f', fd, hm, hb, hF⟩ := ok_law (P := P) (w := w) (tx_of X G c)
  cases hm.symm.trans hfa
  exact ⟨fd, hb, fun base _ _ => hF base⟩
end K85
open PySem PySem.W PyProof.Rows
set_option maxRecDepth 100000 in
set_option maxHeartbeats 0 in
theorem PySem.Challenge.cw_plateheaps_k85_ladders_holds : PySem.Challenge.rw_plateheaps_k85_ladders.Holds := by
  w_on; o_law; k_head; (case hw => w_witness2)
  k_fill
  refine PH.walkG (l := PySem.Challenge.rw_plateheaps_k85_ladders) (k := 2) (x := "_law_script") (sp := PH.spLaw) rfl (by decide) rfl ⟨rfl, by decide, by decide⟩ (fun w h Y => PySem.W.kIn_of Y) ?F ?S
  case S =>
    intro K H a ns hl hb hO hS
    exact ⟨a, ns, rfl, hS, hl, hb, fun _ => rfl⟩
  case F =>
    intro w mg fa h KX G hmg
    exact K85.facts KX G hmg ⟨by unfold He.SaysD; kernel_rfl, by kernel_rfl⟩

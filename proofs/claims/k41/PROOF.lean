import PyProof.Rows.All
import Wide.All
import OpenK.AllK
import Wide.FinOn
import HandS.Lambda
import HandS.EndTab
import HandS.NestedK
import KE.SortKeyHeap
import HandS.ForMost
import HandS.Gcd
import HandS.IsInst
import HandS.Wide
import HandS.Style
import HandS.Walk
import HandS.TupLen
import KE.KDictKeyed
import HandS.EndBits
import HandS.TryOnly
import HandS.ExcOwn
import PyProof.ReprRoads
import KE.KStateDown
import HandS.More
import HandS.WordsExc
import HandS.Defaults
import HandS.Head0
import HandS.Head1
import HandS.Head2
import HandS.HeadEnd
import HandS.HeadHook1
import HandS.HeadHook2
import HandS.TupAny
import HandS.Flt
import PyProof.ExcBaseAll.ValueError
import HandS.Deep
import KE.DataCmp
import HandS.Zip
import KE.KDictZip
import HandS.MapObj
import HandS.DictTup
import HandS.ExcValue
import HandS.Conv
import KE.SortCalls
import KE.KSortKey
import PyProof.TupleIter
import HandS.Nested
import HandS.SortKw
import KE.DataMinMax
import HandS.NoneIn
import HandS.TupMul
import KE.KRevSl
import HandS.Flow
import HandS.DictComp
import KE.GoesEnum
import PyProof.ListMulAny
import PyProof.TwoTypes
import KE.KOpsOwn
import KE.SortData
import PyProof.InstNe
import HandS.DictEq
import PySem.Challenge.RW_plateheaps_k41_half_plane_sums
set_option exponentiation.threshold 2000
set_option Elab.async false
set_option linter.all false
set_option maxRecDepth 100000
set_option maxHeartbeats 0
namespace PH
open PySem
def lamTabs : List (Addr × Str) := [(138, "ascending.<locals>.<lambda>")]
def fnLam : Option (Str × Arguments × Expr × Scope × Str) := none
def hpCls : Option Addr := some 289
end PH

namespace PH
open PySem PySem.Spec PyProof.Rows L2
mutual
inductive KeyV (M : Addr → Prop) (H : Hp) : NestedKey → V → Prop
  | non : KeyV M H .none .non
  | num (i : Int) : KeyV M H (.num i) (.int i)
  | tup {a : Addr} {vs : List V} {ks : List NestedKey} : ¬ M a → H a = some (.tup vs) → KeyVs M H ks vs → KeyV M H (.tup ks) (.ref a)
inductive KeyVs (M : Addr → Prop) (H : Hp) : List NestedKey → List V → Prop
  | nil : KeyVs M H [] []
  | cons {k : NestedKey} {v : V} {ks : List NestedKey} {vs : List V} : KeyV M H k v → KeyVs M H ks vs → KeyVs M H (k :: ks) (v :: vs)
end
mutual
theorem KeyV.is {P : Program} {w : World} {M : Addr → Prop} {H : Hp} {h : Heap} (ok : HOk P w H h) : ∀ {k : NestedKey} {v : V} {u : Value}, KeyV M H k v → RelV v u → NestedIs h k u
  | _, _, u, .non, r => by cases (show u = Value.none from r); exact .none
  | _, _, u, .num i, r => by obtain ⟨t, q⟩ := (show ∃ t, u = Value.int i t from r); subst q; exact .int i t
  | _, _, u, @KeyV.tup _ _ a vs ks _ e q, r => by
    cases (show u = Value.ref a from r)
    obtain ⟨_, its, rv, o, h1, h2, n, h3⟩ := (show ObjOk P w H h a (.tup vs) from ok a _ e)
    exact .tup h1 h2 h3 (by simpa using KeyVs.is ok q rv)
theorem KeyVs.is {P : Program} {w : World} {M : Addr → Prop} {H : Hp} {h : Heap} (ok : HOk P w H h) : ∀ {ks : List NestedKey} {vs : List V} {us : List Value}, KeyVs M H ks vs → Vals vs us → NestedAll h ks us
  | _, _, _, .nil, .nil => .nil
  | _, _, _, .cons a b, .cons r q => .cons (KeyV.is ok a r) (KeyVs.is ok b q)
end
mutual
theorem KeyV.go {M M' : Addr → Prop} {H H' : Hp} (g : ∀ a xs, ¬ M a → H a = some (.tup xs) → ¬ M' a ∧ H' a = some (.tup xs)) : ∀ {k : NestedKey} {v : V}, KeyV M H k v → KeyV M' H' k v
  | _, _, .non => .non
  | _, _, .num i => .num i
  | _, _, .tup n e q => .tup (g _ _ n e).1 (g _ _ n e).2 (KeyVs.go g q)
theorem KeyVs.go {M M' : Addr → Prop} {H H' : Hp} (g : ∀ a xs, ¬ M a → H a = some (.tup xs) → ¬ M' a ∧ H' a = some (.tup xs)) : ∀ {ks : List NestedKey} {vs : List V}, KeyVs M H ks vs → KeyVs M' H' ks vs
  | _, _, .nil => .nil
  | _, _, .cons a b => .cons (KeyV.go g a) (KeyVs.go g b)
end
mutual
def nint : NestedKey → Bool
  | .none => true
  | .num _ => true
  | .text _ => false
  | .tup ks => nints ks
def nints : List NestedKey → Bool
  | [] => true
  | k :: ks => nint k && nints ks
end
mutual
def hash0 : NestedKey → Int
  | .none => reduceHash 0xFCA86420
  | .num i => hashInt i
  | .text _ => 0
  | .tup ks => reduceHash (Builtin.Tuple.tupleHashOf (hashes0 ks))
def hashes0 : List NestedKey → List Int
  | [] => []
  | k :: ks => hash0 k :: hashes0 ks
end
mutual
theorem hash0_eq (w : World) : ∀ {k : NestedKey}, nint k = true → k.hash w = hash0 k
  | .none, _ => rfl
  | .num i, _ => rfl
  | .text x, h => by simp [nint] at h
  | .tup ks, h => by
    have := hashes0_eq w (ks := ks) (by simpa [nint] using h)
    simp only [NestedKey.hash, hash0]
    rw [this]
theorem hashes0_eq (w : World) : ∀ {ks : List NestedKey}, nints ks = true → NestedKey.hashes w ks = hashes0 ks
  | [], _ => rfl
  | k :: ks, h => by
    simp only [nints, Bool.and_eq_true] at h
    simp only [NestedKey.hashes, hashes0]
    rw [hash0_eq w h.1, hashes0_eq w h.2]
end
def KeyOk (k : NestedKey) : Prop := nint k = true ∧ k.depth ≤ 8 ∧ ∃ ks, k = .tup ks
def ndO (a : Addr) (o : Obj) : HO := .ext fun h => h.get? a = some o
abbrev ent0 (x : NestedKey × Addr × Value) : DictEntry := ⟨hash0 x.1, .ref x.2.1, x.2.2⟩
def NdR (M : Addr → Prop) (H : Hp) (p : NestedKey × V) (q : NestedKey × Addr × Value) : Prop := p.1 = q.1 ∧ KeyV M H q.1 (.ref q.2.1) ∧ RelV p.2 q.2.2
structure NdOb (M : Addr → Prop) (H : Hp) (o : Obj) (kvs : List (NestedKey × V)) (xs : List (NestedKey × Addr × Value)) (es : Array DictEntry) (ep : Nat) : Prop where
  ex : o.ExactDict
  dt : o.data = .dict es ep
  en : es.toList = xs.map ent0
  nd : (xs.map (·.1)).Nodup
  rel : Paired (NdR M H) kvs xs
  ok : ∀ x ∈ xs, KeyOk x.1
def NdAt (M : Addr → Prop) (H : Hp) (a : Addr) (kvs : List (NestedKey × V)) : Prop := ∃ o xs es ep, H a = some (ndO a o) ∧ NdOb M H o kvs xs es ep ∧ kvs.length ≤ sizeLine ∧ (a == sysModules) = false
theorem NdOb.go {M M' : Addr → Prop} {H H' : Hp} {o : Obj} {kvs : List (NestedKey × V)} {xs : List (NestedKey × Addr × Value)} {es : Array DictEntry} {ep : Nat} (x : NdOb M H o kvs xs es ep) (g : ∀ a ys, ¬ M a → H a = some (.tup ys) → ¬ M' a ∧ H' a = some (.tup ys)) : NdOb M' H' o kvs xs es ep :=
  ⟨x.ex, x.dt, x.en, x.nd, Paired.mapP x.rel fun _ _ q => ⟨q.1, q.2.1.go g, q.2.2⟩, x.ok⟩
section
variable {P : Program} {w : World} {M : Addr → Prop} {H : Hp} {h : Heap} {a : Addr} {kvs : List (NestedKey × V)} {xs : List (NestedKey × Addr × Value)}
theorem nd_val (r : Paired (NdR M H) kvs xs) (k : NestedKey) : RelO (valV kvs k) ((atKey xs k).map (·.2)) := by
  induction r with
  | nil => exact True.intro
  | @cons p q ps qs f t ih =>
    obtain ⟨f1, _, f2⟩ := f
    by_cases z : p.1 = k
    · have z' : q.1 = k := f1.symm.trans z
      have b : atKey (q :: qs) k = some q.2 := by simp [atKey, List.find?_cons, z']
      rw [valV_pos z, b]
      exact f2
    · have z' : ¬ q.1 = k := fun y => z (f1.trans y)
      have b : atKey (q :: qs) k = atKey qs k := by simp [atKey, List.find?_cons, z']
      rw [valV_neg z, b]
      exact ih
theorem nd_put (r : Paired (NdR M H) kvs xs) (k : NestedKey) {b : Addr} {y : V} {u : Value} (hb : KeyV M H k (.ref b)) (ry : RelV y u) : Paired (NdR M H) (putK kvs k y) (storedH xs k b u) := by
  have over : Paired (NdR M H) (kvs.map fun kv => if kv.1 = k then (kv.1, y) else kv) (xs.map (putAt k u)) := by
    induction r with
    | nil => exact .nil
    | @cons p q ps qs f t ih =>
      refine .cons ?_ ih
      obtain ⟨f1, f2, f3⟩ := f
      show NdR M H (if p.1 = k then (p.1, y) else p) (putAt k u q)
      unfold putAt
      by_cases z : p.1 = k
      · rw [if_pos z, if_pos (f1.symm.trans z)]
        exact ⟨f1, f2, ry⟩
      · rw [if_neg z, if_neg fun y => z (f1.trans y)]
        exact ⟨f1, f2, f3⟩
  have there : (kvs.any fun kv => decide (kv.1 = k)) = (atKey xs k).isSome := by
    have v := (nd_val r k).isSome_eq
    rw [valV_any, v, Option.isSome_map]
  unfold putK storedH
  rw [there]
  by_cases q : (atKey xs k).isSome = true
  · rw [if_pos q, if_pos q]
    exact over
  · rw [if_neg q, if_neg q]
    exact Paired.snoc r ⟨rfl, hb, ry⟩
theorem nd_keyIs (ok : HOk P w H h) {k : NestedKey} {b : Addr} (hk : KeyOk k) (q : KeyV M H k (.ref b)) : (nestedKind P w).is h k b := ⟨q.is ok rfl, hk.2.1⟩
theorem nd_dict (ok : HOk P w H h) {o : Obj} {es : Array DictEntry} {ep : Nat} (e : H a = some (ndO a o)) (x : NdOb M H o kvs xs es ep) : h.DictOfH (nestedKind P w) a xs := by
  obtain ⟨h1, _, _⟩ := (show ObjOk P w H h a (ndO a o) from ok a _ e)
  refine ⟨o, es, ep, h1, x.ex, x.dt, ?_, ?_, x.nd⟩
  · rw [x.en]
    exact List.map_congr_left fun y hy => by
      show ent0 y = (⟨y.1.hash w, _, _⟩ : DictEntry)
      rw [hash0_eq w (x.ok y hy).1]
  · have all : ∀ {l : List (NestedKey × V)} {m : List (NestedKey × Addr × Value)}, Paired (NdR M H) l m → (∀ y ∈ m, KeyOk y.1) → ∀ y ∈ m, (nestedKind P w).is h y.1 y.2.1 := by
      intro l m r
      induction r with
      | nil => intro _ y hy; exact nomatch hy
      | cons f t ih =>
        intro hk y hy
        rcases List.mem_cons.mp hy with e | e
        · rw [e]; exact nd_keyIs ok (hk _ (by simp)) f.2.1
        · exact ih (fun z hz => hk z (by simp [hz])) y e
    exact all x.rel x.ok
end
section
variable {X : Cx} {pins : List (Addr × Obj)} {σ : L2.St} {M : Addr → Prop} {H : Hp} {s : Shared} {a b : Addr} {k : NestedKey} {v : V} {kvs : List (NestedKey × V)} {A : Around} {E : Value → Shared → Prop}
theorem nd_room (hu : A.units + 10 < cLine) : (nestedKind X.prog X.w).room A.in1 := by
  show A.in1.units + 8 < cLine
  have : A.in1.units = A.units + 1 := rfl
  omega
theorem nd_typeIs (I : Inv X pins σ H s) (n : NdAt M H a kvs) : s.TypeIs (.ref a) "dict" ∧ (∀ c, Value.ref a = .ref c → ∃ ob, s.heap.get? c = some ob ∧ ob.dict = none) ∧ (a == sysModules) = false := by
  obtain ⟨o, xs, es, ep, e, x, l, hd⟩ := n
  obtain ⟨h1, _, _⟩ := (show ObjOk X.prog X.w H s.heap a (ndO a o) from I.hok a _ e)
  refine ⟨⟨o, h1, x.ex.1⟩, fun c q => ?_, hd⟩
  cases q
  exact ⟨o, h1, x.ex.2.1⟩
theorem nd_item {Q : Value → Shared → Prop} (hu : A.units + 10 < cLine) (I : Inv X pins σ H s) (n : NdAt M H a kvs) (hk : KeyOk k) (q : KeyV M H k (.ref b)) (hv : valV kvs k = some v) (h : ∀ u s', Inv X pins σ H s' → RelV v u → Q u s') :
    wpAny (model X.prog X.w) A (getItem (.ref a) (.ref b)) Q E s := by
  obtain ⟨o, xs, es, ep, e, x, l, hd⟩ := n
  have dd := nd_dict I.hok e x
  obtain ⟨u, hw, ru⟩ := RelO.some_of (v := v) (o := (atKey xs k).map (·.2)) (by rw [← hv]; exact nd_val x.rel k)
  obtain ⟨p, hp, hp2⟩ := Option.map_eq_some_iff.mp hw
  refine wpAny_getItem_heap (nd_room hu) (nd_keyIs I.hok hk q) dd hp ?_
  rw [hp2]
  exact h u _ (I.tok _) ru
theorem nd_get {c : V} {r : Value} {Q : Value → Shared → Prop} (hu : A.units + 10 < cLine) (I : Inv X pins σ H s) (n : NdAt M H a kvs) (hk : KeyOk k) (q : KeyV M H k (.ref b)) (rc : RelV c r) (h : ∀ u s', Inv X pins σ H s' → RelV ((valV kvs k).getD c) u → Q u s') :
    wpAny (model X.prog X.w) A (call (.builtin "dict.get") [.ref a, .ref b, r]) Q E s := by
  obtain ⟨o, xs, es, ep, e, x, l, hd⟩ := n
  have dd := nd_dict I.hok e x
  refine call_meetsIn PySem.F.slot_dict_get dd.typeIs PySem.F.entry_dict_get (PySem.F.args_dict_get_3 _ _ _) (meetsH_dict_get_default (nestedKind X.prog X.w) a b hd r) ⟨nd_room hu, k, xs, nd_keyIs I.hok hk q, dd, h _ _ (I.tok _) ?_⟩
  exact (nd_val x.rel k).getD rc
theorem nd_store {r : Value} {Q : Unit → Shared → Prop} (hu : A.units + 10 < cLine) (I : Inv X pins σ H s) (n : NdAt M H a kvs) (hl : kvs.length < sizeLine) (hk : KeyOk k) (q : KeyV M H k (.ref b)) (rv : RelV v r)
    (h : ∀ o' s', NdAt M (upd H a (ndO a o')) a (putK kvs k v) → Inv X pins σ (upd H a (ndO a o')) s' → Q () s') : wpAny (model X.prog X.w) A (setItem (.ref a) (.ref b) r) Q E s := by
  obtain ⟨o, xs, es, ep, e, x, l, hd⟩ := n
  have dd := nd_dict I.hok e x
  have hz : xs.length ≤ sizeLine := by rw [← Paired.length x.rel]; exact l
  refine wpAny_setItem_heap (hsz := hz) (nd_room hu) (nd_keyIs I.hok hk q) dd fun h' dd' hs => ?_
  obtain ⟨o', es', ep', h1, h2, h3, h4, _, h6⟩ := dd'
  have tup : ∀ c ys, ¬ M c → H c = some (.tup ys) → ¬ M c ∧ upd H a (ndO a o') c = some (.tup ys) := fun c ys nc ec => by
    rw [upd_ne (ne_of ec e fun z => nomatch z)]; exact ⟨nc, ec⟩
  have ok' : ∀ y ∈ storedH xs k b r, KeyOk y.1 := fun y hy => by
    unfold storedH at hy
    split at hy
    · obtain ⟨z, hz, rfl⟩ := List.mem_map.mp hy
      have := x.ok z hz
      unfold putAt
      split <;> exact this
    · rcases List.mem_append.mp hy with z | z
      · exact x.ok y z
      · simp at z; rw [z]; exact hk
  have en : es'.toList = (storedH xs k b r).map ent0 := by
    rw [h4]
    exact List.map_congr_left fun y hy => by
      show (⟨y.1.hash X.w, _, _⟩ : DictEntry) = ent0 y
      rw [hash0_eq X.w (ok' y hy).1]
  have len : (putK kvs k v).length ≤ sizeLine := by have := length_putK kvs k v; omega
  refine h o' _ ⟨o', _, es', ep', upd_same, ⟨h2, h3, en, h6, Paired.mapP (nd_put x.rel k q rv) fun _ _ z => ⟨z.1, z.2.1.go tup, z.2.2⟩, ok'⟩, len, hd⟩ ?_
  exact I.write (x := a) (e := a) (by rw [e]; exact True.intro) (.inl rfl) (fun c u hc z => (hs.2 c hc).trans z) ⟨o', h1⟩ ⟨h1, ⟨o', h1⟩, fun h1 h2 z y => y _ z⟩
theorem nd_new (I : Inv X pins σ H s) {t' : Nat} : ∃ o, (∀ M : Addr → Prop, NdAt M (upd H s.heap.objs.size (ndO s.heap.objs.size o)) s.heap.objs.size []) ∧ Inv X pins σ (upd H s.heap.objs.size (ndO s.heap.objs.size o)) { s with heap := s.heap.push { cls := .type "dict", data := .dict #[] }, toks := t' } := by
  have g := Heap.get?_push_size s.heap (o := { cls := .type "dict", data := .dict #[] }) rfl
  refine ⟨{ cls := .type "dict", data := .dict #[] }, fun M => ⟨_, [], #[], 0, upd_same, ⟨⟨rfl, rfl, rfl⟩, rfl, rfl, List.nodup_nil, .nil, fun _ z => nomatch z⟩, Nat.zero_le _, beq_eq_false_iff_ne.mpr (Ne.symm (Nat.ne_of_lt I.big))⟩, ?_⟩
  exact I.laid (fun _ _ q => Heap.get?_push_of_some _ q) (Nat.le_refl _) ⟨g, ⟨_, g⟩, fun h1 h2 z y => y _ z⟩
theorem nd_dictSet {r : Value} {Q : Unit → Shared → Prop} (hu : A.units + 8 < cLine) (I : Inv X pins σ H s) (n : NdAt M H a kvs) (hl : kvs.length < sizeLine) (hk : KeyOk k) (q : KeyV M H k (.ref b)) (rv : RelV v r)
    (h : ∀ o' s', NdAt M (upd H a (ndO a o')) a (putK kvs k v) → Inv X pins σ (upd H a (ndO a o')) s' → Q () s') : wpAny (model X.prog X.w) A (dictSet a (.ref b) r) Q E s := by
  obtain ⟨o, xs, es, ep, e, x, l, hd⟩ := n
  have dd := nd_dict I.hok e x
  have hz : xs.length ≤ sizeLine := by rw [← Paired.length x.rel]; exact l
  refine wpAny_dictSet_heap (hsz := hz) (show (nestedKind X.prog X.w).room A from hu) (nd_keyIs I.hok hk q) dd fun h' dd' hs => ?_
  obtain ⟨o', es', ep', h1, h2, h3, h4, _, h6⟩ := dd'
  have tup : ∀ c ys, ¬ M c → H c = some (.tup ys) → ¬ M c ∧ upd H a (ndO a o') c = some (.tup ys) := fun c ys nc ec => by
    rw [upd_ne (ne_of ec e fun z => nomatch z)]; exact ⟨nc, ec⟩
  have ok' : ∀ y ∈ storedH xs k b r, KeyOk y.1 := fun y hy => by
    unfold storedH at hy
    split at hy
    · obtain ⟨z, hz, rfl⟩ := List.mem_map.mp hy
      have := x.ok z hz
      unfold putAt
      split <;> exact this
    · rcases List.mem_append.mp hy with z | z
      · exact x.ok y z
      · simp at z; rw [z]; exact hk
  have en : es'.toList = (storedH xs k b r).map ent0 := by
    rw [h4]
    exact List.map_congr_left fun y hy => by
      show (⟨y.1.hash X.w, _, _⟩ : DictEntry) = ent0 y
      rw [hash0_eq X.w (ok' y hy).1]
  have len : (putK kvs k v).length ≤ sizeLine := by have := length_putK kvs k v; omega
  refine h o' _ ⟨o', _, es', ep', upd_same, ⟨h2, h3, en, h6, Paired.mapP (nd_put x.rel k q rv) fun _ _ z => ⟨z.1, z.2.1.go tup, z.2.2⟩, ok'⟩, len, hd⟩ ?_
  exact I.write (x := a) (e := a) (by rw [e]; exact True.intro) (.inl rfl) (fun c u hc z => (hs.2 c hc).trans z) ⟨o', h1⟩ ⟨h1, ⟨o', h1⟩, fun h1 h2 z y => y _ z⟩
end
mutual
def nkD : NestedKey → PyData
  | .none => .none
  | .num i => .int i
  | .text x => .str x
  | .tup ks => .tuple (nkDs ks)
def nkDs : List NestedKey → List PyData
  | [] => []
  | k :: ks => nkD k :: nkDs ks
end
abbrev ndD (kvs : List (NestedKey × Int)) : PyData := .dict ((.none, .int 0) :: kvs.map fun x => (nkD x.1, .int x.2))
abbrev hpD (kvs : List (NestedKey × Int)) : PyData := .dict ((.none, .int 1) :: kvs.map fun x => (nkD x.1, .int x.2))
def iV (kvs : List (NestedKey × Int)) : List (NestedKey × V) := kvs.map fun x => (x.1, .int x.2)
theorem NdAt.go {M M' : Addr → Prop} {H H' : Hp} {a : Addr} {kvs : List (NestedKey × V)} (x : NdAt M H a kvs) (k : ∀ o, H a = some (ndO a o) → H' a = some (ndO a o)) (g : ∀ a ys, ¬ M a → H a = some (.tup ys) → ¬ M' a ∧ H' a = some (.tup ys)) : NdAt M' H' a kvs := by
  obtain ⟨o, xs, es, ep, e, q, l, hs⟩ := x
  exact ⟨o, xs, es, ep, k o e, q.go g, l, hs⟩
end PH

namespace PH
open PySem PySem.Spec PyProof.Rows L2
abbrev D := PyData
abbrev Sr := Option (Addr × Addr)
abbrev SRC : D := .dict [(.none, .none)]
def keyD : Key → D
  | .inl i => .int i
  | .inr x => .str x
abbrev tdD (ks ds : List D) : D := .dict ((.none, .bool true) :: ks.zip ds)
def isM : Option HO → Prop
  | some (.lst _) => True
  | some (.dK _) => True
  | some (.dT _) => True
  | some (.ext φ) => ∃ a o, HO.ext φ = ndO a o ∧ ∃ es ep, o.data = .dict es ep
  | _ => False
theorem isM.ne {o : Option HO} (h : isM o) : o ≠ none := fun z => by rw [z] at h; exact h
theorem isM.tup {xs : List V} (h : isM (some (.tup xs))) : False := h
theorem isM.same {H H' : Hp} {a : Addr} (h : isM (H a)) (k : ∀ o, H a = some o → H' a = some o) : isM (H' a) := by
  cases z : H a with
  | none => rw [z] at h; exact h.elim
  | some o => rw [k o z, ← z]; exact h
theorem isM.sameT {H H' : Hp} {a : Addr} (h : isM (H a)) (k : ∀ o, H a = some o → H' a = some o ∨ ∃ ps ps', o = .tbl ps ∧ H' a = some (.tbl ps')) : isM (H' a) :=
  h.same fun o e => (k o e).resolve_right fun ⟨ps, _, z, _⟩ => by rw [e, z] at h; exact h
theorem isM.upd {H : Hp} {a b : Addr} {xs : List V} (h : isM (H a)) : isM (L2.upd H b (.lst xs) a) := by
  by_cases e : a = b
  · rw [e, upd_same]; exact True.intro
  · rw [upd_ne e]; exact h
mutual
inductive Dq (S : Sr) (M : Addr → Prop) (H : Hp) : V → D → Prop
  | non : Dq S M H .non .none
  | bl (b : Bool) : Dq S M H (.bl b) (.bool b)
  | int (i : Int) : Dq S M H (.int i) (.int i)
  | str (x : Str) : Dq S M H (.str x) (.str x)
  | lst {a : Addr} {xs : List V} {ds : List D} : ¬ M a → H a = some (.lst xs) → Dqs S M H xs ds → Dq S M H (.ref a) (.list ds)
  | tup {a : Addr} {xs : List V} {ds : List D} : ¬ M a → H a = some (.tup xs) → Dqs S M H xs ds → Dq S M H (.ref a) (.tuple ds)
  | dic {a : Addr} : ¬ M a → H a = some (.dK []) → Dq S M H (.ref a) (.dict [])
  | src {p c : Addr} : S = some (p, c) → Dq S M H (.ref p) SRC
  | dit {a : Addr} {kvs : List (List Key × V)} {ds : List D} : ¬ M a → H a = some (.dT kvs) → Dqs S M H (kvs.map (·.2)) ds → Dq S M H (.ref a) (tdD (kvs.map fun x => .tuple (x.1.map keyD)) ds)
  | ndt {a : Addr} {kvs : List (NestedKey × Int)} : ¬ M a → NdAt M H a (iV kvs) → Dq S M H (.ref a) (ndD kvs)
  | hep {C a dx b : Addr} {kvs : List (NestedKey × Int)} : hpCls = some C → ¬ M a → ¬ M b → H a = some (.ins C dx [("_weights", .ref b)]) → NdAt M H b (iV kvs) → Dq S M H (.ref a) (hpD kvs)
inductive Dqs (S : Sr) (M : Addr → Prop) (H : Hp) : List V → List D → Prop
  | nil : Dqs S M H [] []
  | cons {v : V} {vs : List V} {d : D} {ds : List D} : Dq S M H v d → Dqs S M H vs ds → Dqs S M H (v :: vs) (d :: ds)
end
section
variable {S : Sr} {M M' : Addr → Prop} {H H' : Hp}
mutual
theorem Dq.go (g : ∀ a o, ¬ M a → H a = some o → ¬ M' a ∧ H' a = some o) : ∀ {v : V} {d : D}, Dq S M H v d → Dq S M' H' v d
  | _, _, .non => .non
  | _, _, .bl b => .bl b
  | _, _, .int i => .int i
  | _, _, .str x => .str x
  | _, _, .lst n e r => .lst (g _ _ n e).1 (g _ _ n e).2 (Dqs.go g r)
  | _, _, .tup n e r => .tup (g _ _ n e).1 (g _ _ n e).2 (Dqs.go g r)
  | _, _, .dic n e => .dic (g _ _ n e).1 (g _ _ n e).2
  | _, _, .src e => .src e
  | _, _, .dit n e r => .dit (g _ _ n e).1 (g _ _ n e).2 (Dqs.go g r)
  | _, _, .ndt n x => .ndt (let ⟨_, _, _, _, e, _⟩ := x; (g _ _ n e).1) (x.go (fun _ e => (g _ _ n e).2) fun _ _ m e => g _ _ m e)
  | _, _, .hep c n nb e x => .hep c (g _ _ n e).1 (let ⟨_, _, _, _, e, _⟩ := x; (g _ _ nb e).1) (g _ _ n e).2 (x.go (fun _ e => (g _ _ nb e).2) fun _ _ m e => g _ _ m e)
theorem Dqs.go (g : ∀ a o, ¬ M a → H a = some o → ¬ M' a ∧ H' a = some o) : ∀ {vs : List V} {ds : List D}, Dqs S M H vs ds → Dqs S M' H' vs ds
  | _, _, .nil => .nil
  | _, _, .cons a b => .cons (Dq.go g a) (Dqs.go g b)
end
mutual
theorem Dq.goT (g : ∀ a o, ¬ M a → H a = some o → ¬ M' a ∧ (H' a = some o ∨ ∃ ps ps', o = .tbl ps ∧ H' a = some (.tbl ps'))) : ∀ {v : V} {d : D}, Dq S M H v d → Dq S M' H' v d
  | _, _, .non => .non
  | _, _, .bl b => .bl b
  | _, _, .int i => .int i
  | _, _, .str x => .str x
  | _, _, .lst n e r => .lst (g _ _ n e).1 ((g _ _ n e).2.resolve_right fun ⟨_, _, z, _⟩ => nomatch z) (Dqs.goT g r)
  | _, _, .tup n e r => .tup (g _ _ n e).1 ((g _ _ n e).2.resolve_right fun ⟨_, _, z, _⟩ => nomatch z) (Dqs.goT g r)
  | _, _, .dic n e => .dic (g _ _ n e).1 ((g _ _ n e).2.resolve_right fun ⟨_, _, z, _⟩ => nomatch z)
  | _, _, .src e => .src e
  | _, _, .dit n e r => .dit (g _ _ n e).1 ((g _ _ n e).2.resolve_right fun ⟨_, _, z, _⟩ => nomatch z) (Dqs.goT g r)
  | _, _, .ndt n x => .ndt (let ⟨_, _, _, _, e, _⟩ := x; (g _ _ n e).1) (x.go (fun _ e => (g _ _ n e).2.resolve_right fun ⟨_, _, z, _⟩ => nomatch z) fun _ _ m e => ⟨(g _ _ m e).1, (g _ _ m e).2.resolve_right fun ⟨_, _, z, _⟩ => nomatch z⟩)
  | _, _, .hep c n nb e x => .hep c (g _ _ n e).1 (let ⟨_, _, _, _, e, _⟩ := x; (g _ _ nb e).1) ((g _ _ n e).2.resolve_right fun ⟨_, _, z, _⟩ => nomatch z) (x.go (fun _ e => (g _ _ nb e).2.resolve_right fun ⟨_, _, z, _⟩ => nomatch z) fun _ _ m e => ⟨(g _ _ m e).1, (g _ _ m e).2.resolve_right fun ⟨_, _, z, _⟩ => nomatch z⟩)
theorem Dqs.goT (g : ∀ a o, ¬ M a → H a = some o → ¬ M' a ∧ (H' a = some o ∨ ∃ ps ps', o = .tbl ps ∧ H' a = some (.tbl ps'))) : ∀ {vs : List V} {ds : List D}, Dqs S M H vs ds → Dqs S M' H' vs ds
  | _, _, .nil => .nil
  | _, _, .cons a b => .cons (Dq.goT g a) (Dqs.goT g b)
end
theorem Dqs.length : ∀ {vs : List V} {ds : List D}, Dqs S M H vs ds → vs.length = ds.length
  | _, _, .nil => rfl
  | _, _, .cons _ r => by simp [Dqs.length r]
theorem Dqs.get : ∀ {vs : List V} {ds : List D} {i : Nat} {d : D}, Dqs S M H vs ds → ds[i]? = some d → ∃ v, vs[i]? = some v ∧ Dq S M H v d
  | _, _, _, _, .nil, e => by simp at e
  | _, _, 0, _, .cons r _, e => by simp at e; subst e; exact ⟨_, rfl, r⟩
  | _, _, i + 1, d, .cons _ t, e => by
    obtain ⟨u, h1, h2⟩ := Dqs.get (i := i) (d := d) t (by simpa using e)
    exact ⟨u, by simpa using h1, h2⟩
theorem Dqs.getV : ∀ {vs : List V} {ds : List D} {i : Nat} {v : V}, Dqs S M H vs ds → vs[i]? = some v → ∃ d, ds[i]? = some d ∧ Dq S M H v d
  | _, _, _, _, .nil, e => by simp at e
  | _, _, 0, _, .cons r _, e => by simp at e; subst e; exact ⟨_, rfl, r⟩
  | _, _, i + 1, v, .cons _ t, e => by
    obtain ⟨u, h1, h2⟩ := Dqs.getV (i := i) (v := v) t (by simpa using e)
    exact ⟨u, by simpa using h1, h2⟩
theorem Dqs.append : ∀ {vs ws : List V} {ds es : List D}, Dqs S M H vs ds → Dqs S M H ws es → Dqs S M H (vs ++ ws) (ds ++ es)
  | _, _, _, _, .nil, s => s
  | _, _, _, _, .cons a b, s => .cons a (Dqs.append b s)
theorem Dqs.take : ∀ {vs : List V} {ds : List D} (n : Nat), Dqs S M H vs ds → Dqs S M H (vs.take n) (ds.take n)
  | _, _, 0, _ => .nil
  | _, _, _ + 1, .nil => .nil
  | _, _, n + 1, .cons r t => .cons r (Dqs.take n t)
theorem Dqs.drop : ∀ {vs : List V} {ds : List D} (n : Nat), Dqs S M H vs ds → Dqs S M H (vs.drop n) (ds.drop n)
  | _, _, 0, r => r
  | _, _, _ + 1, .nil => .nil
  | _, _, n + 1, .cons _ t => Dqs.drop n t
theorem Dqs.rev {vs : List V} {ds : List D} (h : Dqs S M H vs ds) : Dqs S M H vs.reverse ds.reverse := by
  induction vs generalizing ds with
  | nil => cases h; exact .nil
  | cons v r ih =>
    cases h with
    | cons a b => rw [List.reverse_cons, List.reverse_cons]; exact (ih b).append (.cons a .nil)
end
def srcKvs (c : Addr) (l m t : Int) : List (Key × V) := [(.inr "cells", .ref c), (.inr "left", .int l), (.inr "mixed", .int m), (.inr "turn", .int t)]
structure SrcOk (S : Sr) (M : Addr → Prop) (H : Hp) : Prop where
  go : ∀ p c, S = some (p, c) → M p ∧ M c ∧ p ≠ c ∧ ∃ (ns : List Int) (l m t : Int), H c = some (.lst (ns.map V.int)) ∧ H p = some (.dK (srcKvs c l m t))
  tab : LamX.Tabs lamTabs H
  nt : ∀ a, M a → isM (H a)
theorem SrcOk.at {S : Sr} {M M' : Addr → Prop} {H H' : Hp} (x : SrcOk S M H) (y : SrcOk S M' H') (h : ∀ a, M a → M' a := by exact fun _ z => Or.inl z) : SrcOk S M H' := ⟨fun p c e => let ⟨a, b, _⟩ := x.go p c e; let ⟨_, _, r⟩ := y.go p c e; ⟨a, b, r⟩, y.tab, fun a z => y.nt a (h a z)⟩
theorem SrcOk.more {S : Sr} {M M' : Addr → Prop} {H : Hp} (x : SrcOk S M H) (h : ∀ a, M a → M' a) (n : ∀ a, M' a → isM (H a)) : SrcOk S M' H := ⟨fun p c e => let ⟨a, b, r⟩ := x.go p c e; ⟨h _ a, h _ b, r⟩, x.tab, n⟩
def KeepS (S : Sr) (H H' : Hp) : Prop := ∀ a o, H a = some o → (∀ p c, S = some (p, c) → a ≠ p ∧ a ≠ c) → H' a = some o ∨ ∃ ps ps', o = .tbl ps ∧ H' a = some (.tbl ps')
theorem KeepS.k {S : Sr} {H H' : Hp} (k : KeepS S H H') (a : Addr) (o : HO) (e : H a = some o) (n : ∀ p c, S = some (p, c) → a ≠ p ∧ a ≠ c) (h : ∀ ps, o ≠ .tbl ps := by intro _ z; cases z) : H' a = some o := (k a o e n).resolve_right fun ⟨ps, _, z, _⟩ => h ps z
theorem KeepS.nn {S : Sr} {H H' : Hp} (k : KeepS S H H') {a : Addr} (e : H a ≠ none) (n : ∀ p c, S = some (p, c) → a ≠ p ∧ a ≠ c) : H' a ≠ none := by
  cases z : H a with
  | none => exact absurd z e
  | some o =>
    rcases k a o z n with q | ⟨_, _, _, q⟩ <;> rw [q] <;> exact fun y => nomatch y
theorem KeepS.refl {S : Sr} {H : Hp} : KeepS S H H := fun _ _ e _ => .inl e
theorem KeepS.trans {S : Sr} {H H1 H2 : Hp} (a : KeepS S H H1) (b : KeepS S H1 H2) : KeepS S H H2 := fun c o e n => by
  rcases a c o e n with q | ⟨ps, ps', q1, q2⟩
  · exact b c o q n
  · rcases b c _ q2 n with q | ⟨_, qs, _, q⟩
    · exact .inr ⟨ps, ps', q1, q⟩
    · exact .inr ⟨ps, qs, q1, q⟩
theorem KeepS.of {S : Sr} {H H' : Hp} (h : Same H H') : KeepS S H H' := fun a o e _ => .inl (h a o e)
theorem SrcOk.same {S : Sr} {M : Addr → Prop} {H H' : Hp} (x : SrcOk S M H) (h : Same H H') : SrcOk S M H' := ⟨fun p c e => by
  obtain ⟨a, b, n, ns, l, m, t, h1, h2⟩ := x.go p c e
  exact ⟨a, b, n, ns, l, m, t, h _ _ h1, h _ _ h2⟩, x.tab.ext h, fun a z => (x.nt a z).same (h a)⟩
theorem tabs_upd {H : Hp} {a : Addr} {o u : HO} (T : LamX.Tabs lamTabs H) (e : H a = some o) (h1 : ∀ ps, o ≠ .tbl ps := by intro _ z; cases z) (h2 : ∀ c q, o ≠ LamX.CodeO c q := by intro _ _ z; cases z) : LamX.Tabs lamTabs (upd H a u) := fun p hp => by
  obtain ⟨ps, t1, t2, t3⟩ := T p hp
  refine ⟨ps, ?_, t2, fun pos cv hc => ?_⟩
  · rw [upd_ne fun z => h1 ps ?_]
    · exact t1
    · rw [z, e] at t1; exact Option.some.inj t1
  · obtain ⟨c, c1, c2⟩ := t3 pos cv hc
    refine ⟨c, c1, ?_⟩
    have n : c ≠ a := fun z => by
      have w : H a = H c := by rw [z]
      exact h2 c p.2 (Option.some.inj (e.symm.trans (w.trans c2)))
    rw [upd_ne n]; exact c2
theorem Same.upd {H : Hp} {p : Addr} {o : HO} (h : H p = none) : Same H (upd H p o) := fun b u e => by
  rw [upd_ne (ne_of_none e h)]; exact e
inductive Sl where
  | emp | val (d : D) | own (a : Addr) (ds : List D) | fn (d : D) | raw (v : V)
abbrev DSt := List Sl
def MO (M : Addr → Prop) (σd : DSt) : Addr → Prop := fun a => M a ∨ ∃ ds, Sl.own a ds ∈ σd
def pinO (c : Addr) (o : Obj) : HO := .ext fun h => h.get? c = some o
def FnAt (H : Hp) (f c' cell : Addr) (u : Value) : Prop := ∃ q pa bd sc y pm ctv oc, fnLam = some (q, pa, bd, sc, y) ∧ H f = some (pinO f (PySem.W.kla_obj "<lambda>" q pa bd sc [(y, cell)] pm c' ctv)) ∧ H c' = some (LamX.CodeO c' q) ∧ H cell = some (pinO cell oc) ∧ oc.data = .cell (some u)
theorem nd_isM {a : Addr} {o : Obj} (ho : ∃ es ep, o.data = .dict es ep) : isM (some (ndO a o)) := ⟨_, _, rfl, ho⟩
def FnR (S : Sr) (M : Addr → Prop) (H : Hp) (o : Option V) (d : D) : Prop := ∃ f c' cell u v, o = some (.ref f) ∧ ¬ M f ∧ ¬ M c' ∧ ¬ M cell ∧ FnAt H f c' cell u ∧ RelV v u ∧ Dq S M H v d
theorem FnR.go {S : Sr} {M M' : Addr → Prop} {H H' : Hp} {o : Option V} {d : D} (x : FnR S M H o d) (g : ∀ a o, ¬ M a → H a = some o → ¬ M' a ∧ H' a = some o) : FnR S M' H' o d := by
  obtain ⟨f, c', cell, u, v, e, n1, n2, n3, ⟨q, pa, bd, sc, y, pm, ctv, oc, e0, e1, e2, e3, e4⟩, r, k⟩ := x
  exact ⟨f, c', cell, u, v, e, (g _ _ n1 e1).1, (g _ _ n2 e2).1, (g _ _ n3 e3).1, ⟨q, pa, bd, sc, y, pm, ctv, oc, e0, (g _ _ n1 e1).2, (g _ _ n2 e2).2, (g _ _ n3 e3).2, e4⟩, r, k.go g⟩
theorem FnR.goT {S : Sr} {M M' : Addr → Prop} {H H' : Hp} {o : Option V} {d : D} (x : FnR S M H o d) (g : ∀ a o, ¬ M a → H a = some o → ¬ M' a ∧ (H' a = some o ∨ ∃ ps ps', o = .tbl ps ∧ H' a = some (.tbl ps'))) : FnR S M' H' o d := by
  obtain ⟨f, c', cell, u, v, e, n1, n2, n3, ⟨q, pa, bd, sc, y, pm, ctv, oc, e0, e1, e2, e3, e4⟩, r, k⟩ := x
  exact ⟨f, c', cell, u, v, e, (g _ _ n1 e1).1, (g _ _ n2 e2).1, (g _ _ n3 e3).1, ⟨q, pa, bd, sc, y, pm, ctv, oc, e0, (g _ _ n1 e1).2.resolve_right (fun ⟨_, _, z, _⟩ => nomatch z), (g _ _ n2 e2).2.resolve_right (fun ⟨_, _, z, _⟩ => LamX.codeO_ne _ z), (g _ _ n3 e3).2.resolve_right (fun ⟨_, _, z, _⟩ => nomatch z), e4⟩, r, k.goT g⟩
def SlR (S : Sr) (M : Addr → Prop) (H : Hp) (o : Option V) : Sl → Prop
  | .emp => True
  | .val d => ∃ v, o = some v ∧ Dq S M H v d
  | .own a ds => o = some (.ref a) ∧ ∃ xs, H a = some (.lst xs) ∧ Dqs S M H xs ds
  | .fn d => FnR S M H o d
  | .raw v => o = some v
structure Ev (S : Sr) (M : Addr → Prop) (H0 H : Hp) (σ : L2.St) (σd : DSt) : Prop where
  len : σd.length = σ.length
  sl : ∀ (i : Nat) (o : Option V) (s : Sl), σ[i]? = some o → σd[i]? = some s → SlR S (MO M σd) H o s
  uni : ∀ (i j : Nat) (a : Addr) (ds es : List D), σd[i]? = some (.own a ds) → σd[j]? = some (.own a es) → i = j
  new : ∀ a ds, Sl.own a ds ∈ σd → H0 a = none
  src : SrcOk S M H
  src0 : ∀ p c, S = some (p, c) → H0 p ≠ none ∧ H0 c ≠ none
  keep : KeepS S H0 H
  mt : ∀ a, M a → H a ≠ none
  mt0 : ∀ a, M a → H0 a ≠ none
section
variable {S : Sr} {M : Addr → Prop} {H0 H H' : Hp} {σ : L2.St} {σd : DSt}
theorem Ev.kp (E : Ev S M H0 H σ σd) (k : KeepS S H H') : ∀ a o, ¬ MO M σd a → H a = some o → ¬ MO M σd a ∧ (H' a = some o ∨ ∃ ps ps', o = .tbl ps ∧ H' a = some (.tbl ps')) := fun a o n e =>
  ⟨n, k a o e fun p c q => by
    obtain ⟨hp, hc, _⟩ := E.src.go p c q
    exact ⟨fun z => n (.inl (z ▸ hp)), fun z => n (.inl (z ▸ hc))⟩⟩
theorem Ev.dq (E : Ev S M H0 H σ σd) (k : KeepS S H H') {v : V} {d : D} (h : Dq S (MO M σd) H v d) : Dq S (MO M σd) H' v d := h.goT (E.kp k)
theorem Ev.dqs (E : Ev S M H0 H σ σd) (k : KeepS S H H') {vs : List V} {ds : List D} (h : Dqs S (MO M σd) H vs ds) : Dqs S (MO M σd) H' vs ds := h.goT (E.kp k)
theorem Ev.slot (E : Ev S M H0 H σ σd) {i : Nat} {s : Sl} (h : σd[i]? = some s) : ∃ o, σ[i]? = some o ∧ SlR S (MO M σd) H o s := by
  have hi : i < σ.length := by rw [← E.len]; exact (List.getElem?_eq_some_iff.mp h).1
  exact ⟨σ[i], List.getElem?_eq_getElem hi, E.sl i _ s (List.getElem?_eq_getElem hi) h⟩
theorem Ev.ownNe (E : Ev S M H0 H σ σd) {a : Addr} {ds : List D} (h : Sl.own a ds ∈ σd) : ∀ p c, S = some (p, c) → a ≠ p ∧ a ≠ c := fun p c q =>
  ⟨fun z => (E.src0 p c q).1 (z ▸ E.new a ds h), fun z => (E.src0 p c q).2 (z ▸ E.new a ds h)⟩
theorem Ev.ntO (E : Ev S M H0 H σ σd) : ∀ a, MO M σd a → isM (H a) := fun a h => by
  rcases h with h | ⟨ds, h⟩
  · exact E.src.nt a h
  · obtain ⟨i, hi⟩ := List.getElem?_of_mem h
    obtain ⟨o, _, _, xs, e, _⟩ := E.slot hi
    rw [e]; exact True.intro
theorem Ev.srcO (E : Ev S M H0 H σ σd) : SrcOk S (MO M σd) H := E.src.more (fun _ z => .inl z) E.ntO
theorem Ev.mtO (E : Ev S M H0 H σ σd) : ∀ a, MO M σd a → H a ≠ none := fun a h => by
  rcases h with h | ⟨ds, h⟩
  · exact E.mt a h
  · obtain ⟨i, hi⟩ := List.getElem?_of_mem h
    obtain ⟨o, _, _, xs, e, _⟩ := E.slot hi
    rw [e]; exact fun z => nomatch z
theorem Ev.ext (E : Ev S M H0 H σ σd) (k : KeepS S H H') (s : SrcOk S M H') : Ev S M H0 H' σ σd where
  len := E.len
  sl := fun i o sl h1 h2 => by
    have q := E.sl i o sl h1 h2
    cases sl with
    | emp => trivial
    | val d => obtain ⟨v, e, q⟩ := q; exact ⟨v, e, E.dq k q⟩
    | fn d => exact FnR.goT q (E.kp k)
    | raw v => exact q
    | own a ds =>
      obtain ⟨e, xs, h, q⟩ := q
      exact ⟨e, xs, k.k a _ h (E.ownNe (List.mem_of_getElem? h2)), E.dqs k q⟩
  uni := E.uni
  new := E.new
  src := s
  src0 := E.src0
  keep := E.keep.trans k
  mt := fun a h => by
    by_cases z : ∃ p c, S = some (p, c) ∧ (a = p ∨ a = c)
    · obtain ⟨p, c, q, z⟩ := z
      obtain ⟨_, _, _, ns, l, m, t, h1, h2⟩ := s.go p c q
      rcases z with z | z
      · rw [z, h2]; exact fun z => nomatch z
      · rw [z, h1]; exact fun z => nomatch z
    · exact k.nn (E.mt a h) fun p c q => ⟨fun y => z ⟨p, c, q, .inl y⟩, fun y => z ⟨p, c, q, .inr y⟩⟩
  mt0 := E.mt0
theorem Ev.same (E : Ev S M H0 H σ σd) (k : Same H H') : Ev S M H0 H' σ σd := E.ext (.of k) (E.src.same k)
theorem Ev.put (E : Ev S M H0 H σ σd) {i : Nat} {v : V} {d : D} (q : Dq S (MO M σd) H v d) : Ev S M H0 H (σ.set i (some v)) (σd.set i (.val d)) := by
  have sub : ∀ a, MO M (σd.set i (.val d)) a → MO M σd a := fun a h => by
    rcases h with h | ⟨ds, h⟩
    · exact .inl h
    · rcases List.mem_or_eq_of_mem_set h with h | h
      · exact .inr ⟨ds, h⟩
      · cases h
  have g : ∀ a o, ¬ MO M σd a → H a = some o → ¬ MO M (σd.set i (.val d)) a ∧ H a = some o := fun a o n e => ⟨fun z => n (sub a z), e⟩
  have ow : ∀ {j : Nat} {a : Addr} {ds : List D}, (σd.set i (.val d))[j]? = some (Sl.own a ds) → σd[j]? = some (Sl.own a ds) := fun {j a ds} h => by
    rw [List.getElem?_set] at h
    split at h
    · first
        | cases h
        | (split at h <;> cases h)
    · exact h
  refine ⟨by rw [List.length_set, List.length_set]; exact E.len, fun j o s h1 h2 => ?_, fun j k a ds es h1 h2 => E.uni j k a ds es (ow h1) (ow h2), fun a ds h => ?_, E.src, E.src0, E.keep, E.mt, E.mt0⟩
  · rw [List.getElem?_set] at h1 h2
    by_cases hj : i = j
    · rw [if_pos hj] at h1 h2
      split at h1
      · split at h2
        · cases h1; cases h2
          exact ⟨v, rfl, q.go g⟩
        · cases h2
      · cases h1
    · rw [if_neg hj] at h1 h2
      have z := E.sl j o s h1 h2
      cases s with
      | emp => trivial
      | val d => obtain ⟨w, e, q⟩ := z; exact ⟨w, e, q.go g⟩
      | fn d => exact FnR.go z g
      | raw v => exact z
      | own a ds => obtain ⟨e, xs, h, q⟩ := z; exact ⟨e, xs, h, q.go g⟩
  · rcases List.mem_or_eq_of_mem_set h with h | h
    · exact E.new a ds h
    · cases h
theorem Ev.frz (E : Ev S M H0 H σ σd) {i : Nat} {a : Addr} {ds : List D} (h : σd[i]? = some (.own a ds)) : Ev S M H0 H σ (σd.set i (.val (.list ds))) := by
  have hi : i < σd.length := (List.getElem?_eq_some_iff.mp h).1
  have sub : ∀ b, MO M (σd.set i (.val (.list ds))) b → MO M σd b := fun b h => by
    rcases h with h | ⟨ds, h⟩
    · exact .inl h
    · rcases List.mem_or_eq_of_mem_set h with h | h
      · exact .inr ⟨ds, h⟩
      · cases h
  have g : ∀ b o, ¬ MO M σd b → H b = some o → ¬ MO M (σd.set i (.val (.list ds))) b ∧ H b = some o := fun a o n e => ⟨fun z => n (sub a z), e⟩
  have ow : ∀ {j : Nat} {a : Addr} {es : List D}, (σd.set i (.val (.list ds)))[j]? = some (Sl.own a es) → σd[j]? = some (Sl.own a es) ∧ i ≠ j := fun {j a es} h => by
    rw [List.getElem?_set] at h
    split at h
    · first
        | cases h
        | (split at h <;> cases h)
    · rename_i q; exact ⟨h, q⟩
  have na : ¬ MO M (σd.set i (.val (.list ds))) a := fun z => by
    rcases z with z | ⟨es, z⟩
    · exact E.mt0 a z (E.new a ds (List.mem_of_getElem? h))
    · obtain ⟨j, hj⟩ := List.getElem?_of_mem z
      obtain ⟨h1, h2⟩ := ow hj
      exact h2 (E.uni i j a ds es h h1)
  refine ⟨by rw [List.length_set]; exact E.len, fun j o s h1 h2 => ?_, fun j k a ds es h1 h2 => E.uni j k a ds es (ow h1).1 (ow h2).1, fun b es q => ?_, E.src, E.src0, E.keep, E.mt, E.mt0⟩
  · rw [List.getElem?_set] at h2
    by_cases hj : i = j
    · rw [if_pos hj, if_pos (hj ▸ hi)] at h2
      cases h2
      subst hj
      obtain ⟨e, xs, h3, q⟩ := E.sl i o _ h1 h
      exact ⟨.ref a, e, .lst na h3 (q.go g)⟩
    · rw [if_neg hj] at h2
      have z := E.sl j o s h1 h2
      cases s with
      | emp => trivial
      | val d => obtain ⟨w, e, q⟩ := z; exact ⟨w, e, q.go g⟩
      | fn d => exact FnR.go z g
      | raw v => exact z
      | own a ds => obtain ⟨e, xs, h, q⟩ := z; exact ⟨e, xs, h, q.go g⟩
  · rcases List.mem_or_eq_of_mem_set q with h | h
    · exact E.new b es h
    · cases h
end
end PH

namespace PH
open PySem PySem.Spec L2
abbrev DE := DSt → (D → Prop) → Prop
abbrev DT := DSt → (Bool → Prop) → Prop
abbrev DA := DSt → (List D → Prop) → Prop
structure DEnds where
  nx : DSt → Prop
  rt : D → Prop
  bk : DSt → Prop := fun _ => False
  ct : DSt → Prop := fun _ => False
  rx : Value → DSt → Prop := fun _ _ => False
abbrev DS := DEnds → DSt → Prop
def LE (t : TE) (m : DE) : Prop := ∀ (S : Sr) (M : Addr → Prop) (H0 H : Hp) (σ : L2.St) (σd : DSt) (Qd : D → Prop) (Q : VK), Ev S M H0 H σ σd → m σd Qd →
  (∀ d v H', Qd d → Ev S M H0 H' σ σd → KeepS S H H' → Dq S (MO M σd) H' v d → Q v H') → t σ H Q
def LT (t : TT) (m : DT) : Prop := ∀ (S : Sr) (M : Addr → Prop) (H0 H : Hp) (σ : L2.St) (σd : DSt) (Qd : Bool → Prop) (Q : Bool → Hp → Prop), Ev S M H0 H σ σd → m σd Qd →
  (∀ b H', Qd b → Ev S M H0 H' σ σd → KeepS S H H' → Q b H') → t σ H Q
def LA (n : Nat) (t : TA) (m : DA) : Prop := ∀ (S : Sr) (M : Addr → Prop) (H0 H : Hp) (σ : L2.St) (σd : DSt) (Qd : List D → Prop) (Q : List V → Hp → Prop), Ev S M H0 H σ σd → m σd Qd →
  (∀ ds vs H', Qd ds → Ev S M H0 H' σ σd → KeepS S H H' → Dqs S (MO M σd) H' vs ds → vs.length = n → Q vs H') → t σ H Q
def LN (t : TE) (m : DA) : Prop := ∀ (S : Sr) (M : Addr → Prop) (H0 H : Hp) (σ : L2.St) (σd : DSt) (Qd : List D → Prop) (Q : VK), Ev S M H0 H σ σd → m σd Qd →
  (∀ (ds : List D) (p : Addr) (xs : List V) (H' : Hp), Qd ds → Ev S M H0 H' σ σd → KeepS S H H' → H p = none → H' p = some (.lst xs) → Dqs S (fun a => MO M σd a ∨ a = p) H' xs ds → Q (.ref p) H') → t σ H Q
def PD (X : Cx) (e : Expr) (m : DE) : Prop := ∃ t, PE X e t ∧ LE t m
def PDT (X : Cx) (e : Expr) (m : DT) : Prop := ∃ t, PT X e t ∧ LT t m
def PDW (X : Cx) (e : Expr) (m : DT) : Prop := ∃ t, PW X e t ∧ LT t m
def PDA (X : Cx) (es : List Expr) (n : Nat) (m : DA) : Prop := ∃ t, PA X es t ∧ LA n t m
def PDN (X : Cx) (e : Expr) (m : DA) : Prop := ∃ t, PE X e t ∧ LN t m
def dVar (i : Nat) : DE := fun σd Q => match σd[i]? with
  | some (.val d) => Q d
  | _ => False
theorem le_var (i : Nat) : LE (tVar i) (dVar i) := by
  intro S M H0 H σ σd Qd Q E h k
  unfold dVar at h
  split at h
  · rename_i d e
    obtain ⟨o, e2, v, rfl, q⟩ := E.slot e
    exact ⟨v, e2, k d v H h E .refl q⟩
  · exact h.elim
def dC (d : D) : DE := fun _ Q => Q d
theorem le_c {v : V} {d : D} (h : ∀ S M H, Dq S M H v d) : LE (tC v) (dC d) := fun S M H0 H σ σd Qd Q E q k => k d v H q E .refl (h _ _ _)
section
variable {X : Cx} {e a b c : Expr} {es : List Expr} {pos : Pos}
theorem pd_var (i : Nat) {x : Str} {pos : Pos} (hN : X.N[i]? = some x := by rfl) (hv : Vis X.env.scope x := by first | exact Or.inl rfl | exact Or.inr (Or.inl rfl) | exact Or.inr (Or.inr rfl)) (hd : (x == ("__debug__" : Str)) = false := by decide)
    (hcd : (x == ("__classdict__" : Str)) = false := by decide) : PD X (.Name x pos) (dVar i) := ⟨_, pe_var hN hv hd hcd, le_var i⟩
theorem pd_int {i j pos} : PD X (.Constant (.int i) j pos) (dC (.int i)) := ⟨_, pe_int, le_c fun _ _ _ => .int i⟩
theorem pd_bl {b j pos} : PD X (.Constant (.bool b) j pos) (dC (.bool b)) := ⟨_, pe_bl, le_c fun _ _ _ => .bl b⟩
end
abbrev DR2 := D → D → (D → Prop) → Prop
def LR (r : R2) (dr : DR2) : Prop := ∀ (S : Sr) (M : Addr → Prop) (H : Hp) (x y : V) (dx dy : D) (Qd : D → Prop) (Q : VK), (∀ a, M a → H a ≠ none) → Dq S M H x dx → Dq S M H y dy → dr dx dy Qd →
  (∀ d v H', Qd d → Same H H' → Dq S M H' v d → Q v H') → r x y H Q
def dOp (dr : DR2) (ma mb : DE) : DE := fun σd Q => ma σd fun x => mb σd fun y => dr x y Q
theorem le_op {r : R2} {dr : DR2} {ta tb : TE} {ma mb : DE} (l : LR r dr) (ha : LE ta ma) (hb : LE tb mb) : LE (tOp r ta tb) (dOp dr ma mb) := by
  intro S M H0 H σ σd Qd Q E h k
  refine ha S M H0 H σ σd _ _ E h fun x v H1 q E1 k1 r1 => ?_
  refine hb S M H0 H1 σ σd _ _ E1 q fun y u H2 q E2 k2 r2 => ?_
  exact l S (MO M σd) H2 v u x y _ _ E2.mtO (E1.dq k2 r1) r2 q fun d w H3 q s r3 => k d w H3 q (E2.same s) (k1.trans (k2.trans (.of s))) r3
def dI (C : Int → Int → Prop) (f : Int → Int → Int) : DR2 := fun x y Q => match x, y with
  | .int i, .int j => C i j ∧ Q (.int (f i j))
  | _, _ => False
def dI0 (f : Int → Int → Int) : DR2 := fun x y Q => match x, y with
  | .int i, .int j => Q (.int (f i j))
  | _, _ => False
def dB0 (f : Int → Int → Bool) : DR2 := fun x y Q => match x, y with
  | .int i, .int j => Q (.bool (f i j))
  | _, _ => False
theorem lr_I {C : Int → Int → Prop} {f : Int → Int → Int} : LR (rI C fun i j => .int (f i j)) (dI C f) := by
  intro S M H x y dx dy Qd Q hm rx ry h k
  cases rx <;> first | exact h.elim | skip
  cases ry <;> first | exact h.elim | skip
  exact ⟨_, _, rfl, rfl, h.1, k _ _ H h.2 (Same.refl _) (.int _)⟩
theorem lr_I0 {f : Int → Int → Int} : LR (rI0 fun i j => .int (f i j)) (dI0 f) := by
  intro S M H x y dx dy Qd Q hm rx ry h k
  cases rx <;> first | exact h.elim | skip
  cases ry <;> first | exact h.elim | skip
  exact ⟨_, _, rfl, rfl, k _ _ H h (Same.refl _) (.int _)⟩
theorem lr_B0 {f : Int → Int → Bool} : LR (rI0 fun i j => .bl (f i j)) (dB0 f) := by
  intro S M H x y dx dy Qd Q hm rx ry h k
  cases rx <;> first | exact h.elim | skip
  cases ry <;> first | exact h.elim | skip
  exact ⟨_, _, rfl, rfl, k _ _ H h (Same.refl _) (.bl _)⟩
theorem mo_sub {M : Addr → Prop} {σd : DSt} {p : Addr} {H : Hp} (hp : H p = none) : ∀ a o, ¬ MO M σd a → H a = some o → ¬ (MO M σd a ∨ a = p) ∧ H a = some o := fun a o n e =>
  ⟨fun z => z.elim n fun y => ne_of_none e hp y, e⟩
theorem LN.le {t : TE} {m : DA} (h : LN t m) : LE t (fun σd Q => m σd fun ds => Q (.list ds)) := by
  intro S M H0 H σ σd Qd Q E hm k
  refine h S M H0 H σ σd _ Q E hm fun ds p xs H' q E' k1 hp e r => ?_
  have np : ¬ MO M σd p := fun z => E.mtO p z hp
  exact k _ _ H' q E' k1 (.lst np e (r.go fun a o n e => ⟨fun z => n (.inl z), e⟩))
theorem la_nil : LA 0 tNil (fun _ Q => Q []) := fun S M H0 H σ σd Qd Q E h k => k [] [] H h E .refl .nil rfl
theorem la_cons {n : Nat} {ta : TE} {tr : TA} {ma : DE} {mr : DA} (ha : LE ta ma) (hr : LA n tr mr) : LA (n + 1) (tCons ta tr) (fun σd Q => ma σd fun d => mr σd fun ds => Q (d :: ds)) := by
  intro S M H0 H σ σd Qd Q E h k
  refine ha S M H0 H σ σd _ _ E h fun d v H1 q E1 k1 r1 => ?_
  refine hr S M H0 H1 σ σd _ _ E1 q fun ds vs H2 q E2 k2 r2 hl => ?_
  exact k _ _ H2 q E2 (k1.trans k2) (.cons (E1.dq k2 r1) r2) (by simp [hl])
theorem le_tup {n : Nat} {t : TA} {m : DA} (h : LA n t m) (hn : n ≤ 100000 := by decide) : LE (tTup t) (fun σd Q => m σd fun ds => Q (.tuple ds)) := by
  intro S M H0 H σ σd Qd Q E hm k
  refine h S M H0 H σ σd _ _ E hm fun ds vs H1 q E1 k1 r1 hl => ⟨by rw [hl, sizeLine_eq]; omega, fun p hp => ?_⟩
  have s : Same H1 (upd H1 p (.tup vs)) := Same.upd hp
  have E2 := E1.same s
  exact k _ _ _ q E2 (k1.trans (.of s)) (.tup (fun z => E1.mtO p z hp) upd_same (E1.dqs (.of s) r1))
theorem ln_lst {n : Nat} {t : TA} {m : DA} (h : LA n t m) (hn : n ≤ 100000 := by decide) : LN (tLst t) m := by
  intro S M H0 H σ σd Qd Q E hm k
  refine h S M H0 H σ σd _ _ E hm fun ds vs H1 q E1 k1 r1 hl => ⟨by rw [hl, sizeLine_eq]; omega, fun p hp => ?_⟩
  have s : Same H1 (upd H1 p (.lst vs)) := Same.upd hp
  have E2 := E1.same s
  refine k ds p vs _ q E2 (k1.trans (.of s)) ?_ upd_same (r1.go fun a o n e => ⟨(mo_sub hp a o n e).1, s a o e⟩)
  cases z : H p with
  | none => rfl
  | some o =>
    by_cases w : ∃ p' c', S = some (p', c') ∧ (p = p' ∨ p = c')
    · obtain ⟨p', c', q1, q2⟩ := w
      obtain ⟨_, _, _, ns, l, mm, tt, h1, h2⟩ := E1.src.go p' c' q1
      rcases q2 with q2 | q2
      · rw [← q2, hp] at h2; cases h2
      · rw [← q2, hp] at h1; cases h1
    · exact absurd hp (k1.nn (by rw [z]; exact fun y => nomatch y) fun p' c' q1 => ⟨fun y => w ⟨p', c', q1, .inl y⟩, fun y => w ⟨p', c', q1, .inr y⟩⟩)
theorem lt_of {t : TE} {m : DE} (h : LE t m) : LT (tTest t) (fun σd Q => m σd fun d => match d with | .bool b => Q b | _ => False) := by
  intro S M H0 H σ σd Qd Q E hm k
  refine h S M H0 H σ σd _ _ E hm fun d v H1 q E1 k1 r1 => ?_
  cases r1 <;> first | exact q.elim | skip
  exact ⟨_, rfl, k _ H1 q E1 k1⟩
theorem lt_ofB {t : TE} {m : DE} (h : LE t m) : LT (tB t) (fun σd Q => m σd fun d => match d with | .bool b => Q b | _ => False) := lt_of h
theorem lt_and {t u : TT} {m n : DT} (ha : LT t m) (hb : LT u n) : LT (tAnd t u) (fun σd Q => m σd fun b => if b = true then n σd Q else Q false) := by
  intro S M H0 H σ σd Qd Q E h k
  refine ha S M H0 H σ σd _ _ E h fun b H1 q E1 k1 => ?_
  cases b with
  | true => exact hb S M H0 H1 σ σd _ _ E1 (by simpa using q) fun b H2 q E2 k2 => k b H2 q E2 (k1.trans k2)
  | false => exact k false H1 (by simpa using q) E1 k1
theorem lt_or {t u : TT} {m n : DT} (ha : LT t m) (hb : LT u n) : LT (tOr t u) (fun σd Q => m σd fun b => if b = true then Q true else n σd Q) := by
  intro S M H0 H σ σd Qd Q E h k
  refine ha S M H0 H σ σd _ _ E h fun b H1 q E1 k1 => ?_
  cases b with
  | false => exact hb S M H0 H1 σ σd _ _ E1 (by simpa using q) fun b H2 q E2 k2 => k b H2 q E2 (k1.trans k2)
  | true => exact k true H1 (by simpa using q) E1 k1
theorem lt_not {t : TT} {m : DT} (ha : LT t m) : LT (tNot t) (fun σd Q => m σd fun b => Q (!b)) := by
  intro S M H0 H σ σd Qd Q E h k
  exact ha S M H0 H σ σd _ _ E h fun b H1 q E1 k1 => k _ H1 q E1 k1
theorem le_andV {t u : TE} {m n : DE} (ha : LE t m) (hb : LE u n) : LE (tAndV t u) (fun σd Q => m σd fun d => match d with | .bool b => (if b = true then n σd Q else Q (.bool false)) | _ => False) := by
  intro S M H0 H σ σd Qd Q E h k
  refine ha S M H0 H σ σd _ _ E h fun d v H1 q E1 k1 r1 => ?_
  cases r1 <;> first | exact q.elim | skip
  rename_i b
  refine ⟨b, rfl, ?_⟩
  cases b with
  | true => exact hb S M H0 H1 σ σd _ _ E1 (by simpa using q) fun d v H2 q E2 k2 r2 => k d v H2 q E2 (k1.trans k2) r2
  | false => exact k _ _ H1 (by simpa using q) E1 k1 (.bl false)
theorem le_orV {t u : TE} {m n : DE} (ha : LE t m) (hb : LE u n) : LE (tOrV t u) (fun σd Q => m σd fun d => match d with | .bool b => (if b = true then Q (.bool true) else n σd Q) | _ => False) := by
  intro S M H0 H σ σd Qd Q E h k
  refine ha S M H0 H σ σd _ _ E h fun d v H1 q E1 k1 r1 => ?_
  cases r1 <;> first | exact q.elim | skip
  rename_i b
  refine ⟨b, rfl, ?_⟩
  cases b with
  | false => exact hb S M H0 H1 σ σd _ _ E1 (by simpa using q) fun d v H2 q E2 k2 r2 => k d v H2 q E2 (k1.trans k2) r2
  | true => exact k _ _ H1 (by simpa using q) E1 k1 (.bl true)
theorem le_notV {t : TE} {m : DE} (ha : LE t m) : LE (tNotV t) (fun σd Q => m σd fun d => match d with | .bool b => Q (.bool (!b)) | _ => False) := by
  intro S M H0 H σ σd Qd Q E h k
  refine ha S M H0 H σ σd _ _ E h fun d v H1 q E1 k1 r1 => ?_
  cases r1 <;> first | exact q.elim | skip
  exact ⟨_, rfl, k _ _ H1 q E1 k1 (.bl _)⟩
theorem le_if {t : TT} {ta tb : TE} {m : DT} {ma mb : DE} (hc : LT t m) (ha : LE ta ma) (hb : LE tb mb) : LE (tIf t ta tb) (fun σd Q => m σd fun b => if b = true then ma σd Q else mb σd Q) := by
  intro S M H0 H σ σd Qd Q E h k
  refine hc S M H0 H σ σd _ _ E h fun b H1 q E1 k1 => ?_
  cases b with
  | true => exact ha S M H0 H1 σ σd _ _ E1 (by simpa using q) fun d v H2 q E2 k2 r2 => k d v H2 q E2 (k1.trans k2) r2
  | false => exact hb S M H0 H1 σ σd _ _ E1 (by simpa using q) fun d v H2 q E2 k2 r2 => k d v H2 q E2 (k1.trans k2) r2
theorem le_un {r : V → Hp → VK → Prop} {dr : D → (D → Prop) → Prop} {ta : TE} {ma : DE} (l : ∀ (S : Sr) (M : Addr → Prop) (H : Hp) (x : V) (dx : D) (Qd : D → Prop) (Q : VK), Dq S M H x dx → dr dx Qd → (∀ d v, Qd d → Dq S M H v d → Q v H) → r x H Q) (ha : LE ta ma) :
    LE (tUn r ta) (fun σd Q => ma σd fun x => dr x Q) := by
  intro S M H0 H σ σd Qd Q E h k
  refine ha S M H0 H σ σd _ _ E h fun x v H1 q E1 k1 r1 => ?_
  exact l S (MO M σd) H1 v x _ _ r1 q fun d w q r => k d w H1 q E1 k1 r
abbrev DRC := List D → (D → Prop) → Prop
def LC (r : List V → Hp → VK → Prop) (dr : DRC) : Prop := ∀ (S : Sr) (M : Addr → Prop) (H : Hp) (xs : List V) (ds : List D) (Qd : D → Prop) (Q : VK), (∀ a, M a → H a ≠ none) → Dqs S M H xs ds → dr ds Qd →
  (∀ d v H', Qd d → Same H H' → Dq S M H' v d → Q v H') → r xs H Q
theorem le_cb {n : Nat} {r : List V → Hp → VK → Prop} {dr : DRC} {t : TA} {m : DA} (l : LC r dr) (h : LA n t m) : LE (tCB r t) (fun σd Q => m σd fun ds => dr ds Q) := by
  intro S M H0 H σ σd Qd Q E hm k
  refine h S M H0 H σ σd _ _ E hm fun ds vs H1 q E1 k1 r1 hl => ?_
  exact l S (MO M σd) H1 vs ds _ _ E1.mtO r1 q fun d v H2 q s r => k d v H2 q (E1.same s) (k1.trans (.of s)) r
variable {Wx : WX}
def W0 : WX := fun _ _ _ _ => False
def ER (Wx : WX) (S : Sr) (M : Addr → Prop) (H0 : Hp) (Dd : DEnds) (Dn : Ends) : Prop :=
  (∀ σd σ H, Dd.nx σd → Ev S M H0 H σ σd → Dn.nx σ H) ∧ (∀ d v H, Dd.rt d → KeepS S H0 H → SrcOk S M H → (∀ a, M a → H a ≠ none) → Dq S M H v d → Dn.rt v H) ∧
  (∀ σd σ H, Dd.bk σd → Ev S M H0 H σ σd → Dn.bk σ H) ∧ (∀ σd σ H, Dd.ct σd → Ev S M H0 H σ σd → Dn.ct σ H) ∧ (∀ cls σd σ H, Dd.rx cls σd → Ev S M H0 H σ σd → Wx cls none σ H)
def LS (Wx : WX) (t : TS) (m : DS) : Prop := ∀ (S : Sr) (M : Addr → Prop) (H0 H : Hp) (σ : L2.St) (σd : DSt) (Dd : DEnds) (Dn : Ends), Ev S M H0 H σ σd → m Dd σd → ER Wx S M H0 Dd Dn → t Dn σ H
def PDS (Wx : WX) (X : Cx) (st : Stmt) (m : DS) : Prop := ∃ t, PS X st t ∧ LS Wx t m
def PDSs (Wx : WX) (X : Cx) (st : List Stmt) (m : DS) : Prop := ∃ t, PSs X st t ∧ LS Wx t m
def dSeq (m n : DS) : DS := fun Dd σd => m { Dd with nx := n Dd } σd
theorem ls_seq {t u : TS} {m n : DS} (h1 : LS Wx t m) (h2 : LS Wx u n) : LS Wx (tSeq t u) (dSeq m n) := fun S M H0 H σ σd Dd Dn E h r =>
  h1 S M H0 H σ σd _ _ E h ⟨fun σd' σ' H' q E' => h2 S M H0 H' σ' σd' _ _ E' q r, r.2.1, r.2.2.1, r.2.2.2⟩
def dNext : DS := fun Dd σd => Dd.nx σd
theorem ls_next : LS Wx tNext dNext := fun S M H0 H σ σd Dd Dn E h r => r.1 σd σ H h E
def dRet (m : DE) : DS := fun Dd σd => m σd Dd.rt
theorem ls_ret {t : TE} {m : DE} (h : LE t m) : LS Wx (tRet t) (dRet m) := fun S M H0 H σ σd Dd Dn E hm r =>
  h S M H0 H σ σd _ _ E hm fun d v H' q E' k r' => r.2.1 d v H' q E'.keep E'.src E'.mt (r'.go fun a o n e => ⟨fun z => n (.inl z), e⟩)
def dIf (c : DT) (m n : DS) : DS := fun Dd σd => c σd fun b => if b = true then m Dd σd else n Dd σd
theorem ls_if {c : TT} {t u : TS} {dc : DT} {m n : DS} (hc : LT c dc) (h1 : LS Wx t m) (h2 : LS Wx u n) : LS Wx (tIfS c t u) (dIf dc m n) := by
  intro S M H0 H σ σd Dd Dn E h r
  refine hc S M H0 H σ σd _ _ E h fun b H1 q E1 k1 => ?_
  cases b with
  | true => exact h1 S M H0 H1 σ σd _ _ E1 (by simpa using q) r
  | false => exact h2 S M H0 H1 σ σd _ _ E1 (by simpa using q) r
def dDrop (m : DE) : DS := fun Dd σd => m σd fun _ => Dd.nx σd
abbrev DG := D → DSt → (DSt → Prop) → Prop
abbrev DGs := List D → DSt → (DSt → Prop) → Prop
def LG (g : TG) (dg : DG) : Prop := ∀ (S : Sr) (M : Addr → Prop) (H0 H : Hp) (σ : L2.St) (σd : DSt) (v : V) (d : D) (Qd : DSt → Prop) (Q : L2.St → Hp → Prop), Ev S M H0 H σ σd → Dq S (MO M σd) H v d → dg d σd Qd →
  (∀ σd' σ', Qd σd' → Ev S M H0 H σ' σd' → Q σ' H) → g v σ H Q
def LGs (g : TGs) (dg : DGs) : Prop := ∀ (S : Sr) (M : Addr → Prop) (H0 H : Hp) (σ : L2.St) (σd : DSt) (vs : List V) (ds : List D) (Qd : DSt → Prop) (Q : L2.St → Hp → Prop), Ev S M H0 H σ σd → Dqs S (MO M σd) H vs ds → dg ds σd Qd →
  (∀ σd' σ', Qd σd' → Ev S M H0 H σ' σd' → Q σ' H) → g vs σ H Q
def dgName (i : Nat) : DG := fun d σd Q => Q (σd.set i (.val d))
theorem lg_name (i : Nat) : LG (gName i) (dgName i) := fun S M H0 H σ σd v d Qd Q E r h k => k _ _ h (E.put r)
def dgNil : DGs := fun ds σd Q => match ds with | [] => Q σd | _ => False
theorem lgs_nil : LGs gNil dgNil := by
  intro S M H0 H σ σd vs ds Qd Q E r h k
  cases r with
  | nil => exact ⟨rfl, k _ _ h E⟩
  | cons a b => exact h.elim
def dgCons (g : DG) (gs : DGs) : DGs := fun ds σd Q => match ds with | d :: r => g d σd fun σd' => gs r σd' Q | [] => False
theorem MOset {M : Addr → Prop} {σd : DSt} {i : Nat} {d : D} {a : Addr} (h : MO M (σd.set i (.val d)) a) : MO M σd a := by
  rcases h with h | ⟨ds, h⟩
  · exact .inl h
  · rcases List.mem_or_eq_of_mem_set h with h | h
    · exact .inr ⟨ds, h⟩
    · cases h
theorem lgs_cons {i : Nat} {gs : TGs} {dgs : DGs} (h2 : LGs gs dgs) : LGs (gCons (gName i) gs) (dgCons (dgName i) dgs) := by
  intro S M H0 H σ σd vs ds Qd Q E r h k
  cases r with
  | nil => exact h.elim
  | cons a b =>
    refine ⟨_, _, rfl, ?_⟩
    exact h2 S M H0 H _ _ _ _ _ _ (E.put a) (b.go fun a o n e => ⟨fun z => n (MOset z), e⟩) h k
def dgTup (gs : DGs) : DG := fun d σd Q => match d with | .tuple ds => gs ds σd Q | _ => False
theorem lg_tup {K : PySem.W.Frag} {n : Nat} {gs : TGs} {dgs : DGs} (hg : LGs gs dgs) (hn : ∀ ds σd Q, dgs ds σd Q → ds.length = n) : LG (gTup K n gs) (dgTup dgs) := by
  intro S M H0 H σ σd v d Qd Q E r h k
  cases r <;> first | exact h.elim | skip
  rename_i a xs ds na e r
  exact ⟨a, xs, rfl, .inl (.inl e), by rw [r.length]; exact hn _ _ _ h, hg S M H0 H σ σd xs ds Qd Q E r h k⟩
def dAsg (m : DE) (g : DG) : DS := fun Dd σd => m σd fun d => g d σd Dd.nx
theorem ls_asg {t : TE} {m : DE} {g : TG} {dg : DG} (h : LE t m) (hg : LG g dg) : LS Wx (tAsg t g) (dAsg m dg) := fun S M H0 H σ σd Dd Dn E hm r =>
  h S M H0 H σ σd _ _ E hm fun d v H' q E' k r' => hg S M H0 H' σ σd v d _ _ E' r' q fun σd' σ' q' E2 => r.1 σd' σ' H' q' E2
def dOwn (i : Nat) (m : DA) : DS := fun Dd σd => m σd fun ds => ∀ p, Dd.nx (σd.set i (Sl.own p ds))
end PH

namespace PH
open PySem PySem.Spec L2
open PyProof.Rows (envOfC)
structure FnG (P : Program) (w : World) (K : PySem.W.Frag) (mg : Str → Option Value) (base : Heap) (k : Nat) (f : Addr) (fd : FuncData) (ps : List Str) (sp : Sp) : Prop where
  len : ∀ vs H Q E, sp vs H Q E → vs.length = ps.length
  go : ∀ (A : Around) (outer : List Env) (s : Shared) (H : Hp) (args : Args) (us : List Value) (vs : List V) (Q : VK), Room k A → A.guards = some [] →
    Env0 P w K mg base A outer s H → BindsTo s fd args (ps.zip us) → Vals vs us → sp vs H Q E0 → codeAny (model P w) A (.call (.ref f) args) (CR CX0 outer P w H s Q E0) s
section
variable {P : Program} {w : World} {K : PySem.W.Frag} {mg : Str → Option Value} {base : Heap} {k : Nat} {f : Addr} {fd : FuncData} {ps : List Str} {sp : Sp}
theorem FnG.of (F : FnOk P w K mg base CX0 k f fd ps sp) : FnG P w K mg base k f fd ps sp := ⟨F.len, fun A outer s H args us vs Q hr _ e hb hv h => F.run A outer s H args us vs Q E0 hr e hb hv h⟩
theorem FnG.up {j : Nat} (F : FnG P w K mg base j f fd ps sp) (h : j ≤ k) : FnG P w K mg base k f fd ps sp := ⟨F.len, fun A outer s H args us vs Q hr => F.go A outer s H args us vs Q (hr.mono h)⟩
theorem FnG.imp {sp' : Sp} (F : FnG P w K mg base k f fd ps sp) (h : ∀ vs H Q E, sp' vs H Q E → sp vs H Q E) : FnG P w K mg base k f fd ps sp' :=
  ⟨fun vs H Q E q => F.len vs H Q E (h _ _ _ _ q), fun A outer s H args us vs Q hr hg e hb hv hs => F.go A outer s H args us vs Q hr hg e hb hv (h _ _ _ _ hs)⟩
theorem fnG_bodyC {x qual : Str} {st : Stmt} {N : List Str} (F : Fun K x qual st f fd) (S : FnScope N ps (defScope st)) (len : ∀ vs H Q E, sp vs H Q E → vs.length = ps.length)
    (hb : ∀ (cdv : Value) (A : Around) (outer : List Env) (s : Shared) (H : Hp) (vs : List V) (Q : VK), fd.code = cdv → Room k (A.deeper (envOfC qual (defScope st) s.heap.objs.size f cdv)) → A.guards = some [] → sp vs H Q E0 →
      ∃ t, PSs (cxOf CX0 P w K mg base N qual (defScope st) f cdv A outer s H E0).nox (defBody st) t ∧ t { nx := fun _ H' => Q .non H', rt := Q } (L2.start N vs) H) :
    FnG P w K mg base (k + 1) f fd ps sp := by
  obtain ⟨oc, od, kV, doc, pm, an, cdv, ct, osl, rfl, lk, hcd⟩ := F.ex
  refine ⟨len, ?_⟩
  intro A outer s H args us vs Q hr hg e0 hbind rv hsp
  have lv := len _ _ _ _ hsp
  have inK : K.In s.heap := e0.mod.kin.keeps (fun b o e => (e0.bs b o e).1)
  have noL : s.heap.NoLimit := e0.mod.nolimit.keeps (fun b o e => (e0.bs b o e).1)
  have kinds : ∀ y ∈ ps.zip us, (defScope st).names.lookup y.1 = some .local ∨
      ((defScope st).names.lookup y.1 = some .cell ∧ ((cellsFrom (s.heap.objs.size + 1) (defScope st).names []).lookup y.1).isSome = true) := by
    rintro ⟨n, v⟩ hy
    rcases S.par n (List.of_mem_zip hy).1 with q | q
    · exact .inl q
    · exact .inr ⟨q, PySem.W.cellsFrom_some _ _ _ (.inl q)⟩
  refine codeAny_call_function hr.depth (inK _ _ lk) rfl S.co S.gen rfl (PySem.W.codeRec_of inK hcd) (hbind _ _ _ _ ?_)
  refine wpAny_newFunctionEnv_cells S.kind kinds ?_
  intro env he s1 xc
  subst he
  refine ⟨noL.keeps xc.toInCall.keep, codeAny_func ?_⟩
  obtain ⟨t, ht, hq⟩ := hb cdv A outer s H vs Q rfl (hr.deeper _) hg hsp
  have J0 : Inv (cxOf CX0 P w K mg base N qual (defScope st) f cdv A outer s H E0) [] (L2.start N vs) H s1 := inv_start S hr.hd e0 lv rv xc
  refine wpAny_mono (ht.nox.run [] s1 (L2.start N vs) H _ J0 hq) (fun fl s' hs => ?_) (fun e s' hs => hs)
  cases fl with
  | ret u =>
    obtain ⟨v, σ', H', J, rr, q⟩ := hs
    exact ⟨v, H', J.os, J.bare, J.base, J.hok, rr, q⟩
  | next =>
    obtain ⟨σ', H', J, q⟩ := hs
    exact ⟨V.non, H', J.os, J.bare, J.base, J.hok, rfl, q⟩
  | brk => obtain ⟨_, _, _, q⟩ := hs; exact False.elim q
  | cont => obtain ⟨_, _, _, q⟩ := hs; exact False.elim q
theorem fnG_body {x qual : Str} {st : Stmt} {N : List Str} (F : Fun K x qual st f fd) (S : FnScope N ps (defScope st)) (len : ∀ vs H Q E, sp vs H Q E → vs.length = ps.length)
    (hb : ∀ (cdv : Value) (A : Around) (outer : List Env) (s : Shared) (H : Hp) (vs : List V) (Q : VK), Room k (A.deeper (envOfC qual (defScope st) s.heap.objs.size f cdv)) → A.guards = some [] → sp vs H Q E0 →
      ∃ t, PSs (cxOf CX0 P w K mg base N qual (defScope st) f cdv A outer s H E0).nox (defBody st) t ∧ t { nx := fun _ H' => Q .non H', rt := Q } (L2.start N vs) H) :
    FnG P w K mg base (k + 1) f fd ps sp := fnG_bodyC F S len fun cdv A outer s H vs Q _ => hb cdv A outer s H vs Q
end
section
variable {X : Cx} {k : Nat} {f : Addr} {fd : FuncData} {ps : List Str} {sp : Sp} {x : Str} {p pos : Pos} {e : Expr} {es : List Expr} {t : TA}
def tCallG (sp : Sp) (t : TA) : TE := fun σ H Q => t σ H fun vs H1 => sp vs H1 Q E0
theorem runG {pins : List (Addr × Obj)} {σ : L2.St} {H : Hp} {s : Shared} {Q : VK} {us : List Value} {vs : List V} (F : FnG X.prog X.w X.K X.mg X.base k f fd ps sp) (hr : Room k X.A) (hg : X.A.guards = some [])
    (hb : Binds X.K fd ps []) (I : Inv X pins σ H s) (r : Vals vs us) (h : sp vs H Q E0) : wpAny (model X.prog X.w) X.A (call (.ref f) us) (EP X pins σ Q) X.xe s := by
  have hl : (us ++ []).length = ps.length := by rw [List.append_nil, ← r.length]; exact F.len _ _ _ _ h
  have hb' : BindsTo s fd ⟨us, []⟩ (ps.zip us) := by
    have q := hb s us I.kIn hl
    rw [List.append_nil] at q
    exact q
  refine wpAny_call (codeAny_mono (F.go X.A X.stack s H ⟨us, []⟩ us vs Q hr hg I.env0 hb' r h) ?_)
  intro res s' hq
  cases res with
  | error e => exact False.elim hq
  | ok fl =>
    cases fl with
    | ret u => exact I.after hq
    | next => exact False.elim hq
    | brk => exact False.elim hq
    | cont => exact False.elim hq
theorem pe_callG (F : FnG X.prog X.w X.K X.mg X.base k f fd ps sp) (hr : Room k X.A) (hgu : X.A.guards = some []) (hg : Gl X x) (hm : X.mg x = some (.ref f)) (hk : PySem.W.keepIn X.K (.ref f) = true) (hb : Binds X.K fd ps [])
    (ha : PA X (e :: es) t) (hdb : (x == ("__debug__" : Str)) = false := by decide) (he : starEach (e :: es) X.env = (false, eval e X.env) :: starEach es X.env := by rfl) (hpl : (backTo pos (starEach es X.env)).any (·.1) = false := by rfl) :
    PE X (.Call (.Name x p) (e :: es) [] pos) (tCallG sp t) := by
  constructor
  intro pins s σ H Q I h
  refine wpAny_Call_Name_kw (ld_glob I hg hm ?_ hdb)
  refine PySem.W.callWith_K (h₀ := X.base) I.ok.mod.kin hk (thn (ha.run pos pins s σ H _ I h) ?_) he hpl
  rintro us s1 ⟨vs, H1, I1, r, q⟩
  exact ⟨I1.kIn, runG F hr hgu hb I1 r q⟩
end
abbrev DSp := List D → (D → Prop) → Prop
def SpD (n : Nat) (spd : DSp) : Sp := fun vs H Q _ => ∃ (S : Sr) (M : Addr → Prop) (ds : List D) (Qd : D → Prop), (∀ a, M a → H a ≠ none) ∧ SrcOk S M H ∧ Dqs S M H vs ds ∧ vs.length = n ∧ spd ds Qd ∧
  ∀ d v H', Qd d → KeepS S H H' → SrcOk S M H' → Dq S M H' v d → Q v H'
theorem le_callG {n : Nat} {spd : DSp} {t : TA} {m : DA} (h : LA n t m) : LE (tCallG (SpD n spd) t) (fun σd Q => m σd fun ds => spd ds Q) := by
  intro S M H0 H σ σd Qd Q E hm k
  refine h S M H0 H σ σd _ _ E hm fun ds vs H1 q E1 k1 r1 hl => ?_
  have so : SrcOk S (MO M σd) H1 := E1.srcO
  refine ⟨S, MO M σd, ds, Qd, E1.mtO, so, r1, hl, q, fun d v H2 q k2 s2 r2 => ?_⟩
  have s3 : SrcOk S M H2 := E1.src.at s2
  exact k d v H2 q (E1.ext k2 s3) (k1.trans k2) r2
def dstart (n : Nat) (ds : List D) : DSt := ds.map Sl.val ++ List.replicate (n - ds.length) Sl.emp
theorem ev_start {S : Sr} {M : Addr → Prop} {H : Hp} {N : List Str} {vs : List V} {ds : List D} (hm : ∀ a, M a → H a ≠ none) (so : SrcOk S M H) (r : Dqs S M H vs ds) : Ev S M H H (L2.start N vs) (dstart N.length ds) := by
  have hl := r.length
  have no : ∀ a es, Sl.own a es ∉ dstart N.length ds := fun a es h => by
    unfold dstart at h
    rcases List.mem_append.mp h with h | h
    · obtain ⟨d, _, e⟩ := List.mem_map.mp h
      cases e
    · have := (List.mem_replicate.mp h).2
      cases this
  have mo : ∀ a, MO M (dstart N.length ds) a → M a := fun a h => h.elim id fun ⟨es, z⟩ => absurd z (no a es)
  refine ⟨?_, fun i o s h1 h2 => ?_, fun i j a ds' es h1 _ => absurd (List.mem_of_getElem? h1) (no _ _), fun a es h => absurd h (no _ _), so, fun p c e => ?_, .refl, hm, hm⟩
  · unfold dstart L2.start
    simp [hl]
  · unfold dstart at h2
    unfold L2.start at h1
    by_cases hi : i < ds.length
    · rw [List.getElem?_append_left (by simpa using hi), List.getElem?_map] at h2
      rw [List.getElem?_append_left (by simpa [hl] using hi), List.getElem?_map] at h1
      cases e : ds[i]? with
      | none => rw [e] at h2; cases h2
      | some d =>
        rw [e] at h2
        cases h2
        obtain ⟨v, hv, q⟩ := r.get e
        rw [hv] at h1
        cases h1
        exact ⟨v, rfl, q.go fun a o n e => ⟨fun z => n (mo a z), e⟩⟩
    · rw [List.getElem?_append_right (by simpa using hi), List.getElem?_replicate] at h2
      split at h2
      · cases h2; trivial
      · cases h2
  · obtain ⟨_, _, _, ns, l, m, t, h1, h2⟩ := so.go p c e
    rw [h1, h2]
    exact ⟨fun z => (nomatch z), fun z => (nomatch z)⟩
theorem fnDC {P : Program} {w : World} {K : PySem.W.Frag} {mg : Str → Option Value} {base : Heap} {k : Nat} {f : Addr} {fd : FuncData} {ps : List Str} {x qual : Str} {st : Stmt} {N : List Str} {spd : DSp} {m : DS} (F : Fun K x qual st f fd) (S : FnScope N ps (defScope st))
    (hb : ∀ (cdv : Value) (A : Around) (outer : List Env) (s : Shared) (H : Hp), fd.code = cdv → Room k (A.deeper (envOfC qual (defScope st) s.heap.objs.size f cdv)) → A.guards = some [] →
      PDSs W0 (cxOf CX0 P w K mg base N qual (defScope st) f cdv A outer s H E0).nox (defBody st) m)
    (hm : ∀ ds Qd, ds.length = ps.length → spd ds Qd → m { nx := fun _ => Qd .none, rt := Qd } (dstart N.length ds)) : FnG P w K mg base (k + 1) f fd ps (SpD ps.length spd) := by
  refine fnG_bodyC F S (fun vs H Q E h => ?_) fun cdv A outer s H vs Q hc hr hg h => ?_
  · obtain ⟨_, _, _, _, _, _, _, l, _⟩ := h
    exact l
  · obtain ⟨S', M, ds, Qd, h1, h2, h3, h4, h5, h6⟩ := h
    obtain ⟨t, ht, lt⟩ := hb cdv A outer s H hc hr hg
    refine ⟨t, ht, lt S' M H H _ _ _ _ (ev_start h1 h2 h3) (hm ds Qd (by rw [← h3.length, h4]) h5) ⟨fun σd σ H' q E => ?_, fun d v H' q k so _ r => h6 d v H' q k so r, fun _ _ _ q _ => q.elim, fun _ _ _ q _ => q.elim, fun _ _ _ _ q _ => q.elim⟩⟩
    exact h6 _ _ _ q E.keep E.src .non
theorem fnD {P : Program} {w : World} {K : PySem.W.Frag} {mg : Str → Option Value} {base : Heap} {k : Nat} {f : Addr} {fd : FuncData} {ps : List Str} {x qual : Str} {st : Stmt} {N : List Str} {spd : DSp} {m : DS} (F : Fun K x qual st f fd) (S : FnScope N ps (defScope st))
    (hb : ∀ (cdv : Value) (A : Around) (outer : List Env) (s : Shared) (H : Hp), Room k (A.deeper (envOfC qual (defScope st) s.heap.objs.size f cdv)) → A.guards = some [] →
      PDSs W0 (cxOf CX0 P w K mg base N qual (defScope st) f cdv A outer s H E0).nox (defBody st) m)
    (hm : ∀ ds Qd, ds.length = ps.length → spd ds Qd → m { nx := fun _ => Qd .none, rt := Qd } (dstart N.length ds)) : FnG P w K mg base (k + 1) f fd ps (SpD ps.length spd) := fnDC F S (fun cdv A outer s H _ => hb cdv A outer s H) hm
end PH

namespace PH
open PySem PySem.Spec L2
open PyProof.Rows (envOfC floordiv_int mod_int')
variable {Wx : WX}
class Bd (k : outParam Nat) (x : Int) : Prop where
  h : x.natAbs < 2 ^ k
theorem Bd.mono {a b : Nat} {x : Int} (h : Bd a x) (l : a ≤ b) : Bd b x := ⟨Nat.lt_of_lt_of_le h.h (Nat.pow_le_pow_right (by decide) l)⟩
theorem bd_add' {a b : Nat} {x y : Int} (h1 : Bd a x) (h2 : Bd b y) : (x.natAbs + y.natAbs) < 2 ^ (a + b + 1) := by
  have e1 := h1.h
  have e2 := h2.h
  have l1 : 2 ^ a ≤ 2 ^ (a + b) := Nat.pow_le_pow_right (by decide) (by omega)
  have l2 : 2 ^ b ≤ 2 ^ (a + b) := Nat.pow_le_pow_right (by decide) (by omega)
  rw [Nat.pow_succ]
  omega
instance bd_add {a b : Nat} {x y : Int} [h1 : Bd a x] [h2 : Bd b y] : Bd (a + b + 1) (x + y) := ⟨by have := bd_add' h1 h2; omega⟩
instance bd_sub {a b : Nat} {x y : Int} [h1 : Bd a x] [h2 : Bd b y] : Bd (a + b + 1) (x - y) := ⟨by have := bd_add' h1 h2; omega⟩
instance bd_mul {a b : Nat} {x y : Int} [h1 : Bd a x] [h2 : Bd b y] : Bd (a + b) (x * y) := ⟨wide_lt h1.h h2.h⟩
instance bd_neg {a : Nat} {x : Int} [h : Bd a x] : Bd a (-x) := ⟨by rw [Int.natAbs_neg]; exact h.h⟩
theorem natAbs_fdiv_le (x y : Int) (h : y ≠ 0) : (x.fdiv y).natAbs ≤ x.natAbs := by
  rcases Int.lt_or_gt_of_ne h with h | h
  · -- y < 0
    have e : x.fdiv y = (-x).fdiv (-y) := by rw [Int.neg_fdiv_neg]
    rw [e, Int.fdiv_eq_ediv_of_nonneg _ (by omega), ← Int.natAbs_neg x]
    exact Int.natAbs_ediv_le_natAbs _ _
  · rw [Int.fdiv_eq_ediv_of_nonneg _ (by omega)]
    exact Int.natAbs_ediv_le_natAbs _ _
theorem bd_fdiv0 {a : Nat} {x y : Int} [h : Bd a x] (hy : y ≠ 0) : Bd a (x.fdiv y) := ⟨Nat.lt_of_le_of_lt (natAbs_fdiv_le x y hy) h.h⟩
instance bd_fdiv {a : Nat} {x y : Int} [h : Bd a x] : Bd a (x.fdiv y) := by
  by_cases hy : y = 0
  · subst hy; exact ⟨by rw [Int.fdiv_zero]; exact Nat.pos_of_ne_zero (by simp)⟩
  · exact bd_fdiv0 hy
instance bd_lit (n : Nat) [NeZero n] : Bd (n.log2 + 1) (OfNat.ofNat n : Int) := ⟨by
  show n < 2 ^ (n.log2 + 1)
  exact Nat.lt_log2_self⟩
instance bd_0 : Bd 0 (0 : Int) := ⟨by decide⟩
instance bd_1 : Bd 1 (1 : Int) := ⟨by decide⟩
def CMB (i j : Int) : Prop := ∃ a b : Nat, i.natAbs < 2 ^ a ∧ j.natAbs < 2 ^ b ∧ a + b ≤ 900000
theorem cmb {i j : Int} {a b : Nat} (h1 : Bd a i) (h2 : Bd b j) (h : a + b ≤ 900000) : CMB i j := ⟨a, b, h1.h, h2.h, h⟩
theorem CMB.ok {i j : Int} (h : CMB i j) : CMulW i j := by
  obtain ⟨a, b, h1, h2, h3⟩ := h
  exact wide_mul (a := a + 1) (b := b + 1) (Nat.lt_of_lt_of_le h1 (Nat.pow_le_pow_right (by decide) (by omega))) (Nat.lt_of_lt_of_le h2 (Nat.pow_le_pow_right (by decide) (by omega))) (by omega) (by omega) (by omega)
def CFD (_ j : Int) : Prop := j ≠ 0 ∧ ∃ b : Nat, j.natAbs < 2 ^ b ∧ b ≤ 8000
theorem cfd {i j : Int} {b : Nat} (h0 : j ≠ 0) (h : Bd b j) (hb : b ≤ 8000) : CFD i j := ⟨h0, b, h.h, hb⟩
theorem CFD.ok {i j : Int} (h : CFD i j) : Builtin.divisionGoesByPylong i j = false := by
  obtain ⟨_, b, h1, h2⟩ := h
  exact PyProof.noPylong_of_log2 (Nat.lt_of_lt_of_le (PySem.Flt.log2_lt_of (Nat.succ_pos b) (Nat.lt_of_lt_of_le h1 (Nat.pow_le_pow_right (by decide) (Nat.le_succ b)))) (by omega))
section
variable {X : Cx}
theorem op_mulB : OpR X (binaryOp .Mult) (rI CMB fun i j => .int (i * j)) := opI fun _ _ _ _ _ _ _ hc q => PyProof.Rows.mul_int q hc.ok.ok
theorem op_fdB : OpR X (binaryOp .FloorDiv) (rI CFD fun i j => .int (i.fdiv j)) := opI fun _ _ _ _ _ _ _ hc q => floordiv_int hc.1 q (.inl hc.ok)
end
section
variable {X : Cx} {a b c e : Expr} {es rest : List Expr} {pos : Pos} {ma mb mc : DE} {n : Nat} {m : DA}
theorem pd_bin {op : Operator} {r : R2} {dr : DR2} (ho : OpR X (binaryOp op) r) (l : LR r dr) (ha : PD X a ma) (hb : PD X b mb) : PD X (.BinOp a op b pos) (dOp dr ma mb) :=
  let ⟨_, h1, l1⟩ := ha; let ⟨_, h2, l2⟩ := hb; ⟨_, pe_op ho h1 h2, le_op l l1 l2⟩
abbrev dSub := dI0 fun i j => i - j
abbrev dFd := dI CFD fun i j => i.fdiv j
abbrev dMod := dI (fun _ j => j ≠ 0) fun i j => i.fmod j
abbrev dPow := dI CPow fun i j => i ^ j.toNat
theorem pd_sub (ha : PD X a ma) (hb : PD X b mb) : PD X (.BinOp a .Sub b pos) (dOp dSub ma mb) := pd_bin op_sub lr_I0 ha hb
theorem pd_fd (ha : PD X a ma) (hb : PD X b mb) : PD X (.BinOp a .FloorDiv b pos) (dOp dFd ma mb) := pd_bin op_fdB lr_I ha hb
theorem pd_mod (ha : PD X a ma) (hb : PD X b mb) : PD X (.BinOp a .Mod b pos) (dOp dMod ma mb) := pd_bin op_modN lr_I ha hb
def dNeg (m : DE) : DE := fun σd Q => m σd fun d => match d with | .int i => Q (.int (-i)) | _ => False
theorem pd_neg (ha : PD X a ma) : PD X (.UnaryOp .USub a pos) (dNeg ma) :=
  let ⟨_, h1, l1⟩ := ha
  ⟨_, pe_un un_neg h1, le_un (dr := fun d Q => match d with | .int i => Q (.int (-i)) | _ => False) (fun S M H x dx Qd Q r h k => by
    cases r <;> first | exact h.elim | skip
    exact ⟨_, rfl, k _ _ h (.int _)⟩) l1⟩
theorem pda_nil : PDA X [] 0 (fun _ Q => Q []) := ⟨_, pa_nil, la_nil⟩
theorem pda_cons (ha : PD X e ma) (hr : PDA X es n m) (hs : starEach (e :: es) X.env = (false, eval e X.env) :: starEach es X.env := by rfl) : PDA X (e :: es) (n + 1) (fun σd Q => ma σd fun d => m σd fun ds => Q (d :: ds)) :=
  let ⟨_, h1, l1⟩ := ha; let ⟨_, h2, l2⟩ := hr; ⟨_, pa_cons h1 h2 hs, la_cons l1 l2⟩
def dTup (m : DA) : DE := fun σd Q => m σd fun ds => Q (.tuple ds)
def dLst (m : DA) : DE := fun σd Q => m σd fun ds => Q (.list ds)
theorem pd_tup {x1} (h : PDA X es n m) (hn : n ≤ 100000 := by decide) : PD X (.Tuple es x1 pos) (dTup m) := let ⟨_, h1, l1⟩ := h; ⟨_, pe_tup h1, le_tup l1 hn⟩
theorem pdn_lst (h : PDA X es n m) (hn : n ≤ 100000 := by decide) : PDN X (.List es pos) m := let ⟨_, h1, l1⟩ := h; ⟨_, pe_lst h1, ln_lst l1 hn⟩
theorem pd_new (h : PDN X e m) : PD X e (dLst m) := let ⟨_, h1, l1⟩ := h; ⟨_, h1, l1.le⟩
theorem pd_lst (h : PDA X es n m) (hn : n ≤ 100000 := by decide) : PD X (.List es pos) (dLst m) := pd_new (pdn_lst h hn)
def dBoolT (m : DE) : DT := fun σd Q => m σd fun d => match d with | .bool b => Q b | _ => False
theorem pd_cmp {op : CmpOp} {r : R2} {dr : DR2} (ho : OpR X (compareOp op) r) (l : LR r dr) (ha : PD X a ma) (hb : PD X b mb) (hm : behindInMarks op b = false) : PD X (.Compare a [op] [b] pos) (dOp dr ma mb) :=
  let ⟨_, h1, l1⟩ := ha; let ⟨_, h2, l2⟩ := hb; ⟨_, pe_cmpR ho h1 h2 hm, le_op l l1 l2⟩
theorem pdt_cmp {op : CmpOp} {r : R2} {dr : DR2} (ho : OpR X (compareOp op) r) (l : LR r dr) (ha : PD X a ma) (hb : PD X b mb) (hm : behindInMarks op b = false) : PDT X (.Compare a [op] [b] pos) (dBoolT (dOp dr ma mb)) :=
  let ⟨_, h1, l1⟩ := ha; let ⟨_, h2, l2⟩ := hb; ⟨_, pt_cmpR ho h1 h2 hm, lt_of (le_op l l1 l2)⟩
abbrev dLtI := dB0 fun i j => decide (i < j)
abbrev dLeI := dB0 fun i j => decide (i ≤ j)
abbrev dGtI := dB0 fun i j => decide (j < i)
abbrev dGeI := dB0 fun i j => decide (j ≤ i)
def dEq : DR2 := fun x y Q => match x, y with
  | .str i, .str j => Q (.bool (decide (i = j)))
  | .int i, .int j => Q (.bool (decide (i = j)))
  | .list xs, .list [] => Q (.bool xs.isEmpty)
  | x, y => SeqAt.shaped x = true ∧ SeqAt.shaped y = true ∧ Q (.bool (PyData.eqv x y))
def dNe : DR2 := fun x y Q => match x, y with
  | .str i, .str j => Q (.bool (!decide (i = j)))
  | .int i, .int j => Q (.bool (!decide (i = j)))
  | x, y => SeqAt.shaped x = true ∧ SeqAt.shaped y = true ∧ Q (.bool (!PyData.eqv x y))
mutual
theorem Dq.dp {K : PySem.W.Frag} {S : Sr} {M : Addr → Prop} {H : Hp} : ∀ {d : D} {v : V}, Dq S M H v d → d.canLay0 = true → Dp K H v d
  | _, _, .non, _ => .non
  | _, _, .bl b, _ => .bl b
  | _, _, .int i, _ => .int i
  | _, _, .str x, _ => .str x
  | _, _, .lst n e r, h => .lst (.inl (.inl e)) (Dqs.dp r (by simpa [PyData.canLay0] using h))
  | _, _, .tup n e r, h => .tup (.inl (.inl e)) (Dqs.dp r (by simpa [PyData.canLay0] using h))
  | _, _, .dic _ _, h => by simp [PyData.canLay0] at h
  | _, _, .src _, h => by simp [PyData.canLay0] at h
  | _, _, .dit _ _ _, h => by simp [PyData.canLay0] at h
  | _, _, .ndt _ _, h => by simp [PyData.canLay0] at h
  | _, _, .hep _ _ _ _ _, h => by simp [PyData.canLay0] at h
theorem Dqs.dp {K : PySem.W.Frag} {S : Sr} {M : Addr → Prop} {H : Hp} : ∀ {ds : List D} {vs : List V}, Dqs S M H vs ds → PyData.canLayAll0 ds = true → DpAll K H vs ds
  | _, _, .nil, _ => .nil
  | _, _, .cons a b, h => by
    simp only [PyData.canLayAll0, Bool.and_eq_true] at h
    exact .cons (Dq.dp a h.1) (Dqs.dp b h.2)
end
theorem lay_of {d : D} (h : SeqAt.shaped d = true) : d.canLay0 = true := SeqAt.canLay_of_shaped h
def rEqLen : R2 := fun x y H Q => ∃ a b xs ys, x = .ref a ∧ y = .ref b ∧ H a = some (.lst xs) ∧ H b = some (.lst ys) ∧ xs.length ≠ ys.length ∧ Q (.bl false) H
theorem op_eqLen (hu : X.A.units < cLine) : OpR X (compareOp .Eq) rEqLen := by
  intro pins s σ H x y v u Q I rx ry h
  obtain ⟨a, b, xs, ys, rfl, rfl, ha, hb, hl, q⟩ := h
  cases rx
  cases ry
  obtain ⟨its, r1, p1, _⟩ := I.list (.inl (.inl ha))
  obtain ⟨its2, r2, p2, _⟩ := I.list (.inl (.inl hb))
  refine SeqAt.eq_list_lengthsAt p1.isList p2.isList ?_ hu ⟨.bl false, H, I, rfl, q⟩
  have e1 := r1.length
  have e2 := r2.length
  simp only [List.size_toArray, bne_iff_ne, ne_eq]
  omega
abbrev rEqA (K : PySem.W.Frag) : R2 := fun x y H Q => rEqD K x y H Q ∨ rEqLen x y H Q ∨ rEq x y H Q
abbrev rNeA (K : PySem.W.Frag) : R2 := fun x y H Q => rNeD K x y H Q ∨ rNe x y H Q
theorem op_eqA (hu : X.A.units + 64 < cLine) : OpR X (compareOp .Eq) (rEqA X.K) := by
  intro pins s σ H x y v u Q I rx ry q
  rcases q with q | q | q
  · exact op_eqD hu pins s σ H x y v u Q I rx ry q
  · exact op_eqLen (by omega) pins s σ H x y v u Q I rx ry q
  · exact op_eq pins s σ H x y v u Q I rx ry q
theorem op_neA (hu : X.A.units + 64 < cLine) : OpR X (compareOp .NotEq) (rNeA X.K) := by
  intro pins s σ H x y v u Q I rx ry q
  rcases q with q | q
  · exact op_neD hu pins s σ H x y v u Q I rx ry q
  · exact op_ne pins s σ H x y v u Q I rx ry q
theorem str_eqD (i j : Str) : decide (V.str i = V.str j) = decide (i = j) := by by_cases h : i = j <;> simp [h]
theorem lr_eq : LR (rEqA X.K) dEq := by
  intro S M H x y dx dy Qd Q hm rx ry h k
  unfold dEq at h
  split at h
  · cases rx; cases ry
    refine .inr (.inr ⟨rfl, ?_⟩)
    rw [str_eqD]
    exact k _ _ H h (Same.refl _) (.bl _)
  · cases rx; cases ry
    rename_i i j
    refine .inl ⟨.int i, .int j, .int i, .int j, by simp [SeqAt.shaped, PyData.canLay0, PyData.depth], by simp [SeqAt.shaped, PyData.canLay0, PyData.depth], ?_⟩
    have e : PyData.eqv (.int i) (.int j) = decide (i = j) := by simp [PyData.eqv]; rfl
    rw [e]
    exact k _ _ H h (Same.refl _) (.bl _)
  · rename_i xs
    cases xs with
    | nil =>
      refine .inl ⟨.list [], .list [], rx.dp (by simp [PyData.canLay0, PyData.canLayAll0]), ry.dp (by simp [PyData.canLay0, PyData.canLayAll0]), by decide, by decide, ?_⟩
      have e : PyData.eqv (.list []) (.list []) = true := by simp [PyData.eqv, PyData.eqvAll]
      rw [e]
      exact k _ _ H h (Same.refl _) (.bl _)
    | cons z zs =>
      cases rx with
      | lst na ea ra =>
      cases ry with
      | lst nb eb rb =>
      exact .inr (.inl ⟨_, _, _, _, rfl, rfl, ea, eb, by rw [ra.length, rb.length]; simp, k _ _ H h (Same.refl _) (.bl _)⟩)
  · obtain ⟨h1, h2, h3⟩ := h
    exact .inl ⟨dx, dy, rx.dp (lay_of h1), ry.dp (lay_of h2), h1, h2, k _ _ H h3 (Same.refl _) (.bl _)⟩
theorem lr_ne : LR (rNeA X.K) dNe := by
  intro S M H x y dx dy Qd Q hm rx ry h k
  unfold dNe at h
  split at h
  · cases rx; cases ry
    refine .inr ⟨rfl, ?_⟩
    rw [str_eqD]
    exact k _ _ H h (Same.refl _) (.bl _)
  · cases rx; cases ry
    rename_i i j
    refine .inl ⟨.int i, .int j, .int i, .int j, by simp [SeqAt.shaped, PyData.canLay0, PyData.depth], by simp [SeqAt.shaped, PyData.canLay0, PyData.depth], ?_⟩
    have e : PyData.eqv (.int i) (.int j) = decide (i = j) := by simp [PyData.eqv]; rfl
    rw [e]
    exact k _ _ H h (Same.refl _) (.bl _)
  · obtain ⟨h1, h2, h3⟩ := h
    exact .inl ⟨dx, dy, rx.dp (lay_of h1), ry.dp (lay_of h2), h1, h2, k _ _ H h3 (Same.refl _) (.bl _)⟩
theorem pd_lt (ha : PD X a ma) (hb : PD X b mb) : PD X (.Compare a [.Lt] [b] pos) (dOp dLtI ma mb) := pd_cmp op_lt lr_B0 ha hb (nomark _)
theorem pd_gt (ha : PD X a ma) (hb : PD X b mb) : PD X (.Compare a [.Gt] [b] pos) (dOp dGtI ma mb) := pd_cmp op_gt lr_B0 ha hb (nomark _)
theorem pd_ge (ha : PD X a ma) (hb : PD X b mb) : PD X (.Compare a [.GtE] [b] pos) (dOp dGeI ma mb) := pd_cmp op_ge lr_B0 ha hb (nomark _)
theorem pd_eq (hu : X.A.units + 64 < cLine) (ha : PD X a ma) (hb : PD X b mb) : PD X (.Compare a [.Eq] [b] pos) (dOp dEq ma mb) := pd_cmp (op_eqA hu) lr_eq ha hb (nomark _)
theorem pdt_lt (ha : PD X a ma) (hb : PD X b mb) : PDT X (.Compare a [.Lt] [b] pos) (dBoolT (dOp dLtI ma mb)) := pdt_cmp op_lt lr_B0 ha hb (nomark _)
theorem pdt_gt (ha : PD X a ma) (hb : PD X b mb) : PDT X (.Compare a [.Gt] [b] pos) (dBoolT (dOp dGtI ma mb)) := pdt_cmp op_gt lr_B0 ha hb (nomark _)
theorem pdt_eq (hu : X.A.units + 64 < cLine) (ha : PD X a ma) (hb : PD X b mb) : PDT X (.Compare a [.Eq] [b] pos) (dBoolT (dOp dEq ma mb)) := pdt_cmp (op_eqA hu) lr_eq ha hb (nomark _)
theorem pdt_ne (hu : X.A.units + 64 < cLine) (ha : PD X a ma) (hb : PD X b mb) : PDT X (.Compare a [.NotEq] [b] pos) (dBoolT (dOp dNe ma mb)) := pdt_cmp (op_neA hu) lr_ne ha hb (nomark _)
theorem pdt_val (h : PD X e ma) (he : ∀ whole, isTrue e X.env whole = (do let v ← whole; standAt e.pos; holding [v] (truthy v)) := by intro _; rfl) : PDT X e (dBoolT ma) :=
  let ⟨_, h1, l1⟩ := h; ⟨_, pt_val h1 he, lt_ofB l1⟩
def dAndT (m n : DT) : DT := fun σd Q => m σd fun b => if b = true then n σd Q else Q false
def dOrT (m n : DT) : DT := fun σd Q => m σd fun b => if b = true then Q true else n σd Q
def dNotT (m : DT) : DT := fun σd Q => m σd fun b => Q (!b)
variable {ta tb : DT}
theorem pdw_and1 (ha : PDT X a ta) : PDW X (.BoolOp .And [a] pos) ta := let ⟨_, h, l⟩ := ha; ⟨_, pw_and1 h, l⟩
theorem pdw_or1 (ha : PDT X a ta) : PDW X (.BoolOp .Or [a] pos) ta := let ⟨_, h, l⟩ := ha; ⟨_, pw_or1 h, l⟩
theorem pdw_and (ha : PDT X a ta) (hb : PDW X (.BoolOp .And (b :: rest) pos) tb) : PDW X (.BoolOp .And (a :: b :: rest) pos) (dAndT ta tb) := let ⟨_, h1, l1⟩ := ha; let ⟨_, h2, l2⟩ := hb; ⟨_, pw_and h1 h2, lt_and l1 l2⟩
theorem pdw_or (ha : PDT X a ta) (hb : PDW X (.BoolOp .Or (b :: rest) pos) tb) : PDW X (.BoolOp .Or (a :: b :: rest) pos) (dOrT ta tb) := let ⟨_, h1, l1⟩ := ha; let ⟨_, h2, l2⟩ := hb; ⟨_, pw_or h1 h2, lt_or l1 l2⟩
theorem pdt_w (h : PDW X e ta) : PDT X e ta := let ⟨_, h, l⟩ := h; ⟨_, h.pt, l⟩
theorem pdt_not (ha : PDT X a ta) : PDT X (.UnaryOp .Not a pos) (dNotT ta) := let ⟨_, h1, l1⟩ := ha; ⟨_, pt_not h1, lt_not l1⟩
def dAndV (m n : DE) : DE := fun σd Q => m σd fun d => match d with | .bool b => (if b = true then n σd Q else Q (.bool false)) | _ => False
def dOrV (m n : DE) : DE := fun σd Q => m σd fun d => match d with | .bool b => (if b = true then Q (.bool true) else n σd Q) | _ => False
def dNotV (m : DE) : DE := fun σd Q => m σd fun d => match d with | .bool b => Q (.bool (!b)) | _ => False
def dIfE (t : DT) (m n : DE) : DE := fun σd Q => t σd fun b => if b = true then m σd Q else n σd Q
theorem pd_one {op} (h : PD X a ma) : PD X (.BoolOp op [a] pos) ma := let ⟨_, h1, l1⟩ := h; ⟨_, pe_one h1, l1⟩
theorem pd_and (ha : PD X a ma) (hb : PD X (.BoolOp .And (b :: rest) pos) mb) : PD X (.BoolOp .And (a :: b :: rest) pos) (dAndV ma mb) := let ⟨_, h1, l1⟩ := ha; let ⟨_, h2, l2⟩ := hb; ⟨_, pe_and h1 h2, le_andV l1 l2⟩
theorem pd_or (ha : PD X a ma) (hb : PD X (.BoolOp .Or (b :: rest) pos) mb) : PD X (.BoolOp .Or (a :: b :: rest) pos) (dOrV ma mb) := let ⟨_, h1, l1⟩ := ha; let ⟨_, h2, l2⟩ := hb; ⟨_, pe_or h1 h2, le_orV l1 l2⟩
theorem pd_not (ha : PD X a ma) : PD X (.UnaryOp .Not a pos) (dNotV ma) := let ⟨_, h1, l1⟩ := ha; ⟨_, pe_not h1, le_notV l1⟩
theorem pd_ifexp (hc : PDT X c ta) (ha : PD X a ma) (hb : PD X b mb) : PD X (.IfExp c a b pos) (dIfE ta ma mb) := let ⟨_, h0, l0⟩ := hc; let ⟨_, h1, l1⟩ := ha; let ⟨_, h2, l2⟩ := hb; ⟨_, pe_ifExp h0 h1 h2, le_if l0 l1 l2⟩
def dIx : DR2 := fun x y Q => match x, y with
  | .list ds, .int i => (match atI ds i with | some d => Q d | none => False)
  | .tuple ds, .int i => (match atI ds i with | some d => Q d | none => False)
  | _, _ => False
theorem Dqs.at {S : Sr} {M : Addr → Prop} {H : Hp} {vs : List V} {ds : List D} {i : Int} {d : D} (r : Dqs S M H vs ds) (h : atI ds i = some d) : ∃ v, atI vs i = some v ∧ Dq S M H v d := by
  unfold atI at h ⊢
  rw [r.length]
  cases e : ixN ds.length i with
  | none => rw [e] at h; cases h
  | some j =>
    rw [e] at h
    obtain ⟨v, h1, h2⟩ := r.get (i := j) (d := d) h
    exact ⟨v, h1, h2⟩
theorem lr_ix : LR (rIx X.K) dIx := by
  intro S M H x y dx dy Qd Q hm rx ry h k
  unfold dIx at h
  split at h
  · cases ry
    split at h
    · rename_i d e
      cases rx with
      | lst na eH r =>
        obtain ⟨v, h1, h2⟩ := r.at e
        exact .inl ⟨_, _, _, v, rfl, rfl, .inl (.inl eH), h1, k d v H h (Same.refl _) h2⟩
    · exact h.elim
  · cases ry
    split at h
    · rename_i d e
      cases rx with
      | tup na eH r =>
        obtain ⟨v, h1, h2⟩ := r.at e
        exact .inr (.inl ⟨_, _, _, v, rfl, rfl, .inl (.inl eH), h1, k d v H h (Same.refl _) h2⟩)
    · exact h.elim
  · exact h.elim
theorem pd_ix (ha : PD X a ma) (hb : PD X b mb) (hs : PlainIx b := by exact fun _ _ => rfl) : PD X (.Subscript a b pos) (dOp dIx ma mb) := let ⟨_, h1, l1⟩ := ha; let ⟨_, h2, l2⟩ := hb; ⟨_, pe_ix ix_seq h1 h2 hs, le_op lr_ix l1 l2⟩
def dCall (spd : DSp) (m : DA) : DE := fun σd Q => m σd fun ds => spd ds Q
def dCall0 (spd : DSp) : DE := fun _ Q => spd [] Q
variable {k n' : Nat} {f : Addr} {fd : FuncData} {ps : List Str} {spd : DSp} {x : Str} {p : Pos}
theorem pd_call (F : FnG X.prog X.w X.K X.mg X.base k f fd ps (SpD n' spd)) (hr : Room k X.A) (hgu : X.A.guards = some []) (hg : Gl X x) (hm : X.mg x = some (.ref f)) (hk : PySem.W.keepIn X.K (.ref f) = true) (hb : Binds X.K fd ps [])
    (ha : PDA X (e :: es) n' m) (hdb : (x == ("__debug__" : Str)) = false := by decide) (he : starEach (e :: es) X.env = (false, eval e X.env) :: starEach es X.env := by rfl) (hpl : (backTo pos (starEach es X.env)).any (·.1) = false := by rfl) :
    PD X (.Call (.Name x p) (e :: es) [] pos) (dCall spd m) := let ⟨_, h1, l1⟩ := ha; ⟨_, pe_callG F hr hgu hg hm hk hb h1 hdb he hpl, le_callG l1⟩
def dB (dr : DRC) (m : DA) : DE := fun σd Q => m σd fun ds => dr ds Q
variable {id T : String} {r : List V → Hp → VK → Prop} {dr : DRC}
theorem pd_blt (hc : CallR X (.builtin id) r) (l : LC r dr) (hg : Gl X x) (hm : X.mg x = none) (hv : bootBuiltins x = some (.builtin id)) (ha : PDA X (e :: es) n m) (hn : x ≠ "__name__" := by decide) (hdb : (x == ("__debug__" : Str)) = false := by decide)
    (he : starEach (e :: es) X.env = (false, eval e X.env) :: starEach es X.env := by rfl) (hpl : (backTo pos (starEach es X.env)).any (·.1) = false := by rfl) : PD X (.Call (.Name x p) (e :: es) [] pos) (dB dr m) :=
  let ⟨_, h1, l1⟩ := ha; ⟨_, pe_callB hc hg hm hv h1 hn hdb he hpl, le_cb l l1⟩
theorem pd_ty (hc : CallR X (.type T) r) (l : LC r dr) (hg : Gl X x) (hm : X.mg x = none) (hv : bootBuiltins x = some (.type T)) (ha : PDA X (e :: es) n m) (hn : x ≠ "__name__" := by decide) (hdb : (x == ("__debug__" : Str)) = false := by decide)
    (he : starEach (e :: es) X.env = (false, eval e X.env) :: starEach es X.env := by rfl) (hpl : (backTo pos (starEach es X.env)).any (·.1) = false := by rfl) : PD X (.Call (.Name x p) (e :: es) [] pos) (dB dr m) :=
  let ⟨_, h1, l1⟩ := ha; ⟨_, pe_callTy hc hg hm hv h1 hn hdb he hpl, le_cb l l1⟩
theorem pd_bfun (hc : CallR X (.builtin id) r) (l : LC r dr) (hg : Gl X x) (hm : X.mg x = some (.builtin id)) (ha : PDA X (e :: es) n m) (hdb : (x == ("__debug__" : Str)) = false := by decide)
    (he : starEach (e :: es) X.env = (false, eval e X.env) :: starEach es X.env := by rfl) (hpl : (backTo pos (starEach es X.env)).any (·.1) = false := by rfl) : PD X (.Call (.Name x p) (e :: es) [] pos) (dB dr m) :=
  let ⟨_, h1, l1⟩ := ha; ⟨_, pe_callBfun hc hg hm h1 hdb he hpl, le_cb l l1⟩
theorem pss_d1 {st : Stmt} {m : DS} (h : PDS Wx X st m) : PDSs Wx X [st] m := let ⟨_, h1, l1⟩ := h; ⟨_, pss_one h1, l1⟩
theorem pss_dc {st : Stmt} {rest : List Stmt} {m n : DS} (h1 : PDS Wx X st m) (h2 : PDSs Wx X rest n) : PDSs Wx X (st :: rest) (dSeq m n) := let ⟨_, h1, l1⟩ := h1; let ⟨_, h2, l2⟩ := h2; ⟨_, pss_cons h1 h2, ls_seq l1 l2⟩
theorem pss_d0 : PDSs Wx X [] dNext := ⟨_, pss_nil, ls_next⟩
theorem psd_if {c : Expr} {a b : List Stmt} {dc : DT} {m n : DS} (hc : PDT X c dc) (ha : PDSs Wx X a m) (hb : PDSs Wx X b n) : PDS Wx X (.If c a b pos) (dIf dc m n) :=
  let ⟨_, h0, l0⟩ := hc; let ⟨_, h1, l1⟩ := ha; let ⟨_, h2, l2⟩ := hb; ⟨_, ps_if h0 h1 h2, ls_if l0 l1 l2⟩
theorem psd_ret (h : PD X e ma) : PDS Wx X (.Return (some e) pos) (dRet ma) := let ⟨_, h1, l1⟩ := h; ⟨_, ps_ret h1, ls_ret l1⟩
theorem psd_set {i : Nat} {x : Str} {pos' : Pos} (hN : X.N.Nodup) (hi : X.N[i]? = some x) (hx : Loc X.env.scope x) (he : PD X e ma) (hs : swapsWith e (some (.Name x pos')) pos.line X.env = pure false := by rfl)
    (hf : X.fn x = true ∨ X.env.scope.names.lookup x = some .local := by first | exact .inl rfl | exact .inr rfl) : PDS Wx X (.Assign [.Name x pos'] e pos) (dAsg ma (dgName i)) :=
  let ⟨_, h1, l1⟩ := he; ⟨_, ps_set hN hi hx h1 hs hf, ls_asg l1 (lg_name i)⟩
def PDGs (X : Cx) (ts : List Expr) (n : Nat) (dg : DGs) : Prop := ∃ t, PGs X ts t ∧ LGs t dg ∧ ∀ ds σd Q, dg ds σd Q → ds.length = n
theorem pdgs_nil : PDGs X [] 0 dgNil := ⟨_, pgs_nil, lgs_nil, fun ds σd Q h => by cases ds with | nil => rfl | cons _ _ => exact h.elim⟩
theorem pdgs_cons {i n : Nat} {x : Str} {pos' : Pos} {es : List Expr} {dg : DGs} (hN : X.N.Nodup) (hi : X.N[i]? = some x) (hx : Loc X.env.scope x) (h : PDGs X es n dg)
    (hs : (assignEach (.Name x pos' :: es) X.env).map (·.2) = assign (.Name x pos') X.env :: (assignEach es X.env).map (·.2) := by rfl) (hf : X.fn x = true ∨ X.env.scope.names.lookup x = some .local := by first | exact .inl rfl | exact .inr rfl) : PDGs X (.Name x pos' :: es) (n + 1) (dgCons (dgName i) dg) :=
  let ⟨_, h1, l1, q⟩ := h
  ⟨_, pgs_cons (pg_name hN hi hx hf) h1 hs, lgs_cons l1, fun ds σd Q z => by
    cases ds with
    | nil => exact z.elim
    | cons d r => exact congrArg (· + 1) (q r _ Q z)⟩
def PDG (X : Cx) (tg : Expr) (dg : DG) : Prop := ∃ t, PG X tg t ∧ LG t dg
theorem pdg_name {i : Nat} {x : Str} {pos' : Pos} (hN : X.N.Nodup) (hi : X.N[i]? = some x) (hx : Loc X.env.scope x) (hf : X.fn x = true ∨ X.env.scope.names.lookup x = some .local := by first | exact .inl rfl | exact .inr rfl) : PDG X (.Name x pos') (dgName i) := ⟨_, pg_name hN hi hx hf, lg_name i⟩
theorem pdg_tup {k n : Nat} {es : List Expr} {dg : DGs} (hc : X.calm = true) (h : PDGs X es n dg) (hn : (assignEach es X.env).length = n := by rfl) (hst : (assignEach es X.env).findIdx? (·.1) = none := by rfl) : PDG X (.Tuple es k pos) (dgTup dg) :=
  let ⟨_, h1, l1, q⟩ := h; ⟨_, pg_tup hc h1 hn hst, lg_tup l1 q⟩
theorem psd_asg {tg : Expr} {dg : DG} (he : PD X e ma) (hg : PDG X tg dg) (hs : swapsWithSole [tg] e pos.line X.env = pure false := by rfl) (hw : swappedStores [tg] e X.env = pure none := by rfl)
    (h1 : (assignEach [tg] X.env).map (·.2) = [assign tg X.env] := by rfl) : PDS Wx X (.Assign [tg] e pos) (dAsg ma dg) := let ⟨_, h2, l2⟩ := he; let ⟨_, h3, l3⟩ := hg; ⟨_, ps_asg h2 h3 hs hw h1, ls_asg l2 l3⟩
def dPar (i j : Nat) (m : DA) : DS := fun Dd σd => m σd fun ds => match ds with | [d, e] => Dd.nx ((σd.set i (.val d)).set j (.val e)) | _ => False
theorem ls_par {i j n : Nat} {t : TA} {m : DA} (h : LA n t m) : LS Wx (tPar i j t) (dPar i j m) := by
  intro S M H0 H σ σd Dd Dn E hm r
  refine h S M H0 H σ σd _ _ E hm fun ds vs H' q E' k r' _ => ?_
  split at q
  · cases r' with
    | cons a b =>
      cases b with
      | cons b c =>
        cases c
        exact ⟨_, _, rfl, r.1 _ _ _ q ((E'.put a).put (b.go fun a o n e => ⟨fun z => n (MOset z), e⟩))⟩
  · exact q.elim
theorem psd_par {i j : Nat} {x y : Str} {a b : Expr} {px py pt : Pos} {kt k2 pt2} (hc : X.calm = true) (hN : X.N.Nodup) (hi : X.N[i]? = some x) (hj : X.N[j]? = some y) (hij : i ≠ j)
    (hx : X.env.scope.names.lookup x = some .local) (hy : X.env.scope.names.lookup y = some .local) (ha : PDA X [a, b] n m)
    (hw : swappedStores [.Tuple [.Name x px, .Name y py] kt pt] (.Tuple [a, b] k2 pt2) X.env = pure (some [x, y]))
    (hs : swapsWithSole [.Tuple [.Name x px, .Name y py] kt pt] (.Tuple [a, b] k2 pt2) pos.line X.env = pure false := by rfl) :
    PDS Wx X (.Assign [.Tuple [.Name x px, .Name y py] kt pt] (.Tuple [a, b] k2 pt2) pos) (dPar i j m) := let ⟨_, h1, l1⟩ := ha; ⟨_, ps_par hc hN hi hj hij hx hy h1 hw hs, ls_par l1⟩
def dPar3 (i j l : Nat) (m : DA) : DS := fun Dd σd => m σd fun ds => match ds with | [d, e, f] => Dd.nx (((σd.set i (.val d)).set j (.val e)).set l (.val f)) | _ => False
theorem ls_par3 {i j l n : Nat} {t : TA} {m : DA} (h : LA n t m) : LS Wx (tPar3 i j l t) (dPar3 i j l m) := by
  intro S M H0 H σ σd Dd Dn E hm r
  refine h S M H0 H σ σd _ _ E hm fun ds vs H' q E' k r' _ => ?_
  split at q
  · cases r' with
    | cons a b =>
      cases b with
      | cons b c =>
        cases c with
        | cons c e =>
          cases e
          exact ⟨_, _, _, rfl, r.1 _ _ _ q (((E'.put a).put (b.go fun a o n e => ⟨fun z => n (MOset z), e⟩)).put (c.go fun a o n e => ⟨fun z => n (MOset (MOset z)), e⟩))⟩
  · exact q.elim
theorem psd_par3 {i j l : Nat} {x y z : Str} {a b c : Expr} {px py pz pt : Pos} {kt k2 pt2} (hc : X.calm = true) (hN : X.N.Nodup) (hi : X.N[i]? = some x) (hj : X.N[j]? = some y) (hl : X.N[l]? = some z) (hij : i ≠ j ∧ i ≠ l ∧ j ≠ l)
    (hx : X.env.scope.names.lookup x = some .local) (hy : X.env.scope.names.lookup y = some .local) (hz : X.env.scope.names.lookup z = some .local) (ha : PDA X [a, b, c] n m)
    (hw : swappedStores [.Tuple [.Name x px, .Name y py, .Name z pz] kt pt] (.Tuple [a, b, c] k2 pt2) X.env = pure (some [x, y, z]))
    (hs : swapsWithSole [.Tuple [.Name x px, .Name y py, .Name z pz] kt pt] (.Tuple [a, b, c] k2 pt2) pos.line X.env = pure false := by rfl) :
    PDS Wx X (.Assign [.Tuple [.Name x px, .Name y py, .Name z pz] kt pt] (.Tuple [a, b, c] k2 pt2) pos) (dPar3 i j l m) := let ⟨_, h1, l1⟩ := ha; ⟨_, ps_par3 hc hN hi hj hl hij.1 hij.2.1 hij.2.2 hx hy hz h1 hw hs, ls_par3 l1⟩
end
end PH

namespace PH
open PySem PySem.Spec L2
open PyProof.Rows (envOfC)
mutual
def noL : D → Bool
  | .list _ => false
  | .tuple xs => noLs xs
  | _ => true
def noLs : List D → Bool
  | [] => true
  | x :: xs => noL x && noLs xs
end
mutual
def noS : D → Bool
  | .list xs => noSs xs
  | .tuple xs => noSs xs
  | .dict kvs => kvs.isEmpty
  | _ => true
def noSs : List D → Bool
  | [] => true
  | x :: xs => noS x && noSs xs
end
section
variable {X : Cx} {pins : List (Addr × Obj)} {σ : L2.St} {H : Hp} {s : Shared} {S : Sr} {M : Addr → Prop}
mutual
theorem Dq.reads (I : Inv X pins σ H s) : ∀ {d : D} {v : V} {u : Value}, Dq S M H v d → noS d = true → RelV v u → ∃ as, Reads s.heap u d as ∧ (noL d = true → sysModules ∉ as)
  | _, _, _, .non, _, r => by cases r; exact ⟨_, Reads.none, fun _ z => nomatch z⟩
  | _, _, _, .bl b, _, r => by cases r; exact ⟨_, Reads.bool b, fun _ z => nomatch z⟩
  | _, _, _, .int i, _, r => by obtain ⟨t, rfl⟩ := r; exact ⟨_, Reads.int i t, fun _ z => nomatch z⟩
  | _, _, _, .str x, _, r => by obtain ⟨t, rfl⟩ := r; exact ⟨_, Reads.str x t, fun _ z => nomatch z⟩
  | _, _, _, .lst n e q, h, r => by
    cases r
    obtain ⟨_, its, m, rv, ho⟩ := I.hok _ _ e
    obtain ⟨as, hr, _⟩ := Dqs.reads I q (by simpa [noS] using h) rv
    exact ⟨_, Reads.list ho rfl rfl hr, fun z => by simp [noL] at z⟩
  | _, _, _, .tup n e q, h, r => by
    cases r
    obtain ⟨_, its, rv, o, ho, hc, m, hd⟩ := I.hok _ _ e
    obtain ⟨as, hr, hs⟩ := Dqs.reads I q (by simpa [noS] using h) rv
    exact ⟨_, Reads.tuple ho hc hd hr, fun z => hs (by simpa [noL] using z)⟩
  | _, _, _, .dic n e, h, r => by
    cases r
    obtain ⟨_, hsm, vs, rv, o, es, ep, ho, hx, hd, hk, hp, _⟩ := I.hok _ _ e
    cases rv
    have e0 : es.toList = [] := by
      cases z : es.toList with
      | nil => rfl
      | cons a b => rw [z] at hp; cases hp
    refine ⟨_, Reads.dict (as := []) (bs := []) ho hx.1 hd (by rw [e0]; exact .nil) (by rw [e0]; exact .nil), fun _ z => ?_⟩
    have z' := List.mem_singleton.mp (by simpa using z)
    exact absurd z'.symm (beq_eq_false_iff_ne.mp hsm)
  | _, _, _, .src _, h, _ => by simp [noS] at h
  | _, _, _, .dit _ _ _, h, _ => by simp [noS] at h
  | _, _, _, .ndt _ _, h, _ => by simp [noS] at h
  | _, _, _, .hep _ _ _ _ _, h, _ => by simp [noS] at h
theorem Dqs.reads (I : Inv X pins σ H s) : ∀ {ds : List D} {vs : List V} {us : List Value}, Dqs S M H vs ds → noSs ds = true → Vals vs us → ∃ as, ReadsAll s.heap us ds as ∧ (noLs ds = true → sysModules ∉ as)
  | _, _, _, .nil, _, r => by cases r; exact ⟨_, ReadsAll.nil, fun _ z => nomatch z⟩
  | _, _, _, .cons a b, h, r => by
    cases r with
    | cons r1 r2 =>
      simp only [noSs, Bool.and_eq_true] at h
      obtain ⟨as, q1, s1⟩ := Dq.reads I a h.1 r1
      obtain ⟨bs, q2, s2⟩ := Dqs.reads I b h.2 r2
      refine ⟨_, ReadsAll.cons q1 q2, fun z m => ?_⟩
      simp only [noLs, Bool.and_eq_true] at z
      rcases List.mem_append.mp m with m | m
      · exact s1 z.1 m
      · exact s2 z.2 m
end
end
structure rOk (d : D) : Prop where
  sh : d.showable = true
  ns : noS d = true
  dl : d.hasDict = true → noL d = true
  dp : d.depth ≤ 60
  len : d.shown.length ≤ sizeLine
def rReprV : List V → Hp → VK → Prop := fun xs H Q => ∃ (S : Sr) (M : Addr → Prop) (x : V) (d : D), xs = [x] ∧ Dq S M H x d ∧ rOk d ∧ Q (.str d.shown) H
section
variable {X : Cx}
theorem call_repr (hg : X.A.guards = some []) (hu : X.A.units + 64 < cLine) : CallR X (.builtin "repr") rReprV := by
  intro pins s σ H xs us Q I r h
  obtain ⟨S, M, x, d, rfl, hd, ok, q⟩ := h
  obtain ⟨u, rfl, ru⟩ := vals1 r
  cases hd with
  | non =>
    cases ru
    exact PySem.P.repr_of_none ⟨.str _, H, I.tok _, ⟨_, rfl⟩, by simpa only [PyData.shown] using q⟩
  | bl b =>
    cases ru
    exact PySem.P.repr_of_bool ⟨.str _, H, I.tok _, ⟨_, rfl⟩, by simpa only [PyData.shown] using q⟩
  | int i =>
    obtain ⟨t, rfl⟩ := ru
    exact PySem.P.repr_of_int (by have := ok.sh; simpa [PyData.showable] using this) ⟨.str _, H, I.tok _, ⟨_, rfl⟩, by simpa only [PyData.shown] using q⟩
  | str x =>
    obtain ⟨t, rfl⟩ := ru
    exact PySem.P.repr_of_str ⟨.str _, H, I.tok _, ⟨_, rfl⟩, by simpa only [PyData.shown] using q⟩ (by have := ok.len; simpa only [PyData.shown] using this)
  | lst n e z =>
    have hd : Dq S M H (.ref _) (.list _) := .lst n e z
    cases ru
    obtain ⟨as, hr, hs⟩ := hd.reads I ok.ns rfl
    exact repr_of_reads' hr ok.sh (fun z => hs (ok.dl z)) hg (by have := ok.dp; omega) (fun _ _ e => e) (fun h' u tk hk => ⟨.str _, H, I.kept hk, ⟨_, rfl⟩, q⟩) ok.len
  | tup n e z =>
    have hd : Dq S M H (.ref _) (.tuple _) := .tup n e z
    cases ru
    obtain ⟨as, hr, hs⟩ := hd.reads I ok.ns rfl
    exact repr_of_reads' hr ok.sh (fun z => hs (ok.dl z)) hg (by have := ok.dp; omega) (fun _ _ e => e) (fun h' u tk hk => ⟨.str _, H, I.kept hk, ⟨_, rfl⟩, q⟩) ok.len
  | dic n e =>
    have hd : Dq S M H (.ref _) (.dict []) := .dic n e
    cases ru
    obtain ⟨as, hr, hs⟩ := hd.reads I ok.ns rfl
    exact repr_of_reads' hr ok.sh (fun z => hs (ok.dl z)) hg (by have := ok.dp; omega) (fun _ _ e => e) (fun h' u tk hk => ⟨.str _, H, I.kept hk, ⟨_, rfl⟩, q⟩) ok.len
  | src e => exact absurd ok.ns (by simp [noS])
  | dit n e r => exact absurd ok.ns (by simp [noS])
  | ndt n e => exact absurd ok.ns (by simp [noS])
  | hep c n nb e x => exact absurd ok.ns (by simp [noS])
def dRepr : DRC := fun ds Q => match ds with | [d] => rOk d ∧ Q (.str d.shown) | _ => False
theorem lc_repr : LC rReprV dRepr := by
  intro S M H xs ds Qd Q hm r h k
  unfold dRepr at h
  split at h
  · cases r with
    | cons a b =>
      cases b
      exact ⟨S, M, _, _, rfl, a, h.1, k _ _ H h.2 (Same.refl _) (.str _)⟩
  · exact h.elim
def dInt1 (f : Int → D) : DRC := fun ds Q => match ds with | [.int i] => Q (f i) | _ => False
def dAbs : DRC := dInt1 fun i => .int (if i < 0 then -i else i)
theorem lc_abs : LC (fun xs H Q => ∃ i, xs = [.int i] ∧ Q (.int (if i < 0 then -i else i)) H) dAbs := by
  intro S M H xs ds Qd Q hm r h k
  unfold dAbs dInt1 at h
  split at h
  · cases r with
    | cons a b => cases b; cases a; exact ⟨_, rfl, k _ _ H h (Same.refl _) (.int _)⟩
  · exact h.elim
def dIntF : DRC := fun ds Q => match ds with | [.int i] => Q (.int i) | [.bool b] => Q (.int (if b then 1 else 0)) | _ => False
theorem lc_int : LC (fun xs H Q => (∃ i, xs = [.int i] ∧ Q (.int i) H) ∨ ∃ k, xs = [.bl k] ∧ Q (.int (if k then 1 else 0)) H) dIntF := by
  intro S M H xs ds Qd Q hm r h k
  unfold dIntF at h
  split at h
  · cases r with
    | cons a b => cases b; cases a; exact .inl ⟨_, rfl, k _ _ H h (Same.refl _) (.int _)⟩
  · cases r with
    | cons a b => cases b; cases a; exact .inr ⟨_, rfl, k _ _ H h (Same.refl _) (.int _)⟩
  · exact h.elim
def dInt2 (f : Int → Int → Int) : DRC := fun ds Q => match ds with | [.int i, .int j] => Q (.int (f i j)) | _ => False
def dLen : DRC := fun ds Q => match ds with | [.list xs] => Q (.int xs.length) | [.tuple xs] => Q (.int xs.length) | _ => False
theorem lc_len {K : PySem.W.Frag} : LC (fun xs H Q => ∃ x n, xs = [x] ∧ LenV K x H n ∧ Q (.int n) H) dLen := by
  intro S M H xs ds Qd Q hm r h k
  unfold dLen at h
  split at h
  · cases r with
    | cons a b =>
      cases b
      cases a with
      | lst n e q => exact ⟨_, _, rfl, .inl ⟨_, .inl (.inl e), rfl⟩, by rw [q.length]; exact k _ _ H h (Same.refl _) (.int _)⟩
  · cases r with
    | cons a b =>
      cases b
      cases a with
      | tup n e q => exact ⟨_, _, rfl, .inr ⟨_, .inl (.inl e), rfl⟩, by rw [q.length]; exact k _ _ H h (Same.refl _) (.int _)⟩
  · exact h.elim
def tyN : D → String
  | .none => "NoneType" | .bool _ => "bool" | .int _ => "int" | .str _ => "str" | .list _ => "list" | .tuple _ => "tuple" | .dict _ => "dict"
structure HpC (K : PySem.W.Frag) (C : Addr) : Prop where
  cl : Cls K C
  ha : PySem.W.findIn K (.ref C) "__class__" = some (some (.builtin "object.__class__"))
  hn : PySem.W.specialIn K (.builtin "object.__class__") "__get__" = some (some (.builtin "getset_descriptor.__get__"))
  htk : PySem.W.takesIn K (.builtin "object.__class__") = some true
  hm : PySem.W.mroIn K C (.type "object") = some true
  wt : NoAttr K C "_weights"
  k_int : PySem.W.kitOne K (.ref C) (.type "int") = some false
  k_bool : PySem.W.kitOne K (.ref C) (.type "bool") = some false
  k_tuple : PySem.W.kitOne K (.ref C) (.type "tuple") = some false
  k_list : PySem.W.kitOne K (.ref C) (.type "list") = some false
  k_str : PySem.W.kitOne K (.ref C) (.type "str") = some false
  k_dict : PySem.W.kitOne K (.ref C) (.type "dict") = some false
  k_own : PySem.W.kitOne K (.ref C) (.ref C) = some true
abbrev HpK (K : PySem.W.Frag) : Prop := ∀ C, hpCls = some C → HpC K C
inductive TyY (K : PySem.W.Frag) (H : Hp) : V → Value → Prop where
  | x {x : V} {t : Value} (h : TyX K H x t) : TyY K H x t
  | nd {M : Addr → Prop} {a : Addr} {kvs : List (NestedKey × V)} (h : NdAt M H a kvs) : TyY K H (.ref a) (.type "dict")
def rIsiY (K : PySem.W.Frag) : List V → Hp → VK → Prop := fun xs H Q => ∃ x c t u b, xs = [x, c] ∧ ClsV c u ∧ TyY K H x t ∧ PySem.W.kitOne K t u = some b ∧ Q (.bl b) H
theorem call_isiY {X : Cx} : CallR X (.builtin "isinstance") (rIsiY X.K) := by
  intro pins s σ H xs us Q I r h
  obtain ⟨x, c, t, u, b, rfl, k, ty, e, q⟩ := h
  obtain ⟨u1, u2, rfl, r1, r2⟩ := vals2 r
  have e2 := k.eq r2
  subst e2
  cases ty with
  | x ty =>
    obtain ⟨P, Z, p, hx⟩ := kit_of I r1 ty
    exact PySem.W.kia_one Z I.kIn p e hx fun tk => ⟨.bl b, H, I.tok tk, rfl, q⟩
  | @nd M a kvs n =>
    cases (show u1 = Value.ref a from r1)
    obtain ⟨o, xs, es, ep, ea, x, l, hd⟩ := n
    obtain ⟨h1, _, _⟩ := (show ObjOk X.prog X.w H s.heap a (ndO a o) from I.hok a _ ea)
    exact PySem.W.kia_one PySem.W.kitx_dict I.kIn ⟨o, h1, x.ex.1⟩ e (fun z => nomatch z) fun tk => ⟨.bl b, H, I.tok tk, rfl, q⟩
theorem Dq.tyOf {K : PySem.W.Frag} {S : Sr} {M : Addr → Prop} {H : Hp} {v : V} {d : D} (hK : HpK K) (h : Dq S M H v d) (so : SrcOk S M H) : TyY K H v (.type (tyN d)) ∨ ∃ C kvs, hpCls = some C ∧ d = hpD kvs ∧ TyY K H v (.ref C) := by
  cases h with
  | non => exact .inl (.x (.base .non))
  | bl b => exact .inl (.x (.base (.bl b)))
  | int i => exact .inl (.x (.base (.int i)))
  | str x => exact .inl (.x (.base (.str x)))
  | lst n e q => exact .inl (.x (.base (.lst e)))
  | tup n e q => exact .inl (.x (.base (.tup e)))
  | dic n e => exact .inl (.x (.base (.dK e)))
  | src e =>
    obtain ⟨_, _, _, ns, l, m, t, _, h2⟩ := so.go _ _ e
    exact .inl (.x (.base (.dK h2)))
  | dit n e r => exact .inl (.x (.base (.dT e)))
  | ndt n x => exact .inl (.nd x)
  | @hep C a dx b kvs c n nb e x => exact .inr ⟨C, kvs, c, rfl, .x (.base (.ins e (hK C c).cl (hK C c).ha (hK C c).hn (hK C c).htk (hK C c).hm))⟩
def isTy (T : String) (d : D) : Bool := (tyN d == T) || (T == "int" && tyN d == "bool")
def kitAll (T : String) : Prop := ∀ (K : PySem.W.Frag) (d : D), PySem.W.kitOne K (.type (tyN d)) (.type T) = some (isTy T d)
def dIsi (T : String) (m : DE) : DE := fun σd Q => m σd fun d => Q (.bool (isTy T d))
abbrev HpI (K : PySem.W.Frag) (T : String) : Prop := HpK K ∧ ∀ C, hpCls = some C → PySem.W.kitOne K (.ref C) (.type T) = some false
theorem pd_isi {T : String} {x : Str} {e : Expr} {p pos pt : Pos} {ma : DE} {xT : Str} (hT : kitAll T) (hH : HpI X.K T) (hI : ∀ kvs, isTy T (hpD kvs) = false) (hg : Gl X x) (hm : X.mg x = none) (hv : bootBuiltins x = some (.builtin "isinstance")) (gT : Gl X xT) (mT : X.mg xT = none) (vT : bootBuiltins xT = some (.type T)) (ha : PD X e ma)
    (hn : x ≠ "__name__" := by decide) (hdb : (x == ("__debug__" : Str)) = false := by decide) (hnT : xT ≠ "__name__" := by decide) (hdT : (xT == ("__debug__" : Str)) = false := by decide)
    (hs1 : starEach [e, .Name xT pt] X.env = (false, eval e X.env) :: starEach [.Name xT pt] X.env := by rfl) (hs2 : starEach [.Name xT pt] X.env = (false, eval (.Name xT pt) X.env) :: starEach [] X.env := by rfl)
    (hpl : (backTo pos (starEach [.Name xT pt] X.env)).any (·.1) = false := by rfl) : PD X (.Call (.Name x p) [e, .Name xT pt] [] pos) (dIsi T ma) := by
  obtain ⟨t, h1, l1⟩ := ha
  refine ⟨_, pe_callB call_isiY hg hm hv (pa_cons h1 (pa_cons (pe_bltn (v := .ty T) gT mT vT rfl hnT hdT) pa_nil hs2) hs1) hn hdb hs1 hpl, ?_⟩
  intro S M H0 H σ σd Qd Q E h k
  refine l1 S M H0 H σ σd _ _ E h fun d v H1 q E1 k1 r1 => ?_
  have so : SrcOk S (MO M σd) H1 := E1.srcO
  rcases r1.tyOf hH.1 so with y | ⟨C, kvs, c, z, y⟩
  · exact ⟨v, .ty T, _, _, isTy T d, rfl, .ty T, y, hT X.K d, k _ _ H1 q E1 k1 (.bl _)⟩
  · subst z
    exact ⟨v, .ty T, _, _, false, rfl, .ty T, y, hH.2 C c, k _ _ H1 (by rw [hI] at q; exact q) E1 k1 (.bl _)⟩
theorem HpK.int {K : PySem.W.Frag} (h : HpK K) : HpI K "int" := ⟨h, fun C c => (h C c).k_int⟩
theorem HpK.bool {K : PySem.W.Frag} (h : HpK K) : HpI K "bool" := ⟨h, fun C c => (h C c).k_bool⟩
theorem HpK.tuple {K : PySem.W.Frag} (h : HpK K) : HpI K "tuple" := ⟨h, fun C c => (h C c).k_tuple⟩
theorem HpK.list {K : PySem.W.Frag} (h : HpK K) : HpI K "list" := ⟨h, fun C c => (h C c).k_list⟩
theorem HpK.str {K : PySem.W.Frag} (h : HpK K) : HpI K "str" := ⟨h, fun C c => (h C c).k_str⟩
theorem kit_int : kitAll "int" := fun K d => by cases d <;> exact (by with_unfolding_all rfl)
theorem kit_bool : kitAll "bool" := fun K d => by cases d <;> exact (by with_unfolding_all rfl)
theorem kit_tuple : kitAll "tuple" := fun K d => by cases d <;> exact (by with_unfolding_all rfl)
end
end PH

namespace PH
open PySem PySem.Spec L2
open PyProof.Rows (envOfC)
variable {Wx : WX}
open Classical in
noncomputable def less (H : Hp) (σd : DSt) : Hp := fun a => if ∃ ds, Sl.own a ds ∈ σd then none else H a
theorem less_own {H : Hp} {σd : DSt} {a : Addr} {ds : List D} (h : Sl.own a ds ∈ σd) : less H σd a = none := if_pos ⟨ds, h⟩
theorem less_ne {H : Hp} {σd : DSt} {a : Addr} (h : ¬ ∃ ds, Sl.own a ds ∈ σd) : less H σd a = H a := if_neg h
theorem less_some {H : Hp} {σd : DSt} {a : Addr} {o : HO} (h : less H σd a = some o) : H a = some o ∧ ¬ ∃ ds, Sl.own a ds ∈ σd := by
  by_cases z : ∃ ds, Sl.own a ds ∈ σd
  · rw [less, if_pos z] at h; cases h
  · rw [less_ne z] at h; exact ⟨h, z⟩
section
variable {S : Sr} {M : Addr → Prop} {H0 H H' : Hp} {σ σ' : L2.St} {σd σd' : DSt}
theorem Ev.ownM (E : Ev S M H0 H σ σd) {a : Addr} {ds : List D} (h : Sl.own a ds ∈ σd) : ¬ M a := fun z => E.mt0 a z (E.new a ds h)
theorem Ev.based (E : Ev S M H0 H σ σd) : Ev S M (less H σd) H σ σd where
  len := E.len
  sl := E.sl
  uni := E.uni
  new := fun a ds h => less_own h
  src := E.src
  src0 := fun p c e => by
    obtain ⟨hp, hc, _, ns, l, m, t, h1, h2⟩ := E.src.go p c e
    rw [less_ne fun ⟨ds, z⟩ => E.ownM z hp, less_ne fun ⟨ds, z⟩ => E.ownM z hc, h1, h2]
    exact ⟨fun z => (nomatch z), fun z => (nomatch z)⟩
  keep := fun a o e _ => .inl (less_some e).1
  mt := E.mt
  mt0 := fun a h => by rw [less_ne fun ⟨ds, z⟩ => E.ownM z h]; exact E.mt a h
theorem Ev.unbased (E : Ev S M H0 H σ σd) (E' : Ev S M (less H σd) H' σ' σd') : Ev S M H0 H' σ' σd' where
  len := E'.len
  sl := E'.sl
  uni := E'.uni
  new := fun a ds h => by
    have z := E'.new a ds h
    by_cases y : ∃ es, Sl.own a es ∈ σd
    · obtain ⟨es, y⟩ := y; exact E.new a es y
    · rw [less_ne y] at z
      cases q : H0 a with
      | none => rfl
      | some o =>
        by_cases w : ∃ p c, S = some (p, c) ∧ (a = p ∨ a = c)
        · obtain ⟨p, c, e, w⟩ := w
          obtain ⟨hp, hc, _⟩ := E.src.go p c e
          rcases w with w | w
          · exact absurd z (w ▸ E.mt p hp)
          · exact absurd z (w ▸ E.mt c hc)
        · exact absurd z (E.keep.nn (by rw [q]; exact fun y => nomatch y) fun p c e => ⟨fun y => w ⟨p, c, e, .inl y⟩, fun y => w ⟨p, c, e, .inr y⟩⟩)
  src := E'.src
  src0 := E.src0
  keep := fun a o e n => by
    have l : less H σd a = H a := less_ne (fun ⟨ds, z⟩ => absurd (E.new a ds z) (by rw [e]; exact fun y => (nomatch y)))
    rcases E.keep a o e n with q | ⟨ps, ps', q1, q2⟩
    · exact E'.keep a o (by rw [l, q]) n
    · rcases E'.keep a _ (by rw [l, q2]) n with q | ⟨_, qs, _, q⟩
      · exact .inr ⟨ps, ps', q1, q⟩
      · exact .inr ⟨ps, qs, q1, q⟩
  mt := E'.mt
  mt0 := E.mt0
theorem Ev.unKeep (E : Ev S M H0 H σ σd) (E' : Ev S M (less H σd) H' σ' σd') {a : Addr} {o : HO} (n : ¬ MO M σd a) (e : H a = some o) : H' a = some o ∨ ∃ ps ps', o = .tbl ps ∧ H' a = some (.tbl ps') :=
  E'.keep a o (by rw [less_ne fun ⟨ds, z⟩ => n (.inr ⟨ds, z⟩), e]) fun p c q => by
    obtain ⟨hp, hc, _⟩ := E.src.go p c q
    exact ⟨fun z => n (.inl (z ▸ hp)), fun z => n (.inl (z ▸ hc))⟩
theorem Ev.ownOld (E : Ev S M H0 H σ σd) (E' : Ev S M (less H σd) H' σ' σd') {a : Addr} {o : HO} (n : ¬ MO M σd a) (e : H a = some o) : ¬ MO M σd' a := fun z => by
  rcases z with z | ⟨ds, z⟩
  · exact n (.inl z)
  · have q := E'.new a ds z
    rw [less_ne fun ⟨es, y⟩ => n (.inr ⟨es, y⟩), e] at q
    cases q
theorem Ev.own (E : Ev S M H0 H σ σd) {i : Nat} {p : Addr} {xs : List V} {ds : List D} {Hb : Hp} (Eb : Ev S M H0 Hb σ σd) (kb : KeepS S Hb H) (hp : Hb p = none) (e : H p = some (.lst xs)) (r : Dqs S (fun a => MO M σd a ∨ a = p) H xs ds) :
    Ev S M H0 H (σ.set i (some (.ref p))) (σd.set i (Sl.own p ds)) := by
  have np0 : H0 p = none := by
    cases q : H0 p with
    | none => rfl
    | some o =>
      by_cases w : ∃ p' c', S = some (p', c') ∧ (p = p' ∨ p = c')
      · obtain ⟨p', c', z, w⟩ := w
        obtain ⟨h1, h2, _⟩ := Eb.src.go p' c' z
        rcases w with w | w
        · exact absurd hp (w ▸ Eb.mt p' h1)
        · exact absurd hp (w ▸ Eb.mt c' h2)
      · exact absurd hp (Eb.keep.nn (by rw [q]; exact fun y => nomatch y) fun p' c' z => ⟨fun y => w ⟨p', c', z, .inl y⟩, fun y => w ⟨p', c', z, .inr y⟩⟩)
  have nM : ¬ M p := fun z => E.mt0 p z np0
  have nO : ∀ es, Sl.own p es ∉ σd := fun es z => by
    obtain ⟨j, hj⟩ := List.getElem?_of_mem z
    obtain ⟨o, _, _, ys, q, _⟩ := Eb.slot hj
    rw [hp] at q; cases q
  have sub : ∀ a, MO M (σd.set i (Sl.own p ds)) a → MO M σd a ∨ a = p := fun a h => by
    rcases h with h | ⟨es, h⟩
    · exact .inl (.inl h)
    · rcases List.mem_or_eq_of_mem_set h with h | h
      · exact .inl (.inr ⟨es, h⟩)
      · cases h; exact .inr rfl
  -- what stood in the slots does not lead to p
  have g : ∀ a o, ¬ MO M σd a → Hb a = some o → ¬ MO M (σd.set i (Sl.own p ds)) a ∧ (H a = some o ∨ ∃ ps ps', o = .tbl ps ∧ H a = some (.tbl ps')) := fun a o n e' => by
    obtain ⟨_, h2⟩ := Eb.kp kb a o n e'
    exact ⟨fun z => (sub a z).elim n fun y => ne_of_none e' hp y, h2⟩
  have ow : ∀ {j : Nat} {a : Addr} {es : List D}, (σd.set i (Sl.own p ds))[j]? = some (Sl.own a es) → (σd[j]? = some (Sl.own a es) ∧ i ≠ j) ∨ (j = i ∧ a = p) := fun {j a es} h => by
    rw [List.getElem?_set] at h
    by_cases hj : i = j
    · rw [if_pos hj] at h
      split at h
      · cases h; exact .inr ⟨hj.symm, rfl⟩
      · cases h
    · rw [if_neg hj] at h; exact .inl ⟨h, hj⟩
  refine ⟨by rw [List.length_set, List.length_set]; exact E.len, fun j o s h1 h2 => ?_, fun j k a es fs h1 h2 => ?_, fun a es h => ?_, E.src, E.src0, E.keep, E.mt, E.mt0⟩
  · rw [List.getElem?_set] at h1 h2
    by_cases hj : i = j
    · rw [if_pos hj] at h1 h2
      split at h1
      · split at h2
        · cases h1; cases h2
          exact ⟨rfl, xs, e, r.go fun a o n e => ⟨fun z => n (sub a z), e⟩⟩
        · cases h2
      · cases h1
    · rw [if_neg hj] at h1 h2
      have z := Eb.sl j o s h1 h2
      cases s with
      | emp => trivial
      | val d => obtain ⟨w, e', q⟩ := z; exact ⟨w, e', q.goT g⟩
      | fn d => exact FnR.goT z g
      | raw v => exact z
      | own a es =>
        obtain ⟨e', ys, h, q⟩ := z
        exact ⟨e', ys, kb.k a _ h (Eb.ownNe (List.mem_of_getElem? h2)), q.goT g⟩
  · rcases ow h1 with h1 | ⟨h1, q1⟩
    · rcases ow h2 with h2 | ⟨h2, q2⟩
      · exact E.uni j k a es fs h1.1 h2.1
      · exact absurd (List.mem_of_getElem? h1.1) (q2 ▸ nO es)
    · rcases ow h2 with h2 | ⟨h2, q2⟩
      · exact absurd (List.mem_of_getElem? h2.1) (q1 ▸ nO fs)
      · rw [h1, h2]
  · rcases List.mem_or_eq_of_mem_set h with h | h
    · exact E.new a es h
    · cases h; exact np0
theorem ls_own {t : TE} {m : DA} {i : Nat} (h : LN t m) : LS Wx (tAsg t (gName i)) (dOwn i m) := by
  intro S M H0 H σ σd Dd Dn E hm r
  refine h S M H0 H σ σd _ _ E hm fun ds p xs H' q E' k hp e rr => ?_
  exact r.1 _ _ _ (q p) (E'.own (i := i) E k hp e rr)
theorem Ev.upd (E : Ev S M H0 H σ σd) {i : Nat} {a : Addr} {ds es : List D} {ys : List V} (h : σd[i]? = some (Sl.own a ds)) (r : Dqs S (MO M σd) H ys es) : Ev S M H0 (upd H a (.lst ys)) σ (σd.set i (Sl.own a es)) := by
  have hi : i < σd.length := (List.getElem?_eq_some_iff.mp h).1
  have hm := List.mem_of_getElem? h
  have own : MO M σd a := .inr ⟨ds, hm⟩
  have eqM : ∀ b, MO M (σd.set i (Sl.own a es)) b → MO M σd b := fun b z => by
    rcases z with z | ⟨fs, z⟩
    · exact .inl z
    · rcases List.mem_or_eq_of_mem_set z with z | z
      · exact .inr ⟨fs, z⟩
      · cases z; exact own
  have g : ∀ b o, ¬ MO M σd b → H b = some o → ¬ MO M (σd.set i (Sl.own a es)) b ∧ L2.upd H a (.lst ys) b = some o := fun b o n e =>
    ⟨fun z => n (eqM b z), by rw [upd_ne (fun z : b = a => n (by rw [z]; exact own))]; exact e⟩
  have nsrc := E.ownNe hm
  have ow : ∀ {j : Nat} {b : Addr} {fs : List D}, (σd.set i (Sl.own a es))[j]? = some (Sl.own b fs) → (σd[j]? = some (Sl.own b fs) ∧ i ≠ j) ∨ (j = i ∧ b = a) := fun {j b fs} h => by
    rw [List.getElem?_set] at h
    by_cases hj : i = j
    · rw [if_pos hj, if_pos hi] at h
      cases h; exact .inr ⟨hj.symm, rfl⟩
    · rw [if_neg hj] at h; exact .inl ⟨h, hj⟩
  have src' : SrcOk S M (L2.upd H a (.lst ys)) := ⟨fun p c e => by
    obtain ⟨h1, h2, h3, ns, l, m, t, h4, h5⟩ := E.src.go p c e
    exact ⟨h1, h2, h3, ns, l, m, t, by rw [upd_ne (nsrc p c e).2.symm]; exact h4, by rw [upd_ne (nsrc p c e).1.symm]; exact h5⟩, by
    obtain ⟨_, _, _, xs, e0, _⟩ := E.slot h
    exact tabs_upd E.src.tab e0, fun a z => (E.src.nt a z).upd⟩
  refine ⟨by rw [List.length_set]; exact E.len, fun j o s h1 h2 => ?_, fun j k b fs gs h1 h2 => ?_, fun b fs z => ?_, src', E.src0, fun b o e n => ?_, fun b z => ?_, E.mt0⟩
  · rw [List.getElem?_set] at h2
    by_cases hj : i = j
    · rw [if_pos hj, if_pos (hj ▸ hi)] at h2
      cases h2
      subst hj
      obtain ⟨e, _⟩ := E.sl i o _ h1 h
      exact ⟨e, ys, upd_same, r.go g⟩
    · rw [if_neg hj] at h2
      have z := E.sl j o s h1 h2
      cases s with
      | emp => trivial
      | val d => obtain ⟨w, e', q⟩ := z; exact ⟨w, e', q.go g⟩
      | fn d => exact FnR.go z g
      | raw v => exact z
      | own b fs =>
        obtain ⟨e', xs, h', q⟩ := z
        have nb : b ≠ a := fun y => by
          subst y
          exact hj (E.uni i j b ds fs h h2)
        exact ⟨e', xs, by rw [upd_ne nb]; exact h', q.go g⟩
  · rcases ow h1 with ⟨h3, h4⟩ | ⟨h3, q1⟩
    · rcases ow h2 with ⟨h5, h6⟩ | ⟨h5, q2⟩
      · exact E.uni j k b fs gs h3 h5
      · exact absurd (E.uni i j a ds fs h (q2 ▸ h3)) h4
    · rcases ow h2 with ⟨h5, h6⟩ | ⟨h5, q2⟩
      · exact absurd (E.uni i k a ds gs h (q1 ▸ h5)) h6
      · rw [h3, h5]
  · rcases List.mem_or_eq_of_mem_set z with z | z
    · exact E.new b fs z
    · cases z; exact E.new a ds hm
  · rw [upd_ne fun y => ?_]
    · exact E.keep b o e n
    · subst y; rw [E.new b ds hm] at e; cases e
  · by_cases y : b = a
    · subst y; exact absurd z (E.ownM hm)
    · rw [upd_ne y]; exact E.mt b z
end
end PH

namespace PH
open PySem PySem.Spec L2
open PyProof.Rows (envOfC)
variable {Wx : WX}
def tOfE (m : DE) : TE := fun σ H Q => ∃ (S : Sr) (M : Addr → Prop) (H0 : Hp) (σd : DSt) (Qd : D → Prop), Ev S M H0 H σ σd ∧ m σd Qd ∧ ∀ d v H', Qd d → Ev S M H0 H' σ σd → KeepS S H H' → Dq S (MO M σd) H' v d → Q v H'
def tOfT (m : DT) : TT := fun σ H Q => ∃ (S : Sr) (M : Addr → Prop) (H0 : Hp) (σd : DSt) (Qd : Bool → Prop), Ev S M H0 H σ σd ∧ m σd Qd ∧ ∀ b H', Qd b → Ev S M H0 H' σ σd → KeepS S H H' → Q b H'
theorem le_of {m : DE} : LE (tOfE m) m := fun S M H0 H σ σd Qd Q E h k => ⟨S, M, H0, σd, Qd, E, h, k⟩
theorem lt_ofT {m : DT} : LT (tOfT m) m := fun S M H0 H σ σd Qd Q E h k => ⟨S, M, H0, σd, Qd, E, h, k⟩
theorem PD.pe {X : Cx} {e : Expr} {m : DE} (h : PD X e m) : PE X e (tOfE m) := by
  obtain ⟨t, p, l⟩ := h
  exact ⟨fun pins s σ H Q I ⟨S, M, H0, σd, Qd, E, q, k⟩ => p.run pins s σ H Q I (l S M H0 H σ σd Qd Q E q k)⟩
theorem PDT.pt {X : Cx} {e : Expr} {m : DT} (h : PDT X e m) : PT X e (tOfT m) := by
  obtain ⟨t, p, l⟩ := h
  exact ⟨fun pins s σ H Q I ⟨S, M, H0, σd, Qd, E, q, k⟩ => p.run pins s σ H Q I (l S M H0 H σ σd Qd Q E q k)⟩
def Stands (M : Addr → Prop) (H1 H : Hp) : Prop := ∀ a o, ¬ M a → H1 a = some o → H a = some o ∨ ∃ ps ps', o = .tbl ps ∧ H a = some (.tbl ps')
theorem Stands.k {M : Addr → Prop} {H1 H : Hp} (st : Stands M H1 H) (a : Addr) (o : HO) (n : ¬ M a) (e : H1 a = some o) (h : ∀ ps, o ≠ .tbl ps := by intro _ z; cases z) : H a = some o := (st a o n e).resolve_right fun ⟨ps, _, z, _⟩ => h ps z
structure Wk (S : Sr) (M : Addr → Prop) (H1 : Hp) (J : It) (ys : List D) : Prop where
  ex : ∃ (G : Hp → Prop) (Y : Nat → Hp → V → Hp → Prop), Walk J ys.length G Y ∧ (∀ H, Stands M H1 H → G H) ∧ ∀ i H x H', i < ys.length → Stands M H1 H → Y i H x H' →
    Same H H' ∧ ∀ M' : Addr → Prop, (∀ a, M' a → H a ≠ none) → (∀ a o, ¬ M a → H1 a = some o → ¬ M' a) → ∃ d, ys[i]? = some d ∧ Dq S M' H' x d
def LI (wi : TI) (mi : DA) : Prop := ∀ (S : Sr) (M : Addr → Prop) (H0 H : Hp) (σ : L2.St) (σd : DSt) (Qd : List D → Prop) (R : It → Hp → Prop), Ev S M H0 H σ σd → mi σd Qd →
  (∀ ys J H1, Qd ys → Ev S M H0 H1 σ σd → KeepS S H H1 → Wk S (MO M σd) H1 J ys → R J H1) → wi σ H R
theorem wk_list {K : PySem.W.Frag} {S : Sr} {M : Addr → Prop} {H : Hp} {a : Addr} {xs : List V} {ds : List D} (na : ¬ M a) (e : H a = some (.lst xs)) (r : Dqs S M H xs ds) : Wk S M H (Itl K a) ds := by
  refine ⟨fun H => SqL K H a xs, YAt xs, (by rw [← r.length]; exact walk_list (K := K) (a := a) (xs := xs)), fun H2 st => Or.inl (Or.inl (st.k a _ na e)), fun i H2 x H3 hi st y => ?_⟩
  obtain ⟨e3, hx⟩ := y
  subst e3
  refine ⟨Same.refl _, fun M' _ hM => ?_⟩
  obtain ⟨d, hd, q⟩ := r.getV hx
  exact ⟨d, hd, q.goT fun b o n eb => ⟨hM b o n eb, st b o n eb⟩⟩
theorem wk_tup {K : PySem.W.Frag} {S : Sr} {M : Addr → Prop} {H : Hp} {a : Addr} {xs : List V} {ds : List D} (na : ¬ M a) (e : H a = some (.tup xs)) (r : Dqs S M H xs ds) : Wk S M H (Itt K a) ds := by
  refine ⟨fun H => SqT K H a xs, YAt xs, (by rw [← r.length]; exact walk_tup (K := K) (a := a) (xs := xs)), fun H2 st => Or.inl (Or.inl (st.k a _ na e)), fun i H2 x H3 hi st y => ?_⟩
  obtain ⟨e3, hx⟩ := y
  subst e3
  refine ⟨Same.refl _, fun M' _ hM => ?_⟩
  obtain ⟨d, hd, q⟩ := r.getV hx
  exact ⟨d, hd, q.goT fun b o n eb => ⟨hM b o n eb, st b o n eb⟩⟩
def intsD (lo : Int) (n : Nat) : List D := (List.range n).map fun i : Nat => PyData.int (lo + (i : Int))
theorem wk_rng {S : Sr} {M : Addr → Prop} {H : Hp} {lo : Int} {n : Nat} : Wk S M H (Itr lo n) (intsD lo n) := by
  have hl : (intsD lo n).length = n := by simp [intsD]
  refine ⟨_, _, (by rw [hl]; exact walk_range), fun _ _ => trivial, fun i H2 x H3 hi st y => ?_⟩
  obtain ⟨e3, hx⟩ := y
  subst e3
  rw [hl] at hi
  exact ⟨Same.refl _, fun M' _ _ => ⟨.int (lo + i), by simp [intsD, hi], hx ▸ .int _⟩⟩
def dItL (m : DE) : DA := fun σd Q => m σd fun d => match d with | .list ds => Q ds | _ => False
def dItT (m : DE) : DA := fun σd Q => m σd fun d => match d with | .tuple ds => Q ds | _ => False
theorem li_list {K : PySem.W.Frag} {t : TE} {m : DE} (h : LE t m) : LI (iList K t) (dItL m) := by
  intro S M H0 H σ σd Qd R E hm k
  refine h S M H0 H σ σd _ _ E hm fun d v H1 q E1 k1 r1 => ?_
  cases r1 <;> first | exact q.elim | skip
  rename_i a xs ds na e r
  exact ⟨a, rfl, ⟨xs, .inl (.inl e)⟩, k _ _ H1 q E1 k1 (wk_list na e r)⟩
theorem li_tup {K : PySem.W.Frag} {t : TE} {m : DE} (h : LE t m) : LI (iTup K t) (dItT m) := by
  intro S M H0 H σ σd Qd R E hm k
  refine h S M H0 H σ σd _ _ E hm fun d v H1 q E1 k1 r1 => ?_
  cases r1 <;> first | exact q.elim | skip
  rename_i a xs ds na e r
  exact ⟨a, rfl, ⟨xs, .inl (.inl e)⟩, k _ _ H1 q E1 k1 (wk_tup na e r)⟩
def dRng1 (m : DA) : DA := fun σd Q => m σd fun ds => match ds with | [.int j] => (-(2 ^ 62) ≤ j ∧ j < 2 ^ 62) ∧ Q (intsD 0 j.toNat) | _ => False
theorem li_rng1 {n : Nat} {t : TA} {m : DA} (h : LA n t m) : LI (iRng1 t) (dRng1 m) := by
  intro S M H0 H σ σd Qd R E hm k
  refine h S M H0 H σ σd _ _ E hm fun ds vs H1 q E1 k1 r1 _ => ?_
  split at q
  · cases r1 with
    | cons a b =>
      cases b; cases a
      exact ⟨_, rfl, q.1.1, q.1.2, k _ _ H1 q.2 E1 k1 wk_rng⟩
  · exact q.elim
def zipD (xs ys : List D) : List D := List.zipWith (fun x y => .tuple [x, y]) xs ys
def dZip (m : DA) : DA := fun σd Q => m σd fun ds => match ds with | [.list xs, .list ys] => Q (zipD xs ys) | _ => False
def dFor (mi : DA) (g : DG) (mb : DS) : DS := fun Dd σd => mi σd fun ys => ∃ W : Nat → DSt → Prop, W 0 σd ∧ (∀ i y σ', ys[i]? = some y → W i σ' → g y σ' fun σ2 => mb { Dd with nx := W (i + 1), ct := W (i + 1), bk := Dd.nx } σ2) ∧ ∀ σ', W ys.length σ' → Dd.nx σ'
theorem keep_unless {S : Sr} {M : Addr → Prop} {H0 H H' : Hp} {σ : L2.St} {σd : DSt} (E : Ev S M H0 H σ σd) (k : KeepS S (less H σd) H') : KeepS S H0 H' := fun a o e n => by
  have l : less H σd a = H a := less_ne (fun ⟨ds, z⟩ => absurd (E.new a ds z) (by rw [e]; exact fun y => (nomatch y)))
  rcases E.keep a o e n with q | ⟨ps, ps', q1, q2⟩
  · exact k a o (by rw [l, q]) n
  · rcases k a _ (by rw [l, q2]) n with q | ⟨_, qs, _, q⟩
    · exact .inr ⟨ps, ps', q1, q⟩
    · exact .inr ⟨ps, qs, q1, q⟩
theorem ls_for {wi : TI} {g : TG} {tb : TS} {mi : DA} {dg : DG} {mb : DS} (hi : LI wi mi) (hg : LG g dg) (hb : LS Wx tb mb) : LS Wx (tFor wi g tb) (dFor mi dg mb) := by
  intro S M H0 H σ σd Dd Dn E hm r
  refine hi S M H0 H σ σd _ _ E hm fun ys J H1 q E1 k1 wk => ?_
  obtain ⟨G, Y, w, hG, hY⟩ := wk.ex
  obtain ⟨W, w0, wt, wd⟩ := q
  have st : ∀ {H2 σ' σd'}, Ev S M (less H1 σd) H2 σ' σd' → Stands (MO M σd) H1 H2 := fun E2 a o n e => E1.unKeep E2 n e
  refine for_it w (fun i σ' H2 => ∃ σd', W i σd' ∧ Ev S M (less H1 σd) H2 σ' σd') ⟨σd, w0, E1.based⟩ (fun i σ' H2 _ ⟨σd', _, E2⟩ => hG H2 (st E2)) ?_ ?_
  · rintro i x σ' H2 H3 hi' ⟨σd', wi', E2⟩ y
    obtain ⟨sm, hd⟩ := hY i H2 x H3 hi' (st E2) y
    have E3 := E2.same sm
    obtain ⟨d, hd1, hd2⟩ := hd (MO M σd') E2.mtO fun a o n e => E1.ownOld E2 n e
    refine hg S M (less H1 σd) H3 σ' σd' x d _ _ E3 hd2 (wt i d σd' hd1 wi') fun σd2 σ2 q2 E4 => ?_
    refine hb S M (less H1 σd) H3 σ2 σd2 _ _ E4 q2 ⟨fun a b c q E => ⟨a, q, E⟩, fun d v H' q k s m r' => r.2.1 d v H' q (keep_unless E1 k) s m r', fun a b c q E => r.1 a b c q (E1.unbased E), fun a b c q E => ⟨a, q, E⟩, fun e a b c q E => r.2.2.2.2 e a b c q (E1.unbased E)⟩
  · rintro σ' H2 ⟨σd', w', E2⟩
    exact r.1 _ _ _ (wd σd' w') (E1.unbased E2)
def Sets (g : TG) (vs : List Nat) : Prop := ∀ (v : V) (σ : L2.St) (H : Hp) (Q Q' : L2.St → Hp → Prop), g v σ H Q → (∀ σ' H', Q σ' H' → wipe σ' vs = wipe σ vs → Q' σ' H') → g v σ H Q'
def SetsS (g : TGs) (vs : List Nat) : Prop := ∀ (us : List V) (σ : L2.St) (H : Hp) (Q Q' : L2.St → Hp → Prop), g us σ H Q → (∀ σ' H', Q σ' H' → wipe σ' vs = wipe σ vs → Q' σ' H') → g us σ H Q'
theorem wipe_set {i : Nat} {x : Option V} : ∀ {vs : List Nat} (σ : L2.St), i ∈ vs → wipe (σ.set i x) vs = wipe σ vs
  | [], σ, h => by simp at h
  | v :: vs, σ, h => by
    unfold wipe
    by_cases e : v = i
    · subst e
      by_cases hm : v ∈ vs
      · rw [wipe_set σ hm]
      · have c : wipe (σ.set v x) vs = (wipe σ vs).set v x := by
          clear h
          induction vs with
          | nil => rfl
          | cons u us ih =>
            simp only [List.mem_cons, not_or] at hm
            show (wipe (σ.set v x) us).set u none = ((wipe σ us).set u none).set v x
            rw [ih hm.2, List.set_comm _ _ hm.1]
        rw [c, List.set_set]
    · rw [wipe_set σ ((List.mem_cons.mp h).resolve_left fun z => e z.symm)]
theorem wipe_wipe {vs : List Nat} (σ : L2.St) : ∀ {us : List Nat}, (∀ u ∈ us, u ∈ vs) → wipe (wipe σ us) vs = wipe σ vs
  | [], _ => rfl
  | u :: us, h => by
    show wipe ((wipe σ us).set u none) vs = _
    rw [wipe_set _ (h u (by simp)), wipe_wipe σ fun x hx => h x (by simp [hx])]
theorem sets_name {i : Nat} {vs : List Nat} (h : i ∈ vs) : Sets (gName i) vs := fun v σ H Q Q' q k => k _ _ q (wipe_set σ h)
theorem sets_nil {vs : List Nat} : SetsS gNil vs := fun us σ H Q Q' q k => ⟨q.1, k _ _ q.2 rfl⟩
theorem sets_cons {gs : TGs} {vs : List Nat} {i : Nat} (hi : i ∈ vs) (h : SetsS gs vs) : SetsS (gCons (gName i) gs) vs := by
  rintro us σ H Q Q' ⟨v, r, e, q⟩ k
  refine ⟨v, r, e, ?_⟩
  exact h r (σ.set i (some v)) H Q Q' q fun σ' H' q' z => k σ' H' q' (z.trans (wipe_set σ hi))
theorem sets_tup {K : PySem.W.Frag} {n : Nat} {gs : TGs} {vs : List Nat} (h : SetsS gs vs) : Sets (gTup K n gs) vs := fun v σ H Q Q' ⟨a, xs, e, s, l, q⟩ k => ⟨a, xs, e, s, l, h xs σ H Q Q' q k⟩
def dwipe (σd : DSt) : List Nat → DSt
  | [] => σd
  | v :: vs => (dwipe σd vs).set v .emp
theorem Ev.drop {S : Sr} {M : Addr → Prop} {H0 H : Hp} {σ : L2.St} {σd : DSt} (E : Ev S M H0 H σ σd) (i : Nat) : Ev S M H0 H (σ.set i none) (σd.set i .emp) := by
  have sub : ∀ a, MO M (σd.set i .emp) a → MO M σd a := fun a h => by
    rcases h with h | ⟨ds, h⟩
    · exact .inl h
    · rcases List.mem_or_eq_of_mem_set h with h | h
      · exact .inr ⟨ds, h⟩
      · cases h
  have g : ∀ a o, ¬ MO M σd a → H a = some o → ¬ MO M (σd.set i .emp) a ∧ H a = some o := fun a o n e => ⟨fun z => n (sub a z), e⟩
  have ow : ∀ {j : Nat} {a : Addr} {ds : List D}, (σd.set i .emp)[j]? = some (Sl.own a ds) → σd[j]? = some (Sl.own a ds) := fun {j a ds} h => by
    rw [List.getElem?_set] at h
    split at h
    · first
        | cases h
        | (split at h <;> cases h)
    · exact h
  refine ⟨by rw [List.length_set, List.length_set]; exact E.len, fun j o s h1 h2 => ?_, fun j k a ds es h1 h2 => E.uni j k a ds es (ow h1) (ow h2), fun a ds h => ?_, E.src, E.src0, E.keep, E.mt, E.mt0⟩
  · rw [List.getElem?_set] at h1 h2
    by_cases hj : i = j
    · rw [if_pos hj] at h1 h2
      split at h2
      · cases h2; trivial
      · cases h2
    · rw [if_neg hj] at h1 h2
      have z := E.sl j o s h1 h2
      cases s with
      | emp => trivial
      | val d => obtain ⟨w, e, q⟩ := z; exact ⟨w, e, q.go g⟩
      | fn d => exact FnR.go z g
      | raw v => exact z
      | own a ds => obtain ⟨e, xs, h, q⟩ := z; exact ⟨e, xs, h, q.go g⟩
  · rcases List.mem_or_eq_of_mem_set h with h | h
    · exact E.new a ds h
    · cases h
theorem Ev.wipe {S : Sr} {M : Addr → Prop} {H0 H : Hp} {σ : L2.St} {σd : DSt} (E : Ev S M H0 H σ σd) : ∀ vs, Ev S M H0 H (L2.wipe σ vs) (dwipe σd vs)
  | [] => E
  | v :: vs => (E.wipe vs).drop v
end PH

namespace PH
open PySem PySem.Spec L2
open PyProof.Rows (envOfC)
section
variable {S : Sr} {M M' : Addr → Prop} {H0 H H1 H2 : Hp} {σ : L2.St} {σd : DSt}
theorem Ev.remakeT (E : Ev S M H0 H1 σ σd) (g : ∀ a o, ¬ MO M σd a → H1 a = some o → ¬ MO M' σd a ∧ (H2 a = some o ∨ ∃ ps ps', o = .tbl ps ∧ H2 a = some (.tbl ps'))) (ho : ∀ a ds, Sl.own a ds ∈ σd → H2 a = H1 a ∧ ¬ M' a)
    (src : SrcOk S M' H2) (mt : ∀ a, M' a → H2 a ≠ none) : Ev S M' (less H2 σd) H2 σ σd := by
  have no : ∀ a, M' a → ¬ ∃ ds, Sl.own a ds ∈ σd := fun a h ⟨ds, z⟩ => (ho a ds z).2 h
  refine ⟨E.len, fun i o s h1 h2 => ?_, E.uni, fun a ds h => less_own h, src, fun p c e => ?_, fun a o e _ => .inl (less_some e).1, mt, fun a h => ?_⟩
  · have z := E.sl i o s h1 h2
    cases s with
    | emp => trivial
    | val d => obtain ⟨w, e, q⟩ := z; exact ⟨w, e, q.goT g⟩
    | fn d => exact FnR.goT z g
    | raw v => exact z
    | own a ds => obtain ⟨e, xs, h, q⟩ := z; exact ⟨e, xs, by rw [(ho a ds (List.mem_of_getElem? h2)).1]; exact h, q.goT g⟩
  · obtain ⟨h1, h2, _⟩ := src.go p c e
    exact ⟨by rw [less_ne (no p h1)]; exact mt p h1, by rw [less_ne (no c h2)]; exact mt c h2⟩
  · rw [less_ne (no a h)]; exact mt a h
theorem Ev.remake (E : Ev S M H0 H1 σ σd) (g : ∀ a o, ¬ MO M σd a → H1 a = some o → ¬ MO M' σd a ∧ H2 a = some o) (ho : ∀ a ds, Sl.own a ds ∈ σd → H2 a = H1 a ∧ ¬ M' a)
    (src : SrcOk S M' H2) (mt : ∀ a, M' a → H2 a ≠ none) : Ev S M' (less H2 σd) H2 σ σd := E.remakeT (fun a o n e => ⟨(g a o n e).1, .inl (g a o n e).2⟩) ho src mt
def Sl.clean : Sl → Sl
  | .own _ _ => .emp
  | s => s
def clean (σd : DSt) : DSt := σd.map Sl.clean
theorem clean_no {a : Addr} {ds : List D} : Sl.own a ds ∉ clean σd := fun h => by
  obtain ⟨s, _, e⟩ := List.mem_map.mp h
  cases s <;> cases e
theorem MO_clean {M : Addr → Prop} {a : Addr} : MO M (clean σd) a ↔ M a := ⟨fun h => h.elim id fun ⟨ds, z⟩ => absurd z clean_no, .inl⟩
theorem Ev.clean (E : Ev S M H0 H σ σd) : Ev S (MO M σd) (fun a => H a) H σ (PH.clean σd) := by
  have src : SrcOk S (MO M σd) H := E.srcO
  refine ⟨by unfold PH.clean; rw [List.length_map]; exact E.len, fun i o s h1 h2 => ?_, fun i j a ds es h1 _ => absurd (List.mem_of_getElem? h1) clean_no, fun a ds h => absurd h clean_no, src, fun p c e => ?_, .refl, E.mtO, E.mtO⟩
  · unfold PH.clean at h2
    rw [List.getElem?_map] at h2
    cases q : σd[i]? with
    | none => rw [q] at h2; cases h2
    | some s' =>
      rw [q] at h2
      have z := E.sl i o s' h1 q
      cases s' with
      | emp => cases h2; trivial
      | own a ds => cases h2; trivial
      | fn d => cases h2; exact FnR.go z fun a o n e => ⟨fun y => n (MO_clean.mp y), e⟩
      | raw v => cases h2; exact z
      | val d =>
        cases h2
        obtain ⟨v, e, r⟩ := z
        exact ⟨v, e, r.go fun a o n e => ⟨fun y => n (MO_clean.mp y), e⟩⟩
  · obtain ⟨h1, h2, _⟩ := src.go p c e
    exact ⟨E.mtO p h1, E.mtO c h2⟩
theorem fresh_back (E : Ev S M H0 H σ σd) (k : KeepS S H H1) {p : Addr} (hp : H1 p = none) (src : SrcOk S M H1) : H p = none := by
  cases z : H p with
  | none => rfl
  | some o =>
    by_cases w : ∃ p' c', S = some (p', c') ∧ (p = p' ∨ p = c')
    · obtain ⟨p', c', q1, q2⟩ := w
      obtain ⟨_, _, _, ns, l, mm, tt, h1, h2⟩ := src.go p' c' q1
      rcases q2 with q2 | q2
      · rw [← q2, hp] at h2; cases h2
      · rw [← q2, hp] at h1; cases h1
    · exact absurd hp (k.nn (by rw [z]; exact fun y => nomatch y) fun p' c' q1 => ⟨fun y => w ⟨p', c', q1, .inl y⟩, fun y => w ⟨p', c', q1, .inr y⟩⟩)
end
theorem dwipe_no {σd : DSt} {a : Addr} {es : List D} : ∀ {vs : List Nat}, Sl.own a es ∉ dwipe (clean σd) vs
  | [], h => clean_no h
  | v :: vs, h => by
    unfold dwipe at h
    rcases List.mem_or_eq_of_mem_set h with h | h
    · exact dwipe_no h
    · cases h
def dLcc (mi : DA) (g : DG) (mt : DT) (me : DE) (vs : List Nat) : DA := fun σd Q => mi σd fun ys => ys.length ≤ 1000000 ∧ ∃ W : Nat → List D → Prop, W 0 [] ∧
  (∀ i y acc, ys[i]? = some y → acc.length ≤ i → W i acc → g y (dwipe (clean σd) vs) fun σ2 => mt σ2 fun b => if b = true then me σ2 fun z => W (i + 1) (acc ++ [z]) else W (i + 1) acc) ∧ ∀ acc, W ys.length acc → Q acc
theorem ln_lc {wi : TI} {g : TG} {tt : TT} {te : TE} {vs : List Nat} {mi : DA} {dg : DG} {mt : DT} {me : DE} (hi : LI wi mi) (hg : LG g dg) (sg : Sets g vs) (ht : LT tt mt) (he : LE te me) : LN (tLc wi g tt te vs) (dLcc mi dg mt me vs) := by
  intro S M H0 H σ σd Qd Q E hm k
  refine hi S M H0 H σ σd _ _ E hm fun ys J H1 q E1 k1 wk => ?_
  obtain ⟨G, Y, w, hG, hY⟩ := wk.ex
  obtain ⟨hl, W, w0, wt, wd⟩ := q
  intro Dl hD
  have nown : ∀ a ds, Sl.own a ds ∈ σd → a ≠ Dl := fun a ds z y => by
    subst y
    obtain ⟨i, hi⟩ := List.getElem?_of_mem z
    obtain ⟨o, _, _, xs, e, _⟩ := E1.slot hi
    rw [hD] at e; cases e
  have nsrc : ∀ p c, S = some (p, c) → p ≠ Dl ∧ c ≠ Dl := fun p c e => by
    obtain ⟨_, _, _, ns, l, m, t, h1, h2⟩ := E1.src.go p c e
    exact ⟨ne_of_none h2 hD, ne_of_none h1 hD⟩
  let M' : Addr → Prop := fun a => M a ∨ a = Dl
  have moS : ∀ a, MO M' σd a → MO M σd a ∨ a = Dl := fun a h => by
    rcases h with (h | h) | h
    · exact .inl (.inl h)
    · exact .inr h
    · exact .inl (.inr h)
  have moT : ∀ a, (MO M σd a ∨ a = Dl) → MO M' σd a := fun a h => by
    rcases h with (h | h) | h
    · exact .inl (.inl h)
    · exact .inr h
    · exact .inl (.inr h)
  let Pv : Nat → Hp → Prop := fun i H2 => ∃ (acc : List V) (ds : List D), H2 Dl = some (.lst acc) ∧ Dqs S (MO M' σd) H2 acc ds ∧ W i ds ∧ ds.length ≤ i ∧ (∃ Hb, Ev S M' Hb H2 σ σd) ∧ KeepS S H1 H2
  have st : ∀ {i H2}, Pv i H2 → Stands (MO M σd) H1 H2 := fun {i H2} ⟨_, _, _, _, _, _, _, kk⟩ a o n e => kk a o e fun p c z => by
    obtain ⟨hp, hc, _⟩ := E1.src.go p c z
    exact ⟨fun y => n (.inl (y ▸ hp)), fun y => n (.inl (y ▸ hc))⟩
  refine lc_it w Pv ?_ (fun i H2 _ p => hG H2 (st p)) ?_ ?_
  · refine ⟨[], [], upd_same, .nil, w0, Nat.le_refl _, ⟨_, E1.remake (M' := M') (H2 := upd H1 Dl (.lst [])) (fun a o n e => ?_) (fun a ds z => ?_) ⟨fun p c e => ?_, E1.src.tab.ext (Same.upd hD), fun a h => h.elim (fun h => (E1.src.nt a h).upd) fun h => by rw [h, upd_same]; exact True.intro⟩ (fun a h => ?_)⟩, .of (Same.upd hD)⟩
    · exact ⟨fun z => (moS a z).elim n fun y => ne_of_none e hD y, by rw [upd_ne (ne_of_none e hD)]; exact e⟩
    · exact ⟨upd_ne (nown a ds z), fun y => y.elim (E1.ownM z) (nown a ds z)⟩
    · obtain ⟨h1, h2, h3, ns, l, m, t, h4, h5⟩ := E1.src.go p c e
      exact ⟨.inl h1, .inl h2, h3, ns, l, m, t, by rw [upd_ne (nsrc p c e).2]; exact h4, by rw [upd_ne (nsrc p c e).1]; exact h5⟩
    · rcases h with h | h
      · by_cases y : a = Dl
        · rw [y, upd_same]; exact fun z => (nomatch z)
        · rw [upd_ne y]; exact E1.mt a h
      · rw [h, upd_same]; exact fun z => (nomatch z)
  · intro i x H2 H3 hi' pv yy
    have stp := st pv
    obtain ⟨acc, ds, hacc, racc, wi', hle, ⟨Hb, E2⟩, kk⟩ := pv
    obtain ⟨sm, hd⟩ := hY i H2 x H3 hi' stp yy
    have EC := (E2.clean.wipe vs)
    have EC3 := EC.same sm
    have mocl : ∀ a, MO (MO M' σd) (dwipe (clean σd) vs) a → MO M' σd a := fun a h => by
      rcases h with h | ⟨es, h⟩
      · exact h
      · exact absurd h dwipe_no
    obtain ⟨d, hd1, hd2⟩ := hd (MO (MO M' σd) (dwipe (clean σd) vs)) (fun a h => E2.mtO a (mocl a h)) fun a o n e z => by
      rcases moS a (mocl a z) with y | y
      · exact n y
      · exact ne_of_none e hD y
    have wt1 := wt i d ds hd1 hle wi'
    refine sg x (wipe σ vs) H3 (fun σ2 Hx => Hx = H3 ∧ ∃ σd2, Ev S (MO M' σd) H2 H3 σ2 σd2 ∧ mt σd2 fun b => if b = true then me σd2 fun z => W (i + 1) (ds ++ [z]) else W (i + 1) ds) _
      (hg S (MO M' σd) H2 H3 _ _ x d _ _ EC3 hd2 wt1 fun σd2 σ2 q2 E4 => ⟨rfl, σd2, E4, q2⟩) ?_
    rintro σ2 Hx ⟨rfl, σd2, E4, q2⟩ hw
    have E2x := E2.same sm
    refine ⟨hw.trans (wipe_wipe σ fun _ h => h), ht S (MO M' σd) H2 Hx σ2 σd2 _ _ E4 q2 fun b H5 q5 E5 k5 => ?_⟩
    have src5 : ∀ {Hy}, SrcOk S (MO M' σd) Hy → SrcOk S M' Hy := fun {Hy} s => E2.src.at s
    have ne : ∀ p c, S = some (p, c) → Dl ≠ p ∧ Dl ≠ c := fun p c e => ⟨(nsrc p c e).1.symm, (nsrc p c e).2.symm⟩
    cases b with
    | false =>
      have q6 : W (i + 1) ds := by simpa using q5
      have E6 := E2x.ext k5 (src5 E5.src)
      show Pv (i + 1) H5
      exact ⟨acc, ds, k5.k _ _ (sm _ _ hacc) ne, E2x.dqs k5 (E2.dqs (.of sm) racc), q6, Nat.le_succ_of_le hle, ⟨_, E6⟩, (kk.trans (.of sm)).trans k5⟩
    | true =>
      have q6 : me σd2 fun z => W (i + 1) (ds ++ [z]) := by simpa using q5
      show te σ2 H5 _
      refine he S (MO M' σd) H2 H5 σ2 σd2 _ _ E5 q6 fun z v H6 q7 E6 k6 r6 => ?_
      have e6 : H6 Dl = some (.lst acc) := k6.k _ _ (k5.k _ _ (sm _ _ hacc) ne) ne
      have r6' : Dqs S (MO M' σd) H6 acc ds := (E2x.ext k5 (src5 E5.src)).dqs k6 (E2x.dqs k5 (E2.dqs (.of sm) racc))
      have E7 := (E2x.ext k5 (src5 E5.src)).ext k6 (src5 E6.src)
      refine ⟨acc, e6, ?_, ?_⟩
      · rw [racc.length, sizeLine_eq]; omega
      · have moDl : MO M' σd Dl := .inl (.inr rfl)
        have go : ∀ a o, ¬ MO M' σd a → H6 a = some o → ¬ MO M' σd a ∧ upd H6 Dl (.lst (acc ++ [v])) a = some o := fun a o n e => ⟨n, by rw [upd_ne (fun y : a = Dl => n (y ▸ moDl))]; exact e⟩
        have rv : Dq S (MO M' σd) H6 v z := r6.go fun a o n e => ⟨fun y => n (.inl y), e⟩
        refine ⟨acc ++ [v], ds ++ [z], upd_same, (r6'.append (.cons rv .nil)).go go, q7, by simp; omega, ⟨_, E7.remake (M' := M') (H2 := upd H6 Dl (.lst (acc ++ [v]))) go (fun a es y => ?_) ⟨fun p c e => ?_, tabs_upd E7.src.tab e6, fun a h => (E7.src.nt a h).upd⟩ (fun a h => ?_)⟩, ?_⟩
        · exact ⟨upd_ne (nown a es y), fun y' => y'.elim (E1.ownM y) (nown a es y)⟩
        · obtain ⟨h1, h2, h3, ns, l, m, t, h4, h5⟩ := E7.src.go p c e
          exact ⟨h1, h2, h3, ns, l, m, t, by rw [upd_ne (nsrc p c e).2]; exact h4, by rw [upd_ne (nsrc p c e).1]; exact h5⟩
        · by_cases y : a = Dl
          · rw [y, upd_same]; exact fun z => (nomatch z)
          · rw [upd_ne y]; exact E7.mt a h
        · have kx := ((kk.trans (.of sm)).trans k5).trans k6
          exact fun a o e n => by rw [upd_ne (ne_of_none e hD)]; exact kx a o e n
  · rintro H2 ⟨acc, ds, hacc, racc, wi', hle, ⟨Hb, E2⟩, kk⟩
    have src2 : SrcOk S M H2 := E1.src.at E2.src
    exact k ds Dl acc H2 (wd ds wi') (E1.ext kk src2) (k1.trans kk) (fresh_back E k1 hD E1.src) hacc (racc.go fun a o n e => ⟨fun z => n (moT a z), e⟩)
end PH

namespace PH
open PySem PySem.Spec L2
open PyProof.Rows (envOfC)
variable {Wx : WX}
section
variable {X : Cx} {e a b iter tg elt : Expr} {es : List Expr} {pos : Pos} {m ma mb : DE} {md : DA} {n : Nat}
def PDI (X : Cx) (tg iter : Expr) (mi : DA) : Prop := ∃ wi, PI X tg iter wi ∧ LI wi mi
theorem pdi_list (h : PD X e m) : PDI X tg e (dItL m) := let ⟨_, h1, l1⟩ := h; ⟨_, pi_list h1, li_list (K := X.K) l1⟩
theorem pdi_tup (h : PD X e m) : PDI X tg e (dItT m) := let ⟨_, h1, l1⟩ := h; ⟨_, pi_tup h1, li_tup (K := X.K) l1⟩
theorem pdi_rng1 {p : Pos} (hg : Gl X "range") (hm : X.mg "range" = none) (ha : PDA X [a] n md) (hs : starEach [a] X.env = [(false, eval a X.env)] := by rfl) : PDI X tg (.Call (.Name "range" p) [a] [] pos) (dRng1 md) :=
  let ⟨_, h1, l1⟩ := ha; ⟨_, pi_range1 hg hm h1 hs, li_rng1 l1⟩
theorem psd_for {body : List Stmt} {mi : DA} {g : DG} {mbd : DS} (hp : PassesOwn (model X.prog X.w) X.A X.env X.xe) (hc : X.calm = true) (hi : PDI X tg iter mi) (hg : PDG X tg g) (hb : PDSs Wx X body mbd) (hs : ∀ x, foldedSetIterable iter X.env x = pure x := by intro _; rfl) :
    PDS Wx X (.For tg iter body [] pos) (dFor mi g mbd) := let ⟨_, h1, l1⟩ := hi; let ⟨_, h2, l2⟩ := hg; let ⟨_, h3, l3⟩ := hb; ⟨_, ps_for hp hc h1 h2 h3 hs, ls_for l1 l2 l3⟩
def dWhile (c : DT) (mb : DS) : DS := fun Dd σd => ∃ W : Nat → DSt → Prop, (∃ k, W k σd) ∧ ∀ k σ', W k σ' → c σ' fun b => if b = true then mb { Dd with nx := fun σ2 => ∃ k', k' < k ∧ W k' σ2, ct := fun σ2 => ∃ k', k' < k ∧ W k' σ2, bk := Dd.nx } σ' else Dd.nx σ'
theorem ls_while {c : TT} {tb : TS} {dc : DT} {mb : DS} (hc : LT c dc) (hb : LS Wx tb mb) : LS Wx (tWhile c tb) (dWhile dc mb) := by
  intro S M H0 H σ σd Dd Dn E hm r
  obtain ⟨W, ⟨k0, w0⟩, turn⟩ := hm
  refine ⟨fun k σ' H2 => ∃ σ2, W k σ2 ∧ Ev S M H0 H2 σ' σ2, ⟨k0, σd, w0, E⟩, ?_⟩
  rintro k σ' H2 ⟨σ2, w2, E2⟩
  refine hc S M H0 H2 σ' σ2 _ _ E2 (turn k σ2 w2) fun b H3 q E3 k3 => ?_
  cases b with
  | false => exact r.1 _ _ _ (by simpa using q) E3
  | true =>
    show ∃ N : L2.St → Hp → Prop, _
    refine ⟨fun σ4 H4 => ∃ σ5, (∃ k', k' < k ∧ W k' σ5) ∧ Ev S M H0 H4 σ4 σ5, fun σ4 H4 ⟨σ5, ⟨k', hk, w⟩, E5⟩ => ⟨k', hk, σ5, w, E5⟩, ?_⟩
    rw [if_pos rfl] at q
    exact hb S M H0 H3 σ' σ2 _ _ E3 q ⟨fun a b c q E => ⟨a, q, E⟩, r.2.1, fun a b c q E => r.1 a b c q E, fun a b c q E => ⟨a, q, E⟩, r.2.2.2.2⟩
theorem psd_while {c : Expr} {body : List Stmt} {dc : DT} {mbd : DS} (hp : PassesOwn (model X.prog X.w) X.A X.env X.xe) (hc : PDT X c dc) (hb : PDSs Wx X body mbd) : PDS Wx X (.While c body [] pos) (dWhile dc mbd) :=
  let ⟨_, h1, l1⟩ := hc; let ⟨_, h2, l2⟩ := hb; ⟨_, ps_while hp h1 h2, ls_while l1 l2⟩
theorem lt_yes : LT tYes (fun _ Q => Q true) := fun S M H0 H σ σd Qd Q E h k => k true H h E .refl
def dYes : DT := fun _ Q => Q true
theorem pdn_lc {scope : Scope} {own : List (Str × Nat)} {mi : DA} {g : TG} {dg : DG} {me : DE} (hc : X.calm = true) (hN : X.N.Nodup) (hi : PDI X tg iter mi) (ok : blkC X.N X.env.scope scope own = true)
    (hg : ∀ (s : Shared) (H : Hp) (C : Addr) (cl : List (Str × Addr)) (fp : List Addr), PG (X.blk s H scope (compEnvC scope cl C X.env) fp) tg g) (lg : LG g dg) (sg : Sets g (own.map (·.2)))
    (he : ∀ (s : Shared) (H : Hp) (C : Addr) (cl : List (Str × Addr)) (fp : List Addr), PD (X.blk s H scope (compEnvC scope cl C X.env) fp) elt me) (hs : ∀ x, foldedSetIterable iter X.env x = pure x := by intro _; rfl) :
    PDN X (.ListComp elt [⟨tg, iter, [], 0⟩] scope pos) (dLcc mi dg dYes me (own.map (·.2))) :=
  let ⟨_, h1, l1⟩ := hi; ⟨_, pe_lc hc hN h1 (blkOk_by ok) hg (fun _ _ _ _ _ => pts_nil) (fun s H C cl fp => (he s H C cl fp).pe) hs, ln_lc l1 lg sg lt_yes le_of⟩
theorem pdn_lci {c : Expr} {scope : Scope} {own : List (Str × Nat)} {mi : DA} {g : TG} {dg : DG} {mt : DT} {me : DE} (hc : X.calm = true) (hN : X.N.Nodup) (hi : PDI X tg iter mi) (ok : blkC X.N X.env.scope scope own = true)
    (hg : ∀ (s : Shared) (H : Hp) (C : Addr) (cl : List (Str × Addr)) (fp : List Addr), PG (X.blk s H scope (compEnvC scope cl C X.env) fp) tg g) (lg : LG g dg) (sg : Sets g (own.map (·.2)))
    (ht : ∀ (s : Shared) (H : Hp) (C : Addr) (cl : List (Str × Addr)) (fp : List Addr), PDT (X.blk s H scope (compEnvC scope cl C X.env) fp) c mt)
    (he : ∀ (s : Shared) (H : Hp) (C : Addr) (cl : List (Str × Addr)) (fp : List Addr), PD (X.blk s H scope (compEnvC scope cl C X.env) fp) elt me) (hs : ∀ x, foldedSetIterable iter X.env x = pure x := by intro _; rfl) :
    PDN X (.ListComp elt [⟨tg, iter, [c], 0⟩] scope pos) (dLcc mi dg mt me (own.map (·.2))) :=
  let ⟨_, h1, l1⟩ := hi; ⟨_, pe_lc hc hN h1 (blkOk_by ok) hg (fun s H C cl fp => pts_one (ht s H C cl fp).pt) (fun s H C cl fp => (he s H C cl fp).pe) hs, ln_lc l1 lg sg lt_ofT le_of⟩
theorem psd_setLc {i : Nat} {y : Str} {py spos : Pos} {scope : Scope} {own : List (Str × Nat)} {mi : DA} {g : TG} {dg : DG} {me : DE} (hc : X.calm = true) (hN : X.N.Nodup) (hy : X.N[i]? = some y) (hyl : X.env.scope.names.lookup y = some .local)
    (hsw : swapsWith (.ListComp elt [⟨tg, iter, [], 0⟩] scope pos) (some (.Name y py)) spos.line X.env = pure true) (hi : PDI X tg iter mi) (ok : blkC X.N X.env.scope scope own = true)
    (hg : ∀ (s : Shared) (H : Hp) (C : Addr) (cl : List (Str × Addr)) (fp : List Addr), PG (X.blk s H scope (compEnvC scope cl C X.env) fp) tg g) (lg : LG g dg) (sg : Sets g (own.map (·.2)))
    (he : ∀ (s : Shared) (H : Hp) (C : Addr) (cl : List (Str × Addr)) (fp : List Addr), PD (X.blk s H scope (compEnvC scope cl C X.env) fp) elt me) (hs : ∀ x, foldedSetIterable iter X.env x = pure x := by intro _; rfl) :
    PDS Wx X (.Assign [.Name y py] (.ListComp elt [⟨tg, iter, [], 0⟩] scope pos) spos) (dAsg (dLst (dLcc mi dg dYes me (own.map (·.2)))) (dgName i)) :=
  let ⟨_, h1, l1⟩ := hi; ⟨_, ps_setLc hc hN hy hyl hsw h1 (blkOk_by ok) hg (fun _ _ _ _ _ => pts_nil) (fun s H C cl fp => (he s H C cl fp).pe) hs, ls_asg (ln_lc l1 lg sg lt_yes le_of).le (lg_name i)⟩
theorem psd_own {i : Nat} {x : Str} {pos' : Pos} (hN : X.N.Nodup) (hi : X.N[i]? = some x) (hx : Loc X.env.scope x) (he : PDN X e md) (hs : swapsWith e (some (.Name x pos')) pos.line X.env = pure false := by rfl)
    (hf : X.fn x = true ∨ X.env.scope.names.lookup x = some .local := by first | exact .inl rfl | exact .inr rfl) : PDS Wx X (.Assign [.Name x pos'] e pos) (dOwn i md) :=
  let ⟨_, h1, l1⟩ := he; ⟨_, ps_set hN hi hx h1 hs hf, ls_own l1⟩
def dFrz (i : Nat) (m : DS) : DS := fun Dd σd => match σd[i]? with
  | some (.own a ds) => m Dd (σd.set i (.val (.list ds)))
  | _ => m Dd σd
theorem ls_frz {t : TS} {i : Nat} {ms : DS} (h : LS Wx t ms) : LS Wx t (dFrz i ms) := by
  intro S M H0 H σ σd Dd Dn E hm r
  unfold dFrz at hm
  split at hm
  · rename_i a ds e
    exact h S M H0 H σ _ Dd Dn (E.frz e) hm r
  · exact h S M H0 H σ σd Dd Dn E hm r
theorem pss_frz {st : List Stmt} {ms : DS} (i : Nat) (h : PDSs Wx X st ms) : PDSs Wx X st (dFrz i ms) := let ⟨_, h1, l1⟩ := h; ⟨_, h1, ls_frz l1⟩
def dApp (i : Nat) (m : DE) : DS := fun Dd σd => match σd[i]? with
  | some (.own a ds) => ds.length ≤ 1000000 ∧ m σd fun z => Dd.nx (σd.set i (.own a (ds ++ [z])))
  | _ => False
theorem ls_app {K : PySem.W.Frag} {te : TE} {i : Nat} (h : LE te m) : LS Wx (tDrop (tBM K "list" rAppend (tVar i) (tCons te tNil))) (dApp i m) := by
  intro S M H0 H σ σd Dd Dn E hm r
  unfold dApp at hm
  split at hm
  · rename_i a ds e
    obtain ⟨o, e2, e3, xs, hx, rx⟩ := E.slot e
    subst e3
    refine ⟨.ref a, e2, Or.inl ⟨rfl, _, Or.inl (Or.inl hx)⟩, ?_⟩
    refine h S M H0 H σ σd _ _ E hm.2 fun z v H' q E' k' r' => ?_
    have hx' : H' a = some (.lst xs) := k'.k a _ hx (E.ownNe (List.mem_of_getElem? e))
    refine ⟨a, xs, v, rfl, rfl, hx', by rw [rx.length, sizeLine_eq]; have := hm.1; omega, ?_⟩
    exact r.1 _ _ _ q (E'.upd e ((E.dqs k' rx).append (.cons r' .nil)))
  · exact hm.elim
theorem psd_app {x : Str} {px apos cpos : Pos} (i : Nat) (hN : X.N[i]? = some x) (hv : Vis X.env.scope x) (he : PD X e m) (hs : swapsWith (.Call (.Attribute (.Name x px) "append" apos) [e] [] cpos) none pos.line X.env = pure false := by rfl)
    (hd : (x == ("__debug__" : Str)) = false := by decide) (hcd : (x == ("__classdict__" : Str)) = false := by decide)
    (hbase : attributeBase (.Name x px) "append" X.env (eval (.Name x px) X.env) = eval (.Name x px) X.env := by rfl)
    (hfew : ((backTo cpos (starEach [e] X.env)).all (fun x => !x.1) && (backToKw cpos (keywordEach [] X.env)).all (fun x => x.1.isSome)
      && decide (([e] : List Expr).length + ([] : List Keyword).length + (if ([] : List Keyword).isEmpty then 0 else 1) < 30)) = true := by rfl)
    (hline : (apos.endLine == cpos.line) = true := by rfl) (hse : starEach [e] X.env = (false, eval e X.env) :: starEach [] X.env := by rfl) (hpl : (backTo cpos (starEach [] X.env)).any (·.1) = false := by rfl) :
    PDS Wx X (.Expr (.Call (.Attribute (.Name x px) "append" apos) [e] [] cpos) pos) (dApp i m) :=
  let ⟨_, h1, l1⟩ := he
  ⟨_, ps_expr (pe_bm PySem.F.plainAttrs_list PySem.F.slot_list_append PySem.F.type_list_append mt_append (pe_var hN hv hd hcd) (pa_cons h1 pa_nil hse) hbase hfew hline hse hpl) hs, ls_app l1⟩
def dCat : DR2 := fun x y Q => match x, y with
  | .list xs, .list ys => xs.length + ys.length ≤ 10000000 ∧ Q (.list (xs ++ ys))
  | _, _ => False
theorem lr_cat : LR rCat dCat := by
  intro S M H x y dx dy Qd Q hm rx ry h k
  unfold dCat at h
  split at h
  · cases rx with
    | @lst _ us _ na ea ra =>
    cases ry with
    | @lst _ ws _ nb eb rb =>
    refine ⟨_, _, _, _, rfl, rfl, ea, eb, by rw [ra.length, rb.length, sizeLine_eq]; omega, fun p hp => ?_⟩
    have sm := Same.upd (o := HO.lst (us ++ ws)) hp
    exact k _ _ _ h.2 sm (.lst (fun z => hm p z hp) upd_same ((ra.append rb).go fun a o n e => ⟨n, sm a o e⟩))
  · exact h.elim
def repD (k : Nat) (xs : List D) : List D := (List.replicate k xs).flatten
theorem Dqs.flat {S : Sr} {M : Addr → Prop} {H : Hp} {vs : List V} {ds : List D} (r : Dqs S M H vs ds) : ∀ k, Dqs S M H (List.replicate k vs).flatten (List.replicate k ds).flatten
  | 0 => .nil
  | k + 1 => by
    rw [List.replicate_succ, List.replicate_succ, List.flatten_cons, List.flatten_cons]
    exact r.append (Dqs.flat r k)
def dRepL : DR2 := fun x y Q => match x, y with
  | .list xs, .int k => (-(2 ^ 63) ≤ k ∧ k < 2 ^ 63 ∧ xs.length * k.toNat ≤ 10000000) ∧ Q (.list (repD k.toNat xs))
  | _, _ => False
theorem lr_rep : LR rRep dRepL := by
  intro S M H x y dx dy Qd Q hm rx ry h kk
  unfold dRepL at h
  split at h
  · rename_i k
    cases rx with
    | @lst _ us _ na ea ra =>
    cases ry
    refine ⟨_, _, _, rfl, rfl, ea, h.1.1, h.1.2.1, by rw [ra.length, sizeLine_eq]; have := h.1.2.2; omega, fun p hp => ?_⟩
    have sm := Same.upd (o := HO.lst (List.replicate k.toNat us).flatten) hp
    exact kk _ _ _ h.2 sm (.lst (fun z => hm p z hp) upd_same ((ra.flat _).go fun a o n e => ⟨n, sm a o e⟩))
  · exact h.elim
def boolsD : List D → Option (List Bool)
  | [] => some []
  | .bool b :: r => (boolsD r).map (b :: ·)
  | _ => none
theorem boolsD_vs {S : Sr} {M : Addr → Prop} {H : Hp} : ∀ {vs : List V} {ds : List D} {bs : List Bool}, Dqs S M H vs ds → boolsD ds = some bs → vs = bs.map V.bl
  | _, _, _, .nil, h => by cases h; rfl
  | _, _, _, .cons a r, h => by
    cases a <;> simp only [boolsD] at h <;> try cases h
    obtain ⟨b', h1, h2⟩ := Option.map_eq_some_iff.mp h
    subst h2
    rw [boolsD_vs r h1]; rfl
def dAll : DRC := fun ds Q => match ds with
  | [.list xs] => (match boolsD xs with | some bs => Q (.bool (bs.all id)) | none => False)
  | _ => False
theorem lc_all {K : PySem.W.Frag} : LC (rAll K) dAll := by
  intro S M H xs ds Qd Q hm r h k
  unfold dAll at h
  split at h
  · split at h
    · rename_i bs e
      cases r with
      | cons a b =>
        cases b
        cases a with
        | lst na ea ra => exact ⟨_, bs, rfl, .inl (.inl (by rw [← boolsD_vs ra e]; exact ea)), k _ _ H h (Same.refl _) (.bl _)⟩
    · exact h.elim
  · exact h.elim
end
end PH

namespace PH
open PySem PySem.Spec L2
open PyProof.Rows (envOfC AllBare IntsAre)
section
variable {P : Program} {w : World} {K : PySem.W.Frag} {mg mb : Str → Option Value} {k : Nat} {fa a : Addr} {fd : FuncData} {x : Str} {sp : Sp} {s1 : Shared} {vs : List Value} {ns : List Int}
end
end PH

namespace PH
open PySem PySem.Spec L2
open PyProof.Rows (envOfC AllBare IntsAre)
structure SaysE (fa : List He.Fa) (fn : List He.DefD) (ex : PySem.W.Frag → Bool) (K : PySem.W.Frag) : Prop where
  d : He.SaysD fa fn K
  more : ex K = true
theorem toFun {K : PySem.W.Frag} {x qual : Str} {st : Stmt} {f : Addr} {fd : FuncData} (F : FunD K x qual (defArgs st) (defBody st) (defScope st) [] [] f fd) : Fun K x qual st f fd := by
  obtain ⟨oc, od, dV, kV, doc, pm, an, cdv, ct, osl, e, lk, hc, hd, _⟩ := F.ex
  rcases hd with ⟨_, hd⟩ | ⟨hd, _⟩
  · subst hd
    exact ⟨⟨oc, od, kV, doc, pm, an, cdv, ct, osl, e, lk, hc⟩, F.kp⟩
  · exact absurd rfl hd
def bltB (K : PySem.W.Frag) (x : Str) (id : String) : Bool := match PySem.W.nsIn K mainGlobals x with
  | some (some (.builtin j)) => decide (j = id)
  | _ => false
theorem bltB_ok {K : PySem.W.Frag} {h : Heap} {mg : Str → Option Value} {x : Str} {id : String} (X : K.In h) (G : h.Ns mainGlobals mg) (c : bltB K x id = true) : mg x = some (.builtin id) := by
  unfold bltB at c
  split at c
  · rename_i j e
    have := of_decide_eq_true c
    subst this
    exact PySem.W.mg_of X G e
  · cases c
end PH

namespace PH
open PySem PySem.Spec L2
open PyProof.Rows (envOfC AllBare IntsAre)
def Dfn (K : PySem.W.Frag) (mg : Str → Option Value) (x : Str) (st : Stmt) : Prop := ∃ (f : Addr) (fd : FuncData), mg x = some (.ref f) ∧ Fun K x x st f fd
section
variable (P : Program) (w : World) (K : PySem.W.Frag) (mg : Str → Option Value) (base : Heap)
def NameOk (k : Nat) (x : Str) (ps : List Str) (sp : Sp) : Prop := ∃ (f : Addr) (fd : FuncData), mg x = some (.ref f) ∧ PySem.W.keepIn K (.ref f) = true ∧ Binds K fd ps [] ∧ FnG P w K mg base k f fd ps sp
def DefOk (k : Nat) (x : Str) (ps : List Str) (spd : DSp) : Prop := NameOk P w K mg base k x ps (SpD ps.length spd)
end
def BindOk (x : Str) (ps : List Str) (st : Stmt) : Prop := ∀ (kV doc pm : Value) (an : Option Addr) (cdv ct : Value) (us : List Value), us.length = ps.length →
  bindArgs (PySem.W.fnOf x x (defArgs st) (defBody st) (defScope st) .none kV doc pm an cdv ct) ⟨us, []⟩ = pure (ps.zip us)
section
variable {P : Program} {w : World} {K : PySem.W.Frag} {mg : Str → Option Value} {base : Heap}
theorem nameOk {k : Nat} {x : Str} {st : Stmt} {N ps : List Str} {sp : Sp} (hd : Dfn K mg x st) (S : FnScope N ps (defScope st)) (bnd : BindOk x ps st) (len : ∀ vs H Q E, sp vs H Q E → vs.length = ps.length)
    (hb : ∀ (f : Addr) (cdv : Value) (A : Around) (outer : List Env) (s : Shared) (H : Hp) (vs : List V) (Q : VK), Room k (A.deeper (envOfC x (defScope st) s.heap.objs.size f cdv)) → A.guards = some [] → sp vs H Q E0 →
      ∃ t, PSs (cxOf CX0 P w K mg base N x (defScope st) f cdv A outer s H E0).nox (defBody st) t ∧ t { nx := fun _ H' => Q .non H', rt := Q } (L2.start N vs) H) : NameOk P w K mg base (k + 1) x ps sp := by
  obtain ⟨f, fd, hm, F⟩ := hd
  exact ⟨f, fd, hm, F.kp, F.binds bnd, fnG_body F S len fun cdv A outer s H vs Q => hb f cdv A outer s H vs Q⟩
theorem defOk {k : Nat} {x : Str} {st : Stmt} {N ps : List Str} {spd : DSp} {m : DS} (hd : Dfn K mg x st) (S : FnScope N ps (defScope st)) (bnd : BindOk x ps st)
    (hb : ∀ (f : Addr) (cdv : Value) (A : Around) (outer : List Env) (s : Shared) (H : Hp), Room k (A.deeper (envOfC x (defScope st) s.heap.objs.size f cdv)) → A.guards = some [] →
      PDSs W0 (cxOf CX0 P w K mg base N x (defScope st) f cdv A outer s H E0).nox (defBody st) m)
    (hm : ∀ ds Qd, ds.length = ps.length → spd ds Qd → m { nx := fun _ => Qd .none, rt := Qd } (dstart N.length ds)) : DefOk P w K mg base (k + 1) x ps spd := by
  obtain ⟨f, fd, hmg, F⟩ := hd
  exact ⟨f, fd, hmg, F.kp, F.binds bnd, fnD F S (hb f) hm⟩
end
section
variable {X : Cx} {k j : Nat} {x : Str} {p pos : Pos} {e : Expr} {es : List Expr} {ps : List Str} {spd : DSp} {m : DA}
theorem pd_fn (D : DefOk X.prog X.w X.K X.mg X.base j x ps spd) (hr : Room k X.A) (hj : j ≤ k) (hgu : X.A.guards = some []) (ha : PDA X (e :: es) ps.length m) (hg : Gl X x := by rfl) (hdb : (x == ("__debug__" : Str)) = false := by decide)
    (he : starEach (e :: es) X.env = (false, eval e X.env) :: starEach es X.env := by rfl) (hpl : (backTo pos (starEach es X.env)).any (·.1) = false := by rfl) : PD X (.Call (.Name x p) (e :: es) [] pos) (dCall spd m) :=
  let ⟨_, _, hm, kp, hb, F⟩ := D; pd_call F (hr.mono hj) hgu hg hm kp hb ha hdb he hpl
end
def spLaw (K : PySem.W.Frag) : Sp := fun vs H Q _ => ∃ (a : Addr) (ns : List Int), vs = [.ref a] ∧ SqL K H a (ns.map V.int) ∧ ns.length ≤ 63 ∧ (∀ z ∈ ns, Builtin.Int.intBits z ≤ 1048576) ∧ LamX.Tabs lamTabs H ∧ ∀ H', Q (.bl true) H'
theorem spLaw_len {K : PySem.W.Frag} : ∀ vs H Q E, spLaw K vs H Q E → vs.length = 1 := fun _ _ _ _ ⟨_, _, e, _⟩ => by rw [e]; rfl
theorem ifT {b : Bool} {A B : Prop} (h : b = true) (a : A) : if b = true then A else B := by rw [if_pos h]; exact a
theorem ifF {b : Bool} {A B : Prop} (h : b = false) (a : B) : if b = true then A else B := by rw [h]; exact iteF a
def spPick : DSp := fun ds Q => ∃ m : Int, ds = [SRC, .int m] ∧ m < 2 ^ 30 ∧ ∀ k : Int, 0 ≤ k → (k < m ∨ k = 0) → Q (.int k)
def spCells (K : PySem.W.Frag) : Sp := fun vs H Q _ => ∃ (a : Addr) (ns : List Int), vs = [.ref a] ∧ SqL K H a (ns.map V.int) ∧ ns.length ≤ 63 ∧ (∀ z ∈ ns, Builtin.Int.intBits z ≤ 1048576) ∧
  ∀ (p c : Addr) (ms : List Int) (l m t : Int) (H' : Hp), H p = none → H c = none → p ≠ c → Same H H' → H' c = some (.lst (ms.map V.int)) → H' p = some (.dK (srcKvs c l m t)) → Q (.ref p) H'
theorem srcKvs_val (c : Addr) (l m t : Int) : valV (srcKvs c l m t) (.inr "cells") = some (.ref c) ∧ valV (srcKvs c l m t) (.inr "left") = some (.int l) ∧ valV (srcKvs c l m t) (.inr "mixed") = some (.int m) ∧ valV (srcKvs c l m t) (.inr "turn") = some (.int t) :=
  ⟨by rfl, by rfl, by rfl, by rfl⟩
theorem srcKvs_left (c : Addr) (l m t l' : Int) : putK (srcKvs c l m t) (.inr "left") (.int l') = srcKvs c l' m t := by rfl
theorem srcKvs_turn (c : Addr) (l m t t' : Int) : putK (srcKvs c l m t) (.inr "turn") (.int t') = srcKvs c l m t' := by rfl
end PH

namespace PH
open PySem PySem.Spec L2
open PyProof.Rows (envOfC AllBare IntsAre)
section
variable {X : Cx} {a b e : Expr} {pos : Pos} {ma mb : DE} {m : DA}
theorem opr_or {f : Value → Value → Sem Value} {r r' : R2} (h : OpR X f r) (h' : OpR X f r') : OpR X f (fun x y H Q => r x y H Q ∨ r' x y H Q) := by
  intro pins s σ H x y v u Q I rx ry q
  rcases q with q | q
  · exact h pins s σ H x y v u Q I rx ry q
  · exact h' pins s σ H x y v u Q I rx ry q
def dAddA : DR2 := fun x y Q => match x, y with
  | .int i, .int j => Q (.int (i + j))
  | .list xs, .list ys => xs.length + ys.length ≤ 10000000 ∧ Q (.list (xs ++ ys))
  | _, _ => False
abbrev rAddA : R2 := fun x y H Q => rI0 (fun i j => .int (i + j)) x y H Q ∨ rCat x y H Q
theorem lr_addA : LR rAddA dAddA := by
  intro S M H x y dx dy Qd Q hm rx ry h k
  unfold dAddA at h
  split at h
  · exact .inl (lr_I0 (f := fun i j => i + j) S M H x y _ _ Qd Q hm rx ry h k)
  · exact .inr (lr_cat S M H x y _ _ Qd Q hm rx ry h k)
  · exact h.elim
theorem pd_addA (ha : PD X a ma) (hb : PD X b mb) : PD X (.BinOp a .Add b pos) (dOp dAddA ma mb) := pd_bin (opr_or op_add op_cat) lr_addA ha hb
def dMulA : DR2 := fun x y Q => match x, y with
  | .int i, .int j => CMB i j ∧ Q (.int (i * j))
  | .list xs, .int k => (-(2 ^ 63) ≤ k ∧ k < 2 ^ 63 ∧ xs.length * k.toNat ≤ 10000000) ∧ Q (.list (repD k.toNat xs))
  | _, _ => False
abbrev rMulA : R2 := fun x y H Q => rI CMB (fun i j => .int (i * j)) x y H Q ∨ rRep x y H Q
theorem lr_mulA : LR rMulA dMulA := by
  intro S M H x y dx dy Qd Q hm rx ry h k
  unfold dMulA at h
  split at h
  · exact .inl (lr_I (C := CMB) (f := fun i j => i * j) S M H x y _ _ Qd Q hm rx ry h k)
  · exact .inr (lr_rep S M H x y _ _ Qd Q hm rx ry h k)
  · exact h.elim
theorem pd_mulA (ha : PD X a ma) (hb : PD X b mb) : PD X (.BinOp a .Mult b pos) (dOp dMulA ma mb) := pd_bin (opr_or op_mulB op_rep) lr_mulA ha hb
end
end PH
namespace PH
open L2
theorem blk {N : List PySem.Str} {sc scope : PySem.Scope} {own : List (PySem.Str × Nat)} (h : blkC N sc scope own = true) : blkC N sc scope own = true := h
end PH

namespace PH
open PySem PySem.Spec L2
open PyProof.Rows (envOfC AllBare IntsAre)
end PH

namespace PH
open PySem PySem.Spec L2
open PyProof.Rows (envOfC AllBare IntsAre)
abbrev DSpX := List D → (D → Prop) → (Str → Prop) → Prop
def SpX (mg : Str → Option Value) (n : Nat) (spd : DSpX) : Sp := fun vs H Q E => ∃ (S : Sr) (M : Addr → Prop) (ds : List D) (Qd : D → Prop) (Ed : Str → Prop), (∀ a, M a → H a ≠ none) ∧ SrcOk S M H ∧ Dqs S M H vs ds ∧ vs.length = n ∧ spd ds Qd Ed ∧
  (∀ d v H', Qd d → KeepS S H H' → SrcOk S M H' → Dq S M H' v d → Q v H') ∧ ∀ x c H', Ed x → mg x = some c → KeepS S H H' → SrcOk S M H' → E c none H'
structure FnGX (P : Program) (w : World) (K : PySem.W.Frag) (mg : Str → Option Value) (base : Heap) (k : Nat) (f : Addr) (fd : FuncData) (ps : List Str) (sp : Sp) : Prop where
  len : ∀ vs H Q E, sp vs H Q E → vs.length = ps.length
  go : ∀ (A : Around) (outer : List Env) (s : Shared) (H : Hp) (args : Args) (us : List Value) (vs : List V) (Q : VK) (E : XK), Room k A → A.guards = some [] →
    Env0 P w K mg base A outer s H → BindsTo s fd args (ps.zip us) → Vals vs us → sp vs H Q E → codeAny (model P w) A (.call (.ref f) args) (CR (L2.CX P w) outer P w H s Q E) s
section
variable {P : Program} {w : World} {K : PySem.W.Frag} {mg : Str → Option Value} {base : Heap} {k : Nat} {f : Addr} {fd : FuncData} {ps : List Str} {sp : Sp}
theorem fnGX_body {x qual : Str} {st : Stmt} {N : List Str} (F : Fun K x qual st f fd) (S : FnScope N ps (defScope st)) (len : ∀ vs H Q E, sp vs H Q E → vs.length = ps.length)
    (hb : ∀ (cdv : Value) (A : Around) (outer : List Env) (s : Shared) (H : Hp) (vs : List V) (Q : VK) (E : XK), Room k (A.deeper (envOfC qual (defScope st) s.heap.objs.size f cdv)) → A.guards = some [] → sp vs H Q E →
      ∃ t, PSs (cxOf (L2.CX P w) P w K mg base N qual (defScope st) f cdv A outer s H E) (defBody st) t ∧ t { nx := fun _ H' => Q .non H', rt := Q } (L2.start N vs) H) :
    FnGX P w K mg base (k + 1) f fd ps sp := by
  obtain ⟨oc, od, kV, doc, pm, an, cdv, ct, osl, rfl, lk, hcd⟩ := F.ex
  refine ⟨len, ?_⟩
  intro A outer s H args us vs Q E hr hg e0 hbind rv hsp
  have lv := len _ _ _ _ hsp
  have inK : K.In s.heap := e0.mod.kin.keeps (fun b o e => (e0.bs b o e).1)
  have noL : s.heap.NoLimit := e0.mod.nolimit.keeps (fun b o e => (e0.bs b o e).1)
  have kinds : ∀ y ∈ ps.zip us, (defScope st).names.lookup y.1 = some .local ∨
      ((defScope st).names.lookup y.1 = some .cell ∧ ((cellsFrom (s.heap.objs.size + 1) (defScope st).names []).lookup y.1).isSome = true) := by
    rintro ⟨n, v⟩ hy
    rcases S.par n (List.of_mem_zip hy).1 with q | q
    · exact .inl q
    · exact .inr ⟨q, PySem.W.cellsFrom_some _ _ _ (.inl q)⟩
  refine codeAny_call_function hr.depth (inK _ _ lk) rfl S.co S.gen rfl (PySem.W.codeRec_of inK hcd) (hbind _ _ _ _ ?_)
  refine wpAny_newFunctionEnv_cells S.kind kinds ?_
  intro env he s1 xc
  subst he
  refine ⟨noL.keeps xc.toInCall.keep, codeAny_func ?_⟩
  obtain ⟨t, ht, hq⟩ := hb cdv A outer s H vs Q E (hr.deeper _) hg hsp
  have J0 : Inv (cxOf (L2.CX P w) P w K mg base N qual (defScope st) f cdv A outer s H E) [] (L2.start N vs) H s1 := inv_start S hr.hd e0 lv rv xc
  refine wpAny_mono (ht.run [] s1 (L2.start N vs) H _ J0 hq) (fun fl s' hs => ?_) (fun e s' hs => hs)
  cases fl with
  | ret u =>
    obtain ⟨v, σ', H', J, rr, q⟩ := hs
    exact ⟨v, H', J.os, J.bare, J.base, J.hok, rr, q⟩
  | next =>
    obtain ⟨σ', H', J, q⟩ := hs
    exact ⟨V.non, H', J.os, J.bare, J.base, J.hok, rfl, q⟩
  | brk => obtain ⟨_, _, _, q⟩ := hs; exact False.elim q
  | cont => obtain ⟨_, _, _, q⟩ := hs; exact False.elim q
theorem FnGX.quiet {sp' : Sp} (F : FnGX P w K mg base k f fd ps sp) (h : ∀ vs H Q E, sp' vs H Q E → sp vs H Q E0) : FnG P w K mg base k f fd ps sp' := by
  refine ⟨fun vs H Q E q => F.len _ _ _ _ (h vs H Q E q), fun A outer s H args us vs Q hr hg e0 hb rv q => ?_⟩
  refine codeAny_mono (F.go A outer s H args us vs Q E0 hr hg e0 hb rv (h _ _ _ _ q)) fun r s' hq => ?_
  cases r with
  | ok fl =>
    cases fl with
    | ret u => exact hq
    | next => exact hq
    | brk => exact hq
    | cont => exact hq
  | error e =>
    obtain ⟨_, _, _, _, _, _, _, _, _, _, _, _, z⟩ := hq
    exact z.elim
end
section
variable (P : Program) (w : World) (K : PySem.W.Frag) (mg : Str → Option Value) (base : Heap)
def DefX (k : Nat) (x : Str) (ps : List Str) (spd : DSpX) : Prop := ∃ (f : Addr) (fd : FuncData), mg x = some (.ref f) ∧ PySem.W.keepIn K (.ref f) = true ∧ Binds K fd ps [] ∧ FnGX P w K mg base k f fd ps (SpX mg ps.length spd)
end
abbrev WD (E : XK) : WX := fun cls d _ H => E cls d H
theorem defX {P : Program} {w : World} {K : PySem.W.Frag} {mg : Str → Option Value} {base : Heap} {k : Nat} {x : Str} {st : Stmt} {N ps : List Str} {spd : DSpX} {m : DS} (hd : Dfn K mg x st) (S : FnScope N ps (defScope st)) (bnd : BindOk x ps st)
    (hb : ∀ (f : Addr) (cdv : Value) (A : Around) (outer : List Env) (s : Shared) (H : Hp) (E : XK), Room k (A.deeper (envOfC x (defScope st) s.heap.objs.size f cdv)) → A.guards = some [] →
      Takes (cxOf (L2.CX P w) P w K mg base N x (defScope st) f cdv A outer s H E) (WD E) → PDSs (WD E) (cxOf (L2.CX P w) P w K mg base N x (defScope st) f cdv A outer s H E) (defBody st) m)
    (hm : ∀ ds Qd Ed, ds.length = ps.length → spd ds Qd Ed → m { nx := fun _ => Qd .none, rt := Qd, rx := fun c _ => ∃ n, Ed n ∧ mg n = some c } (dstart N.length ds)) : DefX P w K mg base (k + 1) x ps spd := by
  obtain ⟨f, fd, hmg, F⟩ := hd
  refine ⟨f, fd, hmg, F.kp, F.binds bnd, fnGX_body F S (fun vs H Q E h => by obtain ⟨_, _, _, _, _, _, _, _, l, _⟩ := h; exact l) fun cdv A outer s H vs Q E hr hg h => ?_⟩
  obtain ⟨S', M, ds, Qd, Ed, hM, so, rs, hl, hsp, h6, h7⟩ := h
  obtain ⟨t, h1, l⟩ := hb f cdv A outer s H E hr hg (takes_of rfl rfl rfl rfl)
  refine ⟨t, h1, l S' M H H _ _ _ _ (ev_start hM so rs) (hm ds Qd Ed (by rw [← rs.length, hl]) hsp) ⟨fun σd σ H' q E2 => ?_, fun d v H' q k so _ r => h6 d v H' q k so r, fun _ _ _ q _ => q.elim, fun _ _ _ q _ => q.elim, fun c σd σ H' q E2 => ?_⟩⟩
  · exact h6 _ _ _ q E2.keep E2.src .non
  · obtain ⟨n, q1, q2⟩ := q
    exact h7 n c H' q1 q2 E2.keep E2.src
section
variable {X : Cx} {k j : Nat} {f : Addr} {fd : FuncData} {ps : List Str} {sp : Sp} {x : Str} {p pos : Pos} {e : Expr} {es : List Expr} {t : TA} {Wx : WX}
def dRetX (mg : Str → Option Value) (spd : DSpX) (m : DA) : DS := fun Dd σd => m σd fun ds => spd ds Dd.rt fun n => ∀ c, mg n = some c → Dd.rx c σd
theorem DefX.quiet {P : Program} {w : World} {K : PySem.W.Frag} {mg : Str → Option Value} {base : Heap} {spd : DSpX} (D : DefX P w K mg base j x ps spd) {spd' : DSp} (h : ∀ ds Q, spd' ds Q → spd ds Q fun _ => False) : DefOk P w K mg base j x ps spd' := by
  obtain ⟨f, fd, hm, kp, hb, F⟩ := D
  refine ⟨f, fd, hm, kp, hb, F.quiet fun vs H Q E ⟨S, M, ds, Qd, a1, a2, a3, a4, a5, a6⟩ => ⟨S, M, ds, Qd, _, a1, a2, a3, a4, h _ _ a5, a6, fun _ _ _ z => z.elim⟩⟩
structure OwnX (K : PySem.W.Frag) (mg : Str → Option Value) (x : Str) (C : Addr) (bmB : List Value) (newId : String) : Prop where
  gC : mg x = some (.ref C)
  kC : PySem.W.keepIn K (.ref C) = true
  ex : PySem.W.excIn K C bmB newId = true
  su : PySem.W.subIn K (.ref C) (.type "BaseException") = some true
  ty : PySem.W.typeIn K (.ref C) = some (.type "type")
theorem pmk_own0 {C : Addr} {bmB : List Value} {B newId initId : String} (F : ExcBaseFacts B newId initId bmB) (O : OwnX X.K X.mg x C bmB newId) (hg : Gl X x) (hdb : (x == ("__debug__" : Str)) = false := by decide) : PMk X (.Call (.Name x p) [] [] pos) (fun _ H Q => Q (.ref C) none H) := by
  intro pins s σ H Q I h
  refine wpAny_Call_Name_kw (ld_glob I hg O.gC ?_ hdb)
  refine PySem.W.callWith_K0 I.kIn O.kC ?_
  obtain ⟨bm, N, nm, qn, bs, hdct, sn, sub, ab, col, dd, k0, k1, k2, k3, k5, mN, hC, hN, hni, T⟩ := exc_obj I.kIn O.ex
  refine wpAny_call_exc_subT F T hC hN hni (fun h' e hm => ?_) (by show 0 ≤ sizeLine; omega)
  exact mk_of I hm (raises_own O.su O.ty) h (I.hok.gone hm.new)
def dRaise (mg : Str → Option Value) (n : Str) : DS := fun Dd σd => ∀ c, mg n = some c → Dd.rx c σd
theorem psd_raise0 {mg : Str → Option Value} {C : Addr} {bmB : List Value} {B newId initId : String} {pos' : Pos} (F : ExcBaseFacts B newId initId bmB) (O : OwnX X.K mg x C bmB newId) (hc : X.calm = true) (tk : Takes X Wx) (hg : Gl X x := by rfl) (hdb : (x == ("__debug__" : Str)) = false := by decide) :
    (eM : X.mg = mg) → PDS Wx X (.Raise (some (.Call (.Name x p) [] [] pos)) none pos') (dRaise mg x) := fun eM => by
  subst eM
  exact ⟨_, ps_raise hc tk (pmk_own0 F O hg hdb), fun S M H0 H σ σd Dd Dn E hm r => r.2.2.2.2 _ σd σ H (hm _ O.gC) E⟩
def dTry (K : PySem.W.Frag) (mg : Str → Option Value) (n : Str) (mb ms : DS) : DS := fun Dd σd => ∃ c, mg n = some c ∧ mb { Dd with rx := fun cls σd' => ∃ b, PySem.W.exmOne K cls c = some b ∧ (b = true → ms Dd σd') ∧ (b = false → Dd.rx cls σd') } σd
end
end PH

namespace PySem.W
open PySem PySem.Calls
theorem g3_run (a : Int) (t : Tok) (b : Int) (u : Tok) (c : Int) (v : Tok) : Gives (Builtin.«math.gcd» ⟨[.int a t, .int b u, .int c v], []⟩) (.int (((((Nat.gcd 0 a.natAbs).gcd b.natAbs).gcd c.natAbs : Nat) : Int))) :=
  .of_wp fun M A E s Q h => by obtain ⟨hp, g, d, tk, os⟩ := s; wp_walk; exact ⟨_, rfl, h⟩
theorem g3_args (a b c : Value) : argsOk "math.gcd" ⟨[a, b, c], []⟩ := by unfold argsOk; kernel_rfl
end PySem.W
namespace PH
open PySem PySem.Spec L2
open PyProof.Rows (envOfC AllBare IntsAre)
section
variable {X : Cx}
def dGcd3 : DRC := fun ds Q => match ds with | [.int a, .int b, .int c] => Q (.int (((Nat.gcd (Nat.gcd a.natAbs b.natAbs) c.natAbs : Nat)) : Int)) | _ => False
def rGcd3 : List V → Hp → VK → Prop := fun vs H Q => ∃ a b c : Int, vs = [.int a, .int b, .int c] ∧ Q (.int (((Nat.gcd (Nat.gcd a.natAbs b.natAbs) c.natAbs : Nat)) : Int)) H
theorem lc_gcd3 : LC rGcd3 dGcd3 := by
  intro S M H xs ds Qd Q hm r h k
  unfold dGcd3 at h
  split at h
  · cases r with
    | cons a r =>
    cases r with
    | cons b r =>
    cases r with
    | cons c r =>
    cases r; cases a; cases b; cases c
    exact ⟨_, _, _, rfl, k _ _ H h (Same.refl _) (.int _)⟩
  · exact h.elim
theorem cr_gcd3 : CallR X (.builtin "math.gcd") rGcd3 := by
  intro pins s σ H vs us Q I r h
  obtain ⟨a, b, c, rfl, q⟩ := h
  obtain ⟨u1, u2, u3, rfl, ⟨t1, rfl⟩, ⟨t2, rfl⟩, ⟨t3, rfl⟩⟩ := vals3 r
  have g := PySem.W.g3_run a t1 b t2 c t3
  rw [Nat.gcd_zero_left] at g
  exact PySem.call_function_meets PySem.W.MGF.kind_gcd PySem.W.MGF.plain_gcd PySem.W.MGF.entry_gcd (PySem.W.g3_args _ _ _) g.meets ⟨.int _, H, I.tok _, ⟨_, rfl⟩, q⟩
def dIsB (neg : Bool) : DR2 := fun x y Q => match x, y with | .bool a, .bool b => Q (.bool (if neg = true then !(a == b) else a == b)) | _, _ => False
variable {a b : Expr} {ma mb : DE} {pos : Pos}
end
def ownB (K : PySem.W.Frag) (x : Str) : Bool := match PySem.W.nsIn K mainGlobals x with
  | some (some (.ref C)) => PySem.W.keepIn K (.ref C) && PySem.W.excIn K C [.type "ValueError", .type "Exception", .type "BaseException", .type "object"] "ValueError.__new__" && (PySem.W.subIn K (.ref C) (.type "BaseException") == some true) && (PySem.W.typeIn K (.ref C) == some (.type "type")) && (PySem.W.exmOne K (.ref C) (.ref C) == some true)
  | _ => false
abbrev OwnV (K : PySem.W.Frag) (mg : Str → Option Value) (x : Str) : Prop := ∃ C, OwnX K mg x C [.type "ValueError", .type "Exception", .type "BaseException", .type "object"] "ValueError.__new__" ∧ PySem.W.exmOne K (.ref C) (.ref C) = some true
theorem ownB_ok {K : PySem.W.Frag} {h : Heap} {mg : Str → Option Value} {x : Str} (X : K.In h) (G : h.Ns mainGlobals mg) (c : ownB K x = true) : OwnV K mg x := by
  unfold ownB at c
  split at c
  · rename_i C e
    simp only [Bool.and_eq_true, beq_iff_eq] at c
    exact ⟨C, ⟨PySem.W.mg_of X G e, c.1.1.1.1, c.1.1.1.2, c.1.1.2, c.1.2⟩, c.2⟩
  · cases c
end PH

namespace PH
open PySem PySem.Spec L2
open PyProof.Rows (envOfC AllBare IntsAre)
section
variable {X : Cx} {a b c : Expr} {pos : Pos} {ma mb mc : DE}
def dChain (dr dr' : DR2) (ma mb mc : DE) : DE := fun σd Q => ma σd fun x => mb σd fun y => dr x y fun z => match z with
  | .bool k => (if k = true then mc σd fun w => dr' y w Q else Q (.bool false))
  | _ => False
end
end PH

namespace PH
open PySem PySem.Spec L2
theorem dFor_k {mi : DA} {g : DG} {mb rest : DS} {Dd : DEnds} {σd : DSt} (ys : List D) (W : DSt → Prop) (hi : ∀ R : List D → Prop, R ys → mi σd R) (h0 : W σd)
    (ht : ∀ y, y ∈ ys → ∀ σ', W σ' → g y σ' fun σ2 => mb { Dd with nx := W, ct := W, bk := rest Dd } σ2) (hr : ∀ σ', W σ' → rest Dd σ') : dSeq (dFor mi g mb) rest Dd σd :=
  hi _ ⟨fun _ => W, h0, fun _ y σ' e w => ht y (List.mem_of_getElem? e) σ' w, hr⟩
theorem dIf_k {c : DT} {t e rest : DS} {Dd : DEnds} {σd : DSt} (b : Bool) (P : DSt → Prop) (hc : ∀ R : Bool → Prop, R b → c σd R) (ht : b = true → ∀ N : DSt → Prop, (∀ σ, P σ → N σ) → t { Dd with nx := N } σd)
    (he : b = false → ∀ N : DSt → Prop, (∀ σ, P σ → N σ) → e { Dd with nx := N } σd) (hr : ∀ σ, P σ → rest Dd σ) : dSeq (dIf c t e) rest Dd σd :=
  hc _ (by cases b with
    | true => exact iteT (ht rfl _ hr)
    | false => exact iteF (he rfl _ hr))
theorem dIf_no {c : DT} {t rest : DS} {Dd : DEnds} {σd : DSt} (hc : ∀ R : Bool → Prop, R false → c σd R) (hr : rest Dd σd) : dSeq (dIf c t dNext) rest Dd σd := hc _ (iteF hr)
end PH
namespace PH
open PySem PySem.Spec L2
theorem dSeq_g {m n : DS} {Dd : DEnds} {σd : DSt} (P : DSt → Prop) (hm : ∀ N : DSt → Prop, (∀ σ, P σ → N σ) → m { Dd with nx := N } σd) (hn : ∀ σ, P σ → n Dd σ) : dSeq m n Dd σd := hm _ hn
end PH

namespace PH
open PySem PySem.Spec L2
open PyProof.Rows (envOfC AllBare IntsAre)
section
variable {X : Cx} {a b e : Expr} {pos p2 : Pos} {ma mb : DE}
abbrev DO := DSt → (Option Int → Prop) → Prop
def LO (t : TO) (m : DO) : Prop := ∀ (S : Sr) (M : Addr → Prop) (H0 H : Hp) (σ : L2.St) (σd : DSt) (Qd : Option Int → Prop) (Q : Option Int → Hp → Prop), Ev S M H0 H σ σd → m σd Qd →
  (∀ o H', Qd o → Ev S M H0 H' σ σd → KeepS S H H' → Q o H') → t σ H Q
def PDO (X : Cx) (e : Option Expr) (m : DO) : Prop := ∃ t, PO X e t ∧ LO t m
def dNoPart : DO := fun _ Q => Q none
def dPart (m : DE) : DO := fun σd Q => m σd fun d => match d with | .int i => Q (some i) | _ => False
theorem pdo_none : PDO X none dNoPart := ⟨_, po_none, fun S M H0 H σ σd Qd Q E h k => k none H h E .refl⟩
theorem pdo_some (h : PD X e ma) : PDO X (some e) (dPart ma) := by
  obtain ⟨t, h1, l1⟩ := h
  refine ⟨_, po_some h1, fun S M H0 H σ σd Qd Q E h k => l1 S M H0 H σ σd _ _ E h fun d v H1 q E1 k1 r1 => ?_⟩
  cases r1 <;> first | exact q.elim | skip
  exact ⟨_, rfl, k _ H1 q E1 k1⟩
def cutD (xs : List D) (lo hi : Option Int) : List D := (xs.drop (HT.sIx xs.length 0 lo)).take (HT.sIx xs.length xs.length hi - HT.sIx xs.length 0 lo)
theorem Dqs.cut {S : Sr} {M : Addr → Prop} {H : Hp} {xs : List V} {ds : List D} (r : Dqs S M H xs ds) (lo hi : Option Int) : Dqs S M H (cutV xs lo hi) (cutD ds lo hi) := by
  unfold cutV cutD
  rw [r.length]
  exact (r.drop _).take _
def dSlA (x : D) (lo hi : Option Int) (Q : D → Prop) : Prop := match x with
  | .list xs => Q (.list (cutD xs lo hi))
  | .tuple xs => Q (.tuple (cutD xs lo hi))
  | _ => False
def dSl (m : DE) (lo hi : DO) : DE := fun σd Q => m σd fun x => lo σd fun l => hi σd fun u => dSlA x l u Q
abbrev rSlE (K : PySem.W.Frag) : V → Option Int → Option Int → Hp → VK → Prop := fun x lo hi H Q => rSlL K x lo hi H Q ∨ rSlA K x lo hi H Q
theorem le_sl {t : TE} {tl th : TO} {m : DE} {lo hi : DO} (h : LE t m) (hl : LO tl lo) (hh : LO th hi) : LE (tSl (rSlE X.K) t tl th) (dSl m lo hi) := by
  intro S M H0 H σ σd Qd Q E hm k
  refine h S M H0 H σ σd _ _ E hm fun d v H1 q E1 k1 r1 => hl S M H0 H1 σ σd _ _ E1 q fun l H2 q E2 k2 => hh S M H0 H2 σ σd _ _ E2 q fun u H3 q E3 k3 => ?_
  have r3 := E2.dq k3 (E1.dq k2 r1)
  have kk := k1.trans (k2.trans k3)
  cases r3 with
  | non => exact q.elim
  | bl b => exact q.elim
  | int i => exact q.elim
  | str x => exact q.elim
  | dic n e => exact q.elim
  | src e => exact q.elim
  | dit n e r => exact q.elim
  | ndt n e => exact q.elim
  | hep c n nb e x => exact q.elim
  | @lst a xs ds na e r =>
    refine .inl ⟨a, xs, rfl, .inl (.inl e), fun p hp => ?_⟩
    have s := Same.upd (o := .lst (cutV xs l u)) hp
    refine k _ _ _ q (E3.same s) (kk.trans (.of s)) (.lst (fun z => E3.mtO p z hp) upd_same ?_)
    exact E3.dqs (.of s) (r.cut l u)
  | @tup a xs ds na e r =>
    have hlen := r.length
    refine .inr ⟨a, xs, rfl, .inl (.inl e), fun hw => ?_, fun hw p hp => ?_⟩
    · have e2 : cutD ds l u = ds := by
        unfold cutD
        rw [← hlen, hw.1, hw.2, hlen]
        simp
      refine k _ _ H3 q E3 kk ?_
      rw [e2]
      exact .tup na e r
    · have s := Same.upd (o := .tup (cutV xs l u)) hp
      refine k _ _ _ q (E3.same s) (kk.trans (.of s)) (.tup (fun z => E3.mtO p z hp) upd_same ?_)
      exact E3.dqs (.of s) (r.cut l u)
theorem pd_sl {lo hi : Option Expr} {ml mh : DO} (ha : PD X e ma) (hl : PDO X lo ml) (hh : PDO X hi mh) : PD X (.Subscript e (.Slice lo hi none p2) pos) (dSl ma ml mh) :=
  let ⟨_, h1, l1⟩ := ha; let ⟨_, h2, l2⟩ := hl; let ⟨_, h3, l3⟩ := hh; ⟨_, pe_slice (SlR.or sl_list sl_tupA) h1 h2 h3, le_sl l1 l2 l3⟩
def dIn (neg : Bool) : DR2 := fun x y Q => match y with
  | .list ds => SeqAt.shaped x = true ∧ SeqAt.shaped (.list ds) = true ∧ Q (.bool (if neg = true then !(ds.any fun z => PyData.eqv z x) else ds.any fun z => PyData.eqv z x))
  | .tuple ds => SeqAt.shaped x = true ∧ SeqAt.shaped (.list ds) = true ∧ Q (.bool (if neg = true then !(ds.any fun z => PyData.eqv z x) else ds.any fun z => PyData.eqv z x))
  | _ => False
def rInT (K : PySem.W.Frag) (neg : Bool) : R2 := fun x y H Q => ∃ d ds, Dp K H x d ∧ (Dp K H y (.list ds) ∨ Dp K H y (.tuple ds)) ∧ SeqAt.shaped d = true ∧ SeqAt.shaped (.list ds) = true ∧ Q (.bl (if neg = true then !(ds.any fun z => PyData.eqv z d) else ds.any fun z => PyData.eqv z d)) H
theorem op_notInT (hu : X.A.units + 65 < cLine) : OpR X (compareOp .NotIn) (rInT X.K true) := by
  intro pins s σ H x y v u Q I rx ry h
  obtain ⟨d, ds, hd, he, sd, se, q⟩ := h
  obtain ⟨as, r1⟩ := Dp.reads I d x v hd rx
  rcases he with he | he
  · obtain ⟨bs, r2⟩ := Dp.reads I (.list ds) y u he ry
    exact SeqAt.notIn_list_reads r2 r1 (SeqAt.canLay_of_shaped se) (SeqAt.canLay_of_shaped sd) (PyProof.Rows.room_in_shaped sd hu) ⟨.bl _, H, I, rfl, q⟩
  · obtain ⟨bs, r2⟩ := Dp.reads I (.tuple ds) y u he ry
    exact SeqAt.notIn_tuple_reads r2 r1 (SeqAt.canLay_of_shaped se) (SeqAt.canLay_of_shaped sd) (PyProof.Rows.room_in_shaped sd hu) ⟨.bl _, H, I, rfl, q⟩
theorem shaped_lay {ds : List D} (h : SeqAt.shaped (.list ds) = true) : (PyData.tuple ds).canLay0 = true := by
  have := lay_of h
  simpa [PyData.canLay0] using this
theorem lr_inT {neg : Bool} : LR (rInT X.K neg) (dIn neg) := by
  intro S M H x y dx dy Qd Q hm rx ry h k
  unfold dIn at h
  split at h
  · obtain ⟨h1, h2, h3⟩ := h
    exact ⟨_, _, rx.dp (lay_of h1), .inl (ry.dp (lay_of h2)), h1, h2, k _ _ H h3 (Same.refl _) (.bl _)⟩
  · obtain ⟨h1, h2, h3⟩ := h
    exact ⟨_, _, rx.dp (lay_of h1), .inr (ry.dp (shaped_lay h2)), h1, h2, k _ _ H h3 (Same.refl _) (.bl _)⟩
  · exact h.elim
theorem pdt_notin (hu : X.A.units + 65 < cLine) (ha : PD X a ma) (hb : PD X b mb) (hm : behindInMarks .NotIn b = false := by rfl) : PDT X (.Compare a [.NotIn] [b] pos) (dBoolT (dOp (dIn true) ma mb)) := pdt_cmp (op_notInT hu) lr_inT ha hb hm
def isNon : D → Bool
  | .none => true
  | _ => false
def dIsN (neg : Bool) : DR2 := fun x y Q => match y with | .none => Q (.bool (if neg = true then !isNon x else isNon x)) | _ => False
theorem dgl_nil : ∀ ds σd Q, dgNil ds σd Q → ds.length = 0 := fun ds σd Q h => by cases ds with | nil => rfl | cons _ _ => exact h.elim
theorem dgl_cons {i n : Nat} {dg : DGs} (q : ∀ ds σd Q, dg ds σd Q → ds.length = n) : ∀ ds σd Q, dgCons (dgName i) dg ds σd Q → ds.length = n + 1 := fun ds σd Q z => by
  cases ds with
  | nil => exact z.elim
  | cons d r => exact congrArg (· + 1) (q r _ Q z)
theorem psd_setLci {Wx : WX} {tg iter elt c : Expr} {i : Nat} {y : Str} {py spos : Pos} {scope : Scope} {own : List (Str × Nat)} {mi : DA} {g : TG} {dg : DG} {mt : DT} {me : DE} (hc : X.calm = true) (hN : X.N.Nodup) (hy : X.N[i]? = some y) (hyl : X.env.scope.names.lookup y = some .local)
    (hsw : swapsWith (.ListComp elt [⟨tg, iter, [c], 0⟩] scope pos) (some (.Name y py)) spos.line X.env = pure true) (hi : PDI X tg iter mi) (ok : blkC X.N X.env.scope scope own = true)
    (hg : ∀ (s : Shared) (H : Hp) (C : Addr) (cl : List (Str × Addr)) (fp : List Addr), PG (X.blk s H scope (compEnvC scope cl C X.env) fp) tg g) (lg : LG g dg) (sg : Sets g (own.map (·.2)))
    (ht : ∀ (s : Shared) (H : Hp) (C : Addr) (cl : List (Str × Addr)) (fp : List Addr), PDT (X.blk s H scope (compEnvC scope cl C X.env) fp) c mt)
    (he : ∀ (s : Shared) (H : Hp) (C : Addr) (cl : List (Str × Addr)) (fp : List Addr), PD (X.blk s H scope (compEnvC scope cl C X.env) fp) elt me) (hs : ∀ x, foldedSetIterable iter X.env x = pure x := by intro _; rfl) :
    PDS Wx X (.Assign [.Name y py] (.ListComp elt [⟨tg, iter, [c], 0⟩] scope pos) spos) (dAsg (dLst (dLcc mi dg mt me (own.map (·.2)))) (dgName i)) :=
  let ⟨_, h1, l1⟩ := hi; ⟨_, ps_setLc hc hN hy hyl hsw h1 (blkOk_by ok) hg (fun s H C cl fp => pts_one (ht s H C cl fp).pt) (fun s H C cl fp => (he s H C cl fp).pe) hs, ls_asg (ln_lc l1 lg sg lt_ofT le_of).le (lg_name i)⟩
end
end PH
namespace PH
open L2
theorem _root_.L2.Room.units2 {k : Nat} {A : PySem.Around} (r : L2.Room k A) : A.units + 65 < PySem.cLine := by have := r.un; omega
end PH

namespace PH
open PySem PySem.Spec L2
open PyProof.Rows (envOfC AllBare IntsAre)
def intsOf : List D → Option (List Int)
  | [] => some []
  | .int b :: r => (intsOf r).map (b :: ·)
  | _ => none
theorem intsOf_vs {S : Sr} {M : Addr → Prop} {H : Hp} : ∀ {vs : List V} {ds : List D} {bs : List Int}, Dqs S M H vs ds → intsOf ds = some bs → vs = bs.map V.int
  | _, _, _, .nil, h => by cases h; rfl
  | _, _, _, .cons a r, h => by
    cases a <;> simp only [intsOf] at h <;> try cases h
    obtain ⟨b', h1, h2⟩ := Option.map_eq_some_iff.mp h
    subst h2
    rw [intsOf_vs r h1]; rfl
theorem intsOf_map (ns : List Int) : intsOf (ns.map PyData.int) = some ns := by
  induction ns with
  | nil => rfl
  | cons n ns ih => simp [intsOf, ih]
def dSum : DRC := fun ds Q => match ds with
  | [.list xs] => (match intsOf xs with | some ns => Q (.int ns.sum) | none => False)
  | _ => False
theorem lc_sum {K : PySem.W.Frag} : LC (rSum K) dSum := by
  intro S M H xs ds Qd Q hm r h k
  unfold dSum at h
  split at h
  · split at h
    · rename_i bs e
      cases r with
      | cons a b =>
        cases b
        cases a with
        | lst na ea ra => exact ⟨_, bs, rfl, .inl (.inl (by rw [← intsOf_vs ra e]; exact ea)), k _ _ H h (Same.refl _) (.int _)⟩
    · exact h.elim
  · exact h.elim
def dAny : DRC := fun ds Q => match ds with
  | [.list xs] => (match boolsD xs with | some bs => Q (.bool (bs.any id)) | none => False)
  | _ => False
theorem lc_any {K : PySem.W.Frag} : LC (rAny K) dAny := by
  intro S M H xs ds Qd Q hm r h k
  unfold dAny at h
  split at h
  · split at h
    · rename_i bs e
      cases r with
      | cons a b =>
        cases b
        cases a with
        | lst na ea ra => exact ⟨_, bs, rfl, .inl (.inl (by rw [← boolsD_vs ra e]; exact ea)), k _ _ H h (Same.refl _) (.bl _)⟩
    · exact h.elim
  · exact h.elim
def dTupOf : DRC := fun ds Q => match ds with
  | [.list xs] => Q (.tuple xs)
  | [.tuple xs] => Q (.tuple xs)
  | _ => False
theorem lc_tupOf {K : PySem.W.Frag} : LC (fun xs H Q => ∃ p ys, xs = [.ref p] ∧ ((SqL K H p ys ∧ ∀ l, H l = none → Q (.ref l) (upd H l (.tup ys))) ∨ (SqT K H p ys ∧ Q (.ref p) H))) dTupOf := by
  intro S M H xs ds Qd Q hm r h k
  unfold dTupOf at h
  split at h
  · cases r with
    | cons a b =>
      cases b
      cases a with
      | @lst a' vs _ na ea ra =>
        refine ⟨_, _, rfl, .inl ⟨.inl (.inl ea), fun l hl => ?_⟩⟩
        have s := Same.upd (o := .tup vs) hl
        exact k _ _ _ h s (.tup (fun z => hm l z hl) upd_same (ra.go fun a o n e => ⟨n, s a o e⟩))
  · cases r with
    | cons a b =>
      cases b
      cases a with
      | tup na ea ra => exact ⟨_, _, rfl, .inr ⟨.inl (.inl ea), k _ _ H h (Same.refl _) (.tup na ea ra)⟩⟩
  · exact h.elim
section
variable {S : Sr} {M : Addr → Prop} {H0 H H2 : Hp} {σ : L2.St} {σd : DSt}
end
section
variable {X : Cx} {Wx : WX} {b : Expr} {pos p1 : Pos}
def dParO (i j : Nat) (m : DE) : DS := fun Dd σd => m σd fun e => ∀ p, Dd.nx ((σd.set i (Sl.own p [])).set j (.val e))
end
end PH

namespace PH
open PySem PySem.Spec L2
open PyProof.Rows (envOfC AllBare IntsAre)
mutual
def listFree : D → Bool
  | .list _ => false
  | .dict _ => false
  | .tuple xs => listFrees xs
  | _ => true
def listFrees : List D → Bool
  | [] => true
  | x :: xs => listFree x && listFrees xs
end
section
variable {S : Sr} {M M' : Addr → Prop} {H : Hp}
end
section
variable {X : Cx} {Wx : WX}
end
end PH
namespace PH
open PySem PySem.Spec L2
open PyProof.Rows (envOfC AllBare IntsAre)
section
variable {X : Cx} {Wx : WX} {k jF jG i : Nat} {x xF xG : Str} {psF psG : List Str} {spF spG : DSp} {mA mB : DA} {mT : DT} {eA eB c rv : Expr} {esA esB : List Expr} {pF pG posF posG posL px pos1 pos2 pos3 pos4 posR : Pos}
  {pn3 pn4 ps3 ps4 pa3 pa4 pc3 pc4 pi3 pi4 pN3 pN4 : Pos} {q3 q4 r3 r4 : _} {tR : TE}
end
end PH

namespace PH
open PySem PySem.Spec L2
open PyProof.Rows (envOfC AllBare IntsAre)
section
variable {X : Cx} {e : Expr} {ma : DE}
def dRev (m : DE) : DE := fun σd Q => m σd fun x => match x with
  | .list xs => Q (.list xs.reverse)
  | _ => False
theorem le_rev {t : TE} {m : DE} (h : LE t m) : LE (tRevL X.K t) (dRev m) := by
  intro S M H0 H σ σd Qd Q E hm k
  refine h S M H0 H σ σd _ _ E hm fun d v H1 q E1 k1 r1 => ?_
  cases r1 <;> first | exact q.elim | skip
  rename_i a xs ds na e r
  refine ⟨a, xs, rfl, .inl (.inl e), fun p hp => ?_⟩
  have s := Same.upd (o := .lst xs.reverse) hp
  refine k _ _ _ q (E1.same s) (k1.trans (.of s)) (.lst (fun z => E1.mtO p z hp) upd_same ?_)
  exact E1.dqs (.of s) r.rev
theorem pd_rev {k : Nat} {p1 p2 p3 pos : Pos} (ha : PD X e ma) : PD X (.Subscript e (.Slice none none (some (.UnaryOp .USub (.Constant (.int 1) k p1) p2)) p3) pos) (dRev ma) := let ⟨_, h1, l1⟩ := ha; ⟨_, pe_revL h1, le_rev l1⟩
end
end PH

namespace PH
open PySem
section
variable {prog : Program} {w : World} {A : Around} {E : Value → Shared → Prop} {s : Shared}
end
end PH

namespace PH
open PySem PySem.W
variable {us vs : Array Value} {zz ti tO j1 j2 m1 m2 S : Addr}
section
variable {prog : Program} {w : World} {A : Around} {E : Value → Shared → Prop} {s : Shared}
end
section
variable {prog : Program} {w : World} {A : Around} {s : Shared} {R : Result → Shared → Prop}
end
end PH

namespace PH
open PySem PySem.W
section
variable {us vs : Array Value} {zz ti tO j1 j2 m1 m2 : Addr} {prog : Program} {w : World} {A : Around} {E : Value → Shared → Prop} {s : Shared}
end
end PH

namespace PH
open PySem PySem.Spec L2
open PyProof.Rows
section
variable {X : Cx} {pins : List (Addr × Obj)} {σ : L2.St} {H : Hp} {s : Shared}
end
section
variable {X : Cx} {e e2 : Expr} {ta : TA}
end
end PH

namespace PH
open PySem PySem.Spec L2
open PyProof.Rows (envOfC AllBare IntsAre)
section
variable {X : Cx} {e e2 : Expr} {ma : DA}
end
end PH
namespace PH
open PySem PySem.Spec L2
section
variable {X : Cx} {a b : Expr} {ma mb : DE}
end
end PH

namespace PH
open PySem PySem.Spec L2
open PyProof.Rows (envOfC AllBare IntsAre)
section
variable {X : Cx} {Wx : WX}
def dParC (i j : Nat) (spG : DSp) (me : DE) (mB : DA) : DS := fun Dd σd => me σd fun d1 => ∃ d2 : List D, listFrees d2 = true ∧ (mB σd fun ds => listFrees ds = true ∧ spG ds fun d => d = .list d2) ∧ ∀ p, Dd.nx ((σd.set i (.val d1)).set j (Sl.own p d2))
def dOwnC (i : Nat) (spG : DSp) (mB : DA) : DS := fun Dd σd => ∃ d2 : List D, listFrees d2 = true ∧ (mB σd fun ds => listFrees ds = true ∧ spG ds fun d => d = .list d2) ∧ ∀ p, Dd.nx (σd.set i (Sl.own p d2))
end
end PH

namespace PH
open PySem PySem.Spec PySem.Calls PyProof.Rows PySem.W
section
variable {prog : Program} {w : World} {A : Around} {E : Value → Shared → Prop} {s : Shared}
def SeqAt (h : Heap) (l : Addr) (vs : List Value) : Prop := ∃ o n, h.get? l = some o ∧ (o.cls = .type "list" ∨ o.cls = .type "tuple") ∧ o.data = .seq vs.toArray n
theorem collect_seq {l : Addr} {vs : List Value} {Q : List Value → Shared → Prop} (hl : SeqAt s.heap l vs) (hz : vs.length ≤ sizeLine)
    (k : Q vs { s with heap := (s.heap.push (seqObj "list" #[] 0)).update s.heap.objs.size (Obj.mapSeq (· ++ vs.toArray)) }) : wpAny (model prog w) A (collect (.ref l)) Q E s := by
  obtain ⟨o, n, ho, hc, hd⟩ := hl
  rcases hc with hc | hc
  · exact collect_list ⟨o, ho, hc, n, hd⟩ k hz
  unfold collect
  refine wpAny_bind (wpAny_runValue (codeAny_builtin entry_proto_collect' ?_))
  show wpAny _ _ (do again (.builtin "list.__iadd__" ⟨[← newList [], .ref l], []⟩)) _ _ s
  refine wpAny_bind (wpAny_newList (wpAny_pure ⟨Code.quiet_builtin _ (by decide +kernel), codeAny_builtin entry_list_iadd' ?_⟩))
  show wpAny _ _ (Builtin.List.listExtendWith (.ref s.heap.objs.size) (.ref l) (.ref s.heap.objs.size)) _ _ { s with heap := s.heap.push (seqObj "list" #[] 0) }
  unfold Builtin.List.listExtendWith
  have e1 : (s.heap.push (seqObj "list" #[] 0)).get? l = some o := Heap.get?_push_of_some _ ho
  have e2 : (s.heap.push (seqObj "list" #[] 0)).get? s.heap.objs.size = some (seqObj "list" #[] 0) := Heap.get?_push_size _ rfl
  refine wpAny_bind (wpAny_typeOf (T := "tuple") ⟨o, e1, hc⟩ ?_)
  have tt : (Value.type "tuple" == Value.type "tuple") = true := by rfl
  rw [if_pos (by rw [tt]; simp)]
  refine wpAny_bind (listItems_at e1 hd ?_)
  refine wpAny_bind (listItems_at (xs := #[]) (n := 0) e2 rfl ?_)
  rw [if_neg (by simp)]
  refine wpAny_bind (listUpdate_at (xs := #[]) (n := 0) e2 rfl ?_ (Nat.zero_le _) (by show (#[] ++ vs.toArray).size ≤ sizeLine + 1; simp; omega))
  refine wpAny_pure ?_
  show wpAny (model prog w) A (do
      let o ← load s.heap.objs.size
      match o.data with
      | .seq xs _ => pure xs.toList
      | _ => unsupported "internal:collect") Q E { s with heap := (s.heap.push (seqObj "list" #[] 0)).update s.heap.objs.size (Obj.mapSeq (· ++ vs.toArray)) }
  refine wpAny_bind (wpAny_load (get?_update_seq e2 _) ?_)
  show wpAny _ _ (pure ((#[] : Array Value) ++ vs.toArray).toList) Q E _
  have e3 : ((#[] : Array Value) ++ vs.toArray).toList = vs := by simp
  rw [e3]
  exact wpAny_pure k
theorem sorted_of_seq {l : Addr} {vs : List Value} {kw : List (Str × Value)} {Q : Value → Shared → Prop} (hl : SeqAt s.heap l vs) (hz : vs.length ≤ sizeLine) (a1 : argsOk "sorted" ⟨[.ref l], kw⟩) (a2 : ∀ x, argsOk "list.sort" ⟨[.ref x], kw⟩)
    (go : ∀ E' : Value → Shared → Prop, wpAny (model prog w) A.in1.in1 (Builtin.«list.sort» ⟨[.ref (s.heap.objs.size + 1)], kw⟩) (fun f s' => f = .done (.ret .none) ∧ Q (.ref (s.heap.objs.size + 1)) s') E' { s with heap := copyHeap s.heap vs }) :
    wpAny (model prog w) A (call (.builtin "sorted") [.ref l] kw) Q E s := by
  refine call_function_entry_kw kind_sorted plain_sorted entry_sorted a1 ?_
  unfold Builtin.«sorted»
  refine wpAny_bind (m := checkCount "sorted" 1 1 _) (wpAny_pure ?_)
  refine wpAny_bind (collect_seq hl hz ?_)
  refine wpAny_bind (wpAny_newList ?_ hz)
  have es : ((s.heap.push (seqObj "list" #[] 0)).update s.heap.objs.size (Obj.mapSeq (· ++ vs.toArray))).objs.size = s.heap.objs.size + 1 := by rw [Heap.size_update, size_push']
  show wpAny _ _ _ _ _ { s with heap := copyHeap s.heap vs }
  rw [es]
  refine wpAny_bind (wpAny_holding (wpAny_call_entry_kw slot_list_sort ⟨_, copyHeap_at s.heap vs, rfl⟩ entry_list_sort (wpAny_mono (go _) (fun f s' hf => ?_) fun _ _ e => e) (a2 _)))
  obtain ⟨rfl, hq⟩ := hf
  exact ⟨_, rfl, wpAny_pure ⟨_, rfl, hq⟩⟩
end
end PH

namespace PH
open PySem PySem.Spec PyProof.Rows L2 LamX NdefX
def KeepT (H H' : Hp) : Prop := ∀ a o, H a = some o → H' a = some o ∨ ∃ ps ps', o = .tbl ps ∧ H' a = some (.tbl ps')
theorem KeepT.ks {H H' : Hp} (h : KeepT H H') {S : Sr} : KeepS S H H' := fun a o e _ => h a o e
def LamAt (h : Heap) (f : Addr) (q : Str) (pa : Arguments) (bd : Expr) (sc : Scope) (cl : List (Str × Addr)) (c' : Addr) : Prop := ∃ pm ctv, h.get? f = some (PySem.W.kla_obj "<lambda>" q pa bd sc cl pm c' ctv)
abbrev lamF (q : Str) (pa : Arguments) (sc : Scope) (cl : List (Str × Addr)) (c' : Addr) : NF := ⟨"<lambda>", q, pa, [], sc, cl, c'⟩
section
variable {X : Cx} {pins : List (Addr × Obj)} {σ : L2.St} {H : Hp} {s : Shared}
theorem lamT_make {c P : Addr} {q : Str} {pa : Arguments} {bd : Expr} {sc : Scope} {pos : Pos} {E Q : Value → Shared → Prop} (I : Inv X pins σ H s) (B : TabB X.base X.mg c P) (ec : X.env.code = .ref c) (eq : X.env.qual ++ "<lambda>" = q)
    (mT : (P, q) ∈ lamTabs) (uT : ∀ p ∈ lamTabs, p.1 = P → p.2 = q) (T : Tabs lamTabs H) (ed : defaultsOf pa X.env = ([], [])) (hf : ∀ y ∈ sc.names, y.2 = .free → ∃ c, X.env.cells.lookup y.1 = some c)
    (k : ∀ (f c' : Addr) (H1 : Hp) (s' : Shared), Inv X pins σ H1 s' → KeepT H H1 → Tabs lamTabs H1 → LamAt s'.heap f q pa bd sc (cloFrom X.env.cells sc.names []) c' → s.heap.objs.size ≤ f → H1 f = none → H1 c' = some (CodeO c' q) → Q (.ref f) s') :
    wpAny (model X.prog X.w) X.A (eval (.Lambda pa bd sc pos) X.env) Q E s := by
  obtain ⟨ps, eP, tr, am⟩ := T _ mT
  dsimp only at eP am
  refine PySem.W.kla_eval ed ?_
  rw [eq]
  have oP : s.heap.get? P = some { cls := .none, data := .fields ps } := I.hok P _ eP
  have g0 := I.mod.glob.keeps I.bk
  rcases hc : codeAmong pos ps.toList with _ | cv
  · refine PySem.W.kla_makeFunction (mg := X.mg) (c := c) (P := P) (ps := ps) (closure_ok hf) I.ok.glob g0 ec (B.code.keeps I.bk) oP tr hc B.gP (B.bm.keeps I.bk) ?_
    intro c' ctv h' tk ex ge lt rec tab
    obtain ⟨c2, oc, vs, t, z, r1, r2, r3⟩ := rec
    obtain rfl : c' = c2 := by injection z
    have nC : H c' = none := I.hok.fresh ge
    have sz : s.heap.objs.size ≤ h'.objs.size := Nat.le_trans ge (Nat.le_of_lt lt)
    let more : Array Value := #[rawInt pos.line, rawInt pos.col, .ref c']
    let Hn : Hp := upd (upd H P (.tbl (ps ++ more))) c' (CodeO c' q)
    have J := inv_table (t' := tk) (more := more) (h' := h'.push (PySem.W.kla_obj "<lambda>" q pa bd sc (cloFrom X.env.cells sc.names []) ((X.mg "__name__").getD .none) c' ctv)) I eP
      (fun b o nb e => Heap.get?_push_of_some _ (ex b o nb e)) (Heap.get?_push_of_some _ tab) ge ⟨oc, vs, t, Heap.get?_push_of_some _ r1, r2, r3⟩
    have old : ∀ b o, H b = some o → (∀ qs, o ≠ .tbl qs) → Hn b = some o := fun b o e n => by
      show upd (upd H P _) c' _ b = _
      rw [upd_ne (ne_of_none e nC), upd_ne fun z => n ps ?_, e]
      rw [z, eP] at e
      exact (Option.some.inj e).symm
    have fP : h'.objs.size ≠ P := fun z => Nat.lt_irrefl _ (Nat.lt_of_lt_of_le (Heap.lt_size oP) (z ▸ sz))
    refine k h'.objs.size c' Hn _ J (fun b o e => ?_) (fun p hp => ?_) ⟨_, _, Heap.get?_push_size _ rfl⟩ sz ?_ upd_same
    · by_cases hb : b = P
      · subst hb
        obtain rfl : o = .tbl ps := Option.some.inj (e.symm.trans eP)
        exact .inr ⟨ps, ps ++ more, rfl, by show upd (upd H b _) c' _ b = _; rw [upd_ne (ne_of_none eP nC), upd_same]⟩
      · exact .inl (by show upd (upd H P _) c' _ b = _; rw [upd_ne (ne_of_none e nC), upd_ne hb, e])
    · by_cases hb : p.1 = P
      · have e2 := uT p hp hb
        refine ⟨ps ++ more, by rw [hb]; show upd (upd H P _) c' _ P = _; rw [upd_ne (ne_of_none eP nC), upd_same], ?_, fun pos' cv hcv => ?_⟩
        · rw [Array.toList_append]; exact PySem.TriplesOk_snoc _ _ _ _ tr
        · rw [Array.toList_append] at hcv
          rw [e2]
          rcases among_app _ tr hcv with z | z
          · obtain ⟨d, z1, z2⟩ := am pos' cv z
            exact ⟨d, z1, old d _ z2 codeO_ne⟩
          · exact ⟨c', z, upd_same⟩
      · obtain ⟨qs, a1, a2, a3⟩ := T p hp
        refine ⟨qs, by show upd (upd H P _) c' _ p.1 = _; rw [upd_ne (ne_of_none a1 nC), upd_ne hb, a1], a2, fun pos' cv hcv => ?_⟩
        obtain ⟨d, z1, z2⟩ := a3 pos' cv hcv
        exact ⟨d, z1, old d _ z2 codeO_ne⟩
    · show upd (upd H P _) c' _ h'.objs.size = _
      rw [upd_ne (Nat.ne_of_gt lt), upd_ne fP]
      exact I.hok.fresh sz
  · obtain ⟨c', rfl, co⟩ := am pos cv hc
    refine PySem.W.kla_makeFunctionHit (mg := X.mg) (c := c) (P := P) (ps := ps) (closure_ok hf) I.ok.glob g0 ec (B.code.keeps I.bk) oP tr hc (B.bm.keeps I.bk) ?_
    intro ctv h' tk ex sz
    have J : Inv X pins σ H { s with heap := h'.push (PySem.W.kla_obj "<lambda>" q pa bd sc (cloFrom X.env.cells sc.names []) ((X.mg "__name__").getD .none) c' ctv), toks := tk } := I.kept fun b o e => Heap.get?_push_of_some _ (ex b o e)
    exact k h'.objs.size c' H _ J (fun _ _ e => .inl e) T ⟨_, _, Heap.get?_push_size _ rfl⟩ sz (I.hok.fresh sz) co
theorem lamT_call {k : Nat} {A : Around} {f c' : Addr} {q x : Str} {pa : Arguments} {bd : Expr} {sc : Scope} {cl : List (Str × Addr)} {N fr : List Str} {ws : List (Option V)} {v : V} {u : Value} {Q : VK} {tb : TE} (I : Inv X pins σ H s) (e0 : Env0 X.prog X.w X.K X.mg X.base A X.stack s H) (hr : Room (k + 1) A)
    (S : NScope N [x] fr sc) (eb : ∀ (pm cv ctv u : Value), bindArgs (PySem.W.kla_fn "<lambda>" q pa bd sc cl pm cv ctv) ⟨[u], []⟩ = pure [(x, u)])
    (C : CellsAt cl fr ws s.heap H) (la : LamAt s.heap f q pa bd sc cl c') (hc : H c' = some (CodeO c' q)) (rv : RelV v u)
    (hb : ∀ (outer : List Env) (s : Shared) (H : Hp), Room k (A.deeper (envF (lamF q pa sc cl c') f s.heap.objs.size)) → PE (ncx C8.CX0 X.prog X.w X.K X.mg X.base N (lamF q pa sc cl c') f A outer s H C8.E0) bd tb)
    (h : tb (startF N [v] ws) H Q) : wpAny (model X.prog X.w) A (call (.ref f) [u]) (EP X pins σ Q) (fun _ _ => False) s := by
  obtain ⟨pm, ctv, ho⟩ := la
  have lim : s.heap.NoLimit := I.nolimit
  have rc : codeAny (model X.prog X.w) A (.call (.ref f) ⟨[u], []⟩) (CR C8.CX0 X.stack X.prog X.w H s Q C8.E0) s := by
    refine PySem.W.kla_callFunE hr.depth ho rfl S.co S.gen rfl (codeO_at I.hok hc) ?_
    rw [eb]
    refine wpAny_pure (wpAny_newFunctionEnv S.nocell (fun ⟨n, w⟩ hy => S.par n ?_) (fun h₁ hns hsb => ⟨lim.fresh _ hsb, ?_⟩) S.kind)
    · simp only [List.mem_singleton, Prod.mk.injEq] at hy
      simp [hy.1]
    have kp : ∀ b o, s.heap.get? b = some o → h₁.get? b = some o := fun b o e => hsb.extBut b o (Nat.ne_of_lt (Heap.lt_size e)) (Heap.get?_push_of_some _ e)
    have J := inv_startN (CX := C8.CX0) (E := C8.E0) (F := lamF q pa sc cl c') (f := f) (h₁ := h₁) (tk := s.toks + 1) (us := [u]) (vs := [v]) S hr.hd e0 rfl (.cons rv .nil) C hns kp
    refine PySem.W.kla_codeExpr (wpAny_mono ((hb X.stack s H (hr.deeper _)).run [] _ _ H Q J h) (fun v s' hq => ?_) fun e s' hq => hq)
    obtain ⟨w', H', J', rv', q'⟩ := hq
    exact ⟨w', H', J'.os, J'.bare, J'.base, J'.hok, rv', q'⟩
  refine wpAny_call (codeAny_mono rc fun r s' hq => ?_)
  rcases r with e | fl
  · exact hq
  · cases fl with
    | ret u => exact I.after hq
    | next => exact False.elim hq
    | brk => exact False.elim hq
    | cont => exact False.elim hq
end
end PH

namespace PH
open PySem PySem.Spec PySem.Calls PyProof.Rows PySem.W L2
section
variable {X : Cx} {pins : List (Addr × Obj)} {σ : L2.St} {H : Hp} {s : Shared}
def sPins (f : Addr) (fo : Obj) (L kS : Addr) (e1 e : Nat) (us : List Value) : List (Addr × Obj) := [(f, fo), (L, seqObj "list" #[] e1), (kS, seqObj "list" us.toArray e)]
theorem key_stored {f L kS : Addr} {fo : Obj} {e1 e : Nat} {us : List Value} {v : Value} {E : Value → Shared → Prop} {Q : Unit → Shared → Prop} {A : Around}
    (I : Inv X (pins ++ sPins f fo L kS e1 e us) σ H s) (nf : f ≠ kS) (nL : L ≠ kS) (np : ∀ p ∈ X.pn ++ pins, p.1 ≠ kS) (ge : X.s_0.heap.objs.size ≤ kS) (hz : us.length < sizeLine)
    (k : ∀ (e' : Nat) (s' : Shared), Inv X (pins ++ sPins f fo L kS e1 e' (us ++ [v])) σ H s' → Q () s') : wpAny (model X.prog X.w) A (Builtin.List.listUpdate (.ref kS) (·.push v)) Q E s := by
  have pin : ∀ p ∈ sPins f fo L kS e1 e us, _ := fun p hp => I.pin p (List.mem_append_right _ (List.mem_append_right _ hp))
  obtain ⟨oK, hK, lK, fK, dK⟩ := pin (kS, seqObj "list" us.toArray e) (by simp [sPins])
  obtain ⟨oL, hL, lL, fL, dL⟩ := pin (L, seqObj "list" #[] e1) (by simp [sPins])
  obtain ⟨oF, hF, lF, fF, dF⟩ := pin (f, fo) (by simp [sPins])
  have sb := Heap.SameBut.update s.heap kS (Obj.mapSeq (·.push v))
  obtain ⟨e', he'⟩ : ∃ e', (s.heap.update kS (Obj.mapSeq (·.push v))).get? kS = some (seqObj "list" (us.toArray.push v) e') := ⟨_, get?_update_seq oK (·.push v)⟩
  have ea : us.toArray.push v = (us ++ [v]).toArray := by simp
  rw [ea] at he'
  have I0 : Inv X pins σ H s := I.pins_of fun p hp => I.pin p (List.mem_append_right _ (List.mem_append_left _ hp))
  have I1 : Inv X pins σ H { s with heap := s.heap.update kS (Obj.mapSeq (·.push v)), toks := s.toks } := I0.turned (it := kS) (fun b o hb q => (sb.2 b hb).trans q) hK lK (.inr ge) (fun x c hx z => by
    obtain ⟨w, ob, o1, o2⟩ := I.cell x c hx
    rw [z, oK] at o1
    cases o1
    exact dK _ o2) np
  refine listUpdate_at oK rfl ?_ (by simpa using Nat.le_of_lt hz) (by simp; omega)
  refine k e' _ (I1.pins_of fun p hp => ?_)
  rcases List.mem_append.mp hp with hp | hp
  · exact I1.pin p (List.mem_append_right _ hp)
  · simp only [sPins, List.mem_cons, List.not_mem_nil, or_false] at hp
    rcases hp with rfl | rfl | rfl
    · exact ⟨(sb.2 f nf).trans oF, hF, lF, fF, dF⟩
    · exact ⟨(sb.2 L nL).trans oL, hL, lL, fL, dL⟩
    · exact ⟨he', hK, lK, fK, fun w z => by cases z⟩
theorem keys_loop {f L kS : Addr} {fo : Obj} {e1 : Nat} {vs : List Value} {xs : List V} {A : Around} {E : Value → Shared → Prop} {P : PySem.Fin → Shared → Prop} {W : Nat → List V → Hp → Prop}
    (I : ∃ e, Inv X (pins ++ sPins f fo L kS e1 e []) σ H s) (rx : Vals xs vs) (nf : f ≠ kS) (nL : L ≠ kS) (np : ∀ p ∈ X.pn ++ pins, p.1 ≠ kS) (ge : X.s_0.heap.objs.size ≤ kS) (hz : vs.length ≤ sizeLine) (w0 : W 0 [] H)
    (turn : ∀ (i : Nat) (x : V) (u : Value) (acc : List V) (H2 : Hp) (pn2 : List (Addr × Obj)) (s2 : Shared), xs[i]? = some x → RelV x u → acc.length = i → W i acc H2 → Inv X pn2 σ H2 s2 → s2.heap.get? f = some fo →
      wpAny (model X.prog X.w) A (call (.ref f) [u]) (EP X pn2 σ fun kv H3 => W (i + 1) (acc ++ [kv]) H3) (fun _ _ => False) s2)
    (fin : ∀ (acc : List V) (us : List Value) (H2 : Hp) (e : Nat) (s2 : Shared), Inv X (pins ++ sPins f fo L kS e1 e us) σ H2 s2 → Vals acc us → acc.length = vs.length → W vs.length acc H2 →
      wpAny (model X.prog X.w) A (ksk_end L false vs.toArray e1 (.ref kS) us.toArray) P E s2) :
    wpAny (model X.prog X.w) A (ksk_rest L (.ref f) false vs.toArray e1 (.ref kS)) P E s := by
  unfold ksk_rest
  refine wpAny_bind (wpAny_rule ?_)
  first
    | rw [List.forIn_toArray]
    | (rw [← Array.forIn_toList]; simp only [List.toList_toArray])
    | rw [← Array.forIn_toList]
  refine wpAny_bind (ksk_fold (fun i s' => ∃ (acc : List V) (us : List Value) (H2 : Hp) (e : Nat), Inv X (pins ++ sPins f fo L kS e1 e us) σ H2 s' ∧ Vals acc us ∧ acc.length = i ∧ W i acc H2) vs 0 s ?start ?step ?done)
  case start => obtain ⟨e, I⟩ := I; exact ⟨[], [], H, e, I, .nil, rfl, w0⟩
  case step =>
    rintro j u s' hu ⟨acc, us, H2, e, I2, ra, la, hw⟩
    simp only [Nat.zero_add] at la hw ⊢
    obtain ⟨x, hx, rv⟩ : ∃ x, xs[j]? = some x ∧ RelV x u := by
      have hj : j < xs.length := by rw [rx.length]; exact (List.getElem?_eq_some_iff.mp hu).1
      obtain ⟨u', h1, h2⟩ := rx.get (List.getElem?_eq_getElem hj)
      rw [hu] at h1
      cases h1
      exact ⟨_, List.getElem?_eq_getElem hj, h2⟩
    have lt : us.length < sizeLine := by
      have h1 : j < vs.length := (List.getElem?_eq_some_iff.mp hu).1
      rw [← ra.length, la]
      omega
    have oF := (I2.pin (f, fo) (List.mem_append_right _ (List.mem_append_right _ (by simp [sPins])))).1
    refine wpAny_bind (wpAny_attempt (wpAny_mono (turn j x u acc H2 _ s' hx rv la hw I2 oF) (fun v s2 hq => ?_) fun _ _ hF => hF.elim))
    obtain ⟨kv, H3, I3, rk, hw3⟩ := hq
    refine wpAny_bind (key_stored I3 nf nL np ge lt fun e' s3 I4 => ?_)
    refine wpAny_pure ⟨rfl, acc ++ [kv], us ++ [v], H3, e', I4, ?_, by simp [la], hw3⟩
    exact ra.append (.cons rk .nil)
  case done =>
    rintro s' ⟨acc, us, H2, e, I2, ra, la, hw⟩
    simp only [Nat.zero_add] at la hw
    have oK := (I2.pin (kS, seqObj "list" us.toArray e) (List.mem_append_right _ (List.mem_append_right _ (by simp [sPins])))).1
    try dsimp only
    refine wpAny_bind (listItems_at oK rfl ?_)
    exact fin acc us H2 e s' I2 ra la hw
theorem keys_end {f L kS : Addr} {fo : Obj} {e1 e : Nat} {vs us : List Value} {xs : List V} {A : Around} {E : Value → Shared → Prop} {P : PySem.Fin → Shared → Prop} {es : List D} {R : Value → D → Prop} {k : D → D}
    (I : Inv X (pins ++ sPins f fo L kS e1 e us) σ H s) (nL : L ≠ kS) (np : ∀ p ∈ X.pn ++ pins, p.1 ≠ kS ∧ p.1 ≠ L) (geL : X.s_0.heap.objs.size ≤ L) (ge : X.s_0.heap.objs.size ≤ kS) (hz : vs.length ≤ sizeLine) (rx : Vals xs vs)
    (lu : us.length = vs.length) (le : EachIs R vs es) (lk : EachIs (fun v d => ∃ as, Reads s.heap v d as) us (es.map k)) (al : AllAlike (es.map k)) (so : Sortable (es.map k)) (dp : ∀ d ∈ es.map k, A.units + d.depth < cLine)
    (fin : ∀ (out : List Value) (ys : List V) (s2 : Shared), EachIs R out (es.mergeSort (dataLe false k)) → Vals ys out → H L = none → Inv X pins σ (upd H L (.lst ys)) s2 → P (.done (.ret .none)) s2) :
    wpAny (model X.prog X.w) A (ksk_end L false vs.toArray e1 (.ref kS) us.toArray) P E s := by
  have pin : ∀ p ∈ sPins f fo L kS e1 e us, _ := fun p hp => I.pin p (List.mem_append_right _ (List.mem_append_right _ hp))
  obtain ⟨oK, hK, lK, fK, dK⟩ := pin (kS, seqObj "list" us.toArray e) (by simp [sPins])
  obtain ⟨oL, hL, lL, fL, dL⟩ := pin (L, seqObj "list" #[] e1) (by simp [sPins])
  have I0 : Inv X pins σ H s := I.pins_of fun p hp => I.pin p (List.mem_append_right _ (List.mem_append_left _ hp))
  -- all but the keys' store
  let Hk : Hp := fun b => if b = kS then some (.lst []) else none
  have h1n : (hidT s.heap Hk).get? kS = none := by
    cases z : (hidT s.heap Hk).get? kS with
    | none => rfl
    | some o => have := (of_hidT z).2; simp [Hk] at this
  have kp : KeepsBut L (hidT s.heap Hk) s.heap := fun b o _ q => (of_hidT q).1
  refine keyH_end (b := false) (κ := dataKind s.heap (es.map k)) (vs := vs) kp h1n oK oL nL.symm (by simpa using SortsAt.data lk al so dp) (by simpa using lu) hz fun h' tk c kp' oL' => ?_
  have eo : EachIs R (sortVals (dataKind s.heap (es.map k)) false us vs) (es.mergeSort (dataLe false k)) :=
    keyedOut_each (vs := vs) k ⟨s.heap, us, al, rfl, lk⟩ le
  have oL2 : h'.get? L = some (seqObj "list" (sortVals (dataKind s.heap (es.map k)) false us vs).toArray c) := by simpa using oL'
  generalize hO : sortVals (dataKind s.heap (es.map k)) false us vs = out at eo oL2
  have hlen : out.length = vs.length := by rw [← hO]; exact sortVals_length false lu
  obtain ⟨ys, ry⟩ : ∃ ys : List V, Vals ys out := by
    have mem : ∀ v ∈ out, v ∈ vs := fun v hv => sortVals_mem false (by rw [hO]; exact hv)
    clear hO eo oL2 hlen oL' 
    induction out with
    | nil => exact ⟨[], .nil⟩
    | cons v r ih =>
      obtain ⟨ys, h⟩ := ih fun w hw => mem w (by simp [hw])
      obtain ⟨i, hi⟩ := List.getElem?_of_mem (mem v (by simp))
      have hj : i < xs.length := by rw [rx.length]; exact (List.getElem?_eq_some_iff.mp hi).1
      obtain ⟨u', h1, h2⟩ := rx.get (List.getElem?_eq_getElem hj)
      rw [hi] at h1
      cases h1
      exact ⟨_, .cons h2 h⟩
  have kept : ∀ b o, b ≠ L → b ≠ kS → s.heap.get? b = some o → h'.get? b = some o := fun b o n1 n2 q => kp' b o n1 (hidT_get q (by show (if b = kS then _ else _) = none; rw [if_neg n2]))
  have cne : ∀ a, (∃ its m, s.heap.get? a = some (seqObj "list" its m)) → ∀ x c, X.env.cells.lookup x = some c → c ≠ a := fun a ⟨its, m, oa⟩ x c hx z => by
    obtain ⟨w, ob, o1, o2⟩ := I.cell x c hx
    rw [z, oa] at o1
    cases o1
    cases o2
  have ch : ∀ b, b ∉ [L, kS] → b ≠ L ∧ b ≠ kS := fun b hb => by simpa using hb
  have nL' : ∀ b u, H b = some u → b ≠ L := fun b u q z => by rw [z, hL] at q; cases q
  have nK' : ∀ b u, H b = some u → b ≠ kS := fun b u q z => by rw [z, hK] at q; cases q
  refine fin out ys _ eo ry hL (I0.step (g' := s.gens) (d' := s.drawn) (ch := [L, kS]) (fun b hb => ?_) (fun b o _ _ hc q _ => kept b o (ch b hc).1 (ch b hc).2 q) (fun b o _ _ hc q _ => ⟨o.slots, kept b o (ch b hc).1 (ch b hc).2 q⟩)
    (fun b o hc _ n => by rw [upd_ne (ch b hc).1]; exact n) (fun b o hc q => ⟨o, kept b o (ch b hc).1 (ch b hc).2 q⟩) (fun b xs q => by rw [upd_ne (nL' b _ q)]; exact q) (fun b o u q => by rw [upd_ne (nL' b _ q)]; exact q)
    (fun b qs q => ⟨#[], by rw [upd_ne (nL' b _ q), q]; simp⟩) (fun m hm => ?_) (fun b u q => ?_) I.bare)
  · simp only [List.mem_cons, List.not_mem_nil, or_false] at hb
    rcases hb with rfl | rfl
    · exact ⟨.inr geL, lL, cne _ ⟨_, _, oL⟩, fun p hp => (np p hp).2⟩
    · exact ⟨.inr ge, lK, cne _ ⟨_, _, oK⟩, fun p hp => (np p hp).1⟩
  · obtain ⟨o, es', ep, ho, r⟩ := hm
    exact ⟨o, es', ep, kept _ o lL.symm lK.symm ho, r⟩
  · by_cases hb : b = L
    · subst hb
      rw [upd_same] at q
      cases q
      exact ⟨by rw [ry.length, hlen]; exact hz, out, c, ry, oL2⟩
    · rw [upd_ne hb] at q
      refine (I0.hok b u q).stay (fun d v hd q2 => ?_) (fun d q2 => by rw [upd_ne (nL' d _ q2)]; exact q2) fun d xs q2 => by rw [upd_ne (nL' d _ q2)]; exact q2
      rcases hd with rfl | hd
      · exact kept _ _ hb (nK' _ _ q) q2
      · exact kept _ _ (nL' d _ hd) (nK' d _ hd) q2
end
end PH

namespace PH
open PySem PySem.Spec PySem.Calls PyProof.Rows PySem.W L2 LamX NdefX
def capD (σd : DSt) (j : Nat) : Sl := match σd[j]? with
  | some (.val d) => .val d
  | _ => .emp
theorem cap_no {σd : DSt} {js : List Nat} {x : D} {a : Addr} {es : List D} : Sl.own a es ∉ (.val x :: js.map (capD σd)) := fun h => by
  rcases List.mem_cons.mp h with h | h
  · cases h
  · obtain ⟨j, _, e⟩ := List.mem_map.mp h
    unfold capD at e
    split at e <;> cases e
theorem MO_cap {M : Addr → Prop} {σd : DSt} {js : List Nat} {x : D} {a : Addr} : MO M (.val x :: js.map (capD σd)) a ↔ M a := ⟨fun h => h.elim id fun ⟨_, z⟩ => absurd z cap_no, .inl⟩
section
variable {S : Sr} {M : Addr → Prop} {H0 H : Hp} {σ : L2.St} {σd : DSt}
theorem Ev.cap (E : Ev S M H0 H σ σd) {js : List Nat} {v : V} {d : D} {N : List Str} (hN : N.length = 1 + js.length) (q : Dq S (MO M σd) H v d) : Ev S (MO M σd) (fun a => H a) H (startF N [v] (js.map (slotAt σ))) (.val d :: js.map (capD σd)) := by
  have e0 : startF N [v] (js.map (slotAt σ)) = some v :: js.map (slotAt σ) := by
    unfold startF
    rw [hN]
    simp
  rw [e0]
  have g : ∀ {w : V} {e : D}, Dq S (MO M σd) H w e → Dq S (MO (MO M σd) (.val d :: js.map (capD σd))) H w e := fun r => r.go fun a o n e => ⟨fun z => n (MO_cap.mp z), e⟩
  refine ⟨by simp, fun i o sl h1 h2 => ?_, fun i j a ds es h1 _ => absurd (List.mem_of_getElem? h1) cap_no, fun a ds h => absurd h cap_no, E.srcO, fun p c e => ?_, .refl, E.mtO, E.mtO⟩
  · cases i with
    | zero =>
      simp only [List.getElem?_cons_zero, Option.some.injEq] at h1 h2
      subst h1; subst h2
      exact ⟨v, rfl, g q⟩
    | succ i =>
      simp only [List.getElem?_cons_succ, List.getElem?_map] at h1 h2
      cases hj : js[i]? with
      | none => rw [hj] at h1; cases h1
      | some j =>
        rw [hj] at h1 h2
        simp only [Option.map_some, Option.some.injEq] at h1 h2
        subst h1
        unfold capD at h2
        split at h2
        · rename_i e he
          subst h2
          obtain ⟨o, ho, w, hw, r⟩ := E.slot he
          subst hw
          exact ⟨w, slotAt_of ho, g r⟩
        · subst h2; trivial
  · obtain ⟨h1, h2, _⟩ := E.src.go p c e
    exact ⟨E.mtO p (.inl h1), E.mtO c (.inl h2)⟩
theorem SrcOk.ne (x : SrcOk S M H) {a : Addr} {o : HO} (e : H a = some o) (h1 : ∀ xs, o ≠ .lst xs) (h2 : ∀ kv, o ≠ .dK kv) : ∀ p c, S = some (p, c) → a ≠ p ∧ a ≠ c := fun p c q => by
  obtain ⟨_, _, _, ns, l, m, t, e1, e2⟩ := x.go p c q
  refine ⟨fun z => ?_, fun z => ?_⟩
  · rw [z, e2] at e; exact h2 _ (Option.some.inj e).symm
  · rw [z, e1] at e; exact h1 _ (Option.some.inj e).symm
end
theorem codeO_l {c : Addr} {q : Str} (xs : List V) : CodeO c q ≠ .lst xs := fun z => by unfold CodeO at z; cases z
theorem codeO_d {c : Addr} {q : Str} (kv : List (Key × V)) : CodeO c q ≠ .dK kv := fun z => by unfold CodeO at z; cases z
def sKey (js : List Nat) (me : DE) (σd : DSt) (es : List D) (Q : List D → Prop) : Prop := es.length ≤ 1000000 ∧ ∃ k : D → D, (∀ x ∈ es, me (.val x :: js.map (capD σd)) fun z => z = k x) ∧ AllAlike (es.map k) ∧ Sortable (es.map k) ∧ (∀ x ∈ es, noS (k x) = true ∧ (k x).depth ≤ 60) ∧ Q (es.mergeSort (dataLe false k))
def dSortK (m : DE) (js : List Nat) (me : DE) : DA := fun σd Q => m σd fun d => match d with
  | .list es => sKey js me σd es Q
  | .tuple es => sKey js me σd es Q
  | _ => False
def tOfN (m : DA) : TE := fun σ H Q => ∃ (S : Sr) (M : Addr → Prop) (H0 : Hp) (σd : DSt) (Qd : List D → Prop), Ev S M H0 H σ σd ∧ m σd Qd ∧ ∀ (ds : List D) (p : Addr) (xs : List V) (H' : Hp), Qd ds → Ev S M H0 H' σ σd → KeepS S H H' → H p = none → H' p = some (.lst xs) → Dqs S (fun a => MO M σd a ∨ a = p) H' xs ds → Q (.ref p) H'
theorem ln_of {m : DA} : LN (tOfN m) m := fun S M H0 H σ σd Qd Q E h k => ⟨S, M, H0, σd, Qd, E, h, k⟩
theorem vals_each {R : V → D → Prop} : ∀ {xs : List V} {us : List Value} {ds : List D}, Vals xs us → EachIs R xs ds → EachIs (fun u d => ∃ x, RelV x u ∧ R x d) us ds
  | _, _, _, .nil, .nil => .nil
  | _, _, _, .cons r t, .cons q s => .cons ⟨_, r, q⟩ (vals_each t s)
theorem dqs_each {S : Sr} {M : Addr → Prop} {H : Hp} : ∀ {xs : List V} {ds : List D}, Dqs S M H xs ds → EachIs (Dq S M H) xs ds
  | _, _, .nil => .nil
  | _, _, .cons a b => .cons a (dqs_each b)
theorem each_dqs {S : Sr} {M : Addr → Prop} {H : Hp} : ∀ {us : List Value} {ds : List D} {ys : List V}, EachIs (fun u d => ∃ x, RelV x u ∧ Dq S M H x d) us ds → Vals ys us → Dqs S M H ys ds
  | _, _, _, .nil, .nil => .nil
  | _, _, _, .cons ⟨x, r, q⟩ t, .cons r' t' => .cons (RelV.inj r r' ▸ q) (each_dqs t t')
structure LamOk (X : Cx) (N : List Str) (x q : Str) (fr : List Str) (js : List Nat) (pa : Arguments) (sc : Scope) (c P : Addr) : Prop where
  B : TabB X.base X.mg c P
  ec : X.env.code = .ref c
  eq : X.env.qual ++ "<lambda>" = q
  mT : (P, q) ∈ lamTabs
  uT : ∀ p ∈ lamTabs, p.1 = P → p.2 = q
  S : NScope N [x] fr sc
  nN : N.length = 1 + js.length
  ed : defaultsOf pa X.env = ([], [])
  hf : ∀ y ∈ sc.names, y.2 = .free → X.env.scope.names.lookup y.1 = some .cell ∨ X.env.scope.names.lookup y.1 = some .free
  hr : ∀ y ∈ fr, (y, NameKind.free) ∈ sc.names
  at_ : js.map (fun j => X.N[j]?) = fr.map some
set_option maxHeartbeats 1000000 in
theorem pe_sortK {X : Cx} {N fr : List Str} {x q : Str} {js : List Nat} {pa : Arguments} {bd : Expr} {sc : Scope} {c P : Addr} {k : Nat} {e : Expr} {p kp lp pos : Pos} {m me : DE} (L : LamOk X N x q fr js pa sc c P) (hr : Room (k + 3) X.A) (ha : PD X e m)
    (eb : ∀ (cl : List (Str × Addr)) (pm cv ctv u : Value), bindArgs (PySem.W.kla_fn "<lambda>" q pa bd sc cl pm cv ctv) ⟨[u], []⟩ = pure [(x, u)])
    (hb : ∀ (ql : Str) (cl : List (Str × Addr)) (d f : Addr) (outer : List Env) (s : Shared) (H : Hp), Room k (X.A.in1.in1.deeper (envF (lamF ql pa sc cl d) f s.heap.objs.size)) → PD (ncx C8.CX0 X.prog X.w X.K X.mg X.base N (lamF ql pa sc cl d) f X.A.in1.in1 outer s H C8.E0) bd me)
    (hg : Gl X "sorted") (hm : X.mg "sorted" = none) (hv : bootBuiltins "sorted" = some (.builtin "sorted"))
    (hs : starEach [e] X.env = (false, eval e X.env) :: starEach [] X.env := by rfl) (he : backTo pos (starEach [e] X.env) = (false, eval e X.env) :: backTo pos (starEach [] X.env) := by rfl) (hpl : (backTo pos (starEach [e] X.env)).any (·.1) = false := by rfl) :
    PE X (.Call (.Name "sorted" p) [e] [⟨some "key", .Lambda pa bd sc lp, kp⟩] pos) (tOfN (dSortK m js me)) := by
  refine ⟨fun pins s σ H Q I ⟨S, M, H0, σd, Qd, E, hq, hk⟩ => ?_⟩
  refine wpAny_Call_Name_kw (ld_blt I hg hm hv ?_ (by decide) (by decide))
  have hcells : ∀ y ∈ sc.names, y.2 = .free → ∃ c, X.env.cells.lookup y.1 = some c := fun y hy h => (L.hf y hy h).elim (fun z => I.ok.has _ (.inl z)) fun z => I.ok.has _ (.inr z)
  -- the list
  let B : D → Prop := fun d => match d with
    | .list es => sKey js me σd es Qd
    | .tuple es => sKey js me σd es Qd
    | _ => False
  let R0 : VK := fun v H1 => ∃ d, Ev S M H0 H1 σ σd ∧ KeepS S H H1 ∧ Dq S (MO M σd) H1 v d ∧ B d
  have hA := (pa_cons ha.pe pa_nil hs).run pos pins s σ H (fun vs H1 => ∃ v, vs = [v] ∧ R0 v H1) I ⟨S, M, H0, σd, B, E, hq, fun d v H1 q1 E1 k1 r1 => ⟨v, rfl, d, E1, k1, r1, q1⟩⟩
  refine PyProof.Rows.callWith_kw (thn hA fun us s1 h1 => ?_) he hpl rfl rfl
  obtain ⟨vs, H1, I1, rvs, v1, ev, d, E1, k1, rd, q1⟩ := h1
  subst ev
  obtain ⟨u1, eu, r1⟩ := vals1 rvs
  subst eu
  -- the lambda
  refine PyProof.Rows.kwAll_cons (lamT_make I1 L.B L.ec L.eq L.mT L.uT E1.src.tab L.ed hcells fun f c' H2 s2 I2 kT T2 la gf nf hc => ?_)
  refine PyProof.Rows.kwAll_nil ?_
  obtain ⟨l, xs, es, el0, na, el, rl, q1⟩ : ∃ l xs es, v1 = .ref l ∧ ¬ MO M σd l ∧ (H1 l = some (.lst xs) ∨ H1 l = some (.tup xs)) ∧ Dqs S (MO M σd) H1 xs es ∧ sKey js me σd es Qd := by
    cases rd <;> first | exact q1.elim | skip
    · rename_i l xs es na el rl
      exact ⟨l, xs, es, rfl, na, .inl el, rl, q1⟩
    · rename_i l xs es na el rl
      exact ⟨l, xs, es, rfl, na, .inr el, rl, q1⟩
  subst el0
  obtain ⟨hlen, key, hkey, al, so, hd, hfin⟩ := q1
  obtain rfl : u1 = Value.ref l := r1
  have src2 : SrcOk S M H2 := ⟨fun p c h => by
    obtain ⟨g1, g2, g3, ns, w1, w2, w3, g4, g5⟩ := E1.src.go p c h
    exact ⟨g1, g2, g3, ns, w1, w2, w3, (kT _ _ g4).resolve_right (fun ⟨_, _, z, _⟩ => nomatch z), (kT _ _ g5).resolve_right (fun ⟨_, _, z, _⟩ => nomatch z)⟩, T2, fun a z => (E1.src.nt a z).sameT (kT a)⟩
  have E2 := E1.ext kT.ks src2
  have nS : ∀ p c, S = some (p, c) → l ≠ p ∧ l ≠ c := fun p c h => by
    obtain ⟨g1, g2, _⟩ := E1.src.go p c h
    exact ⟨fun z => na (.inl (z ▸ g1)), fun z => na (.inl (z ▸ g2))⟩
  have rl2 : Dqs S (MO M σd) H2 xs es := E1.dqs kT.ks rl
  obtain ⟨its, rv, hl, hz⟩ : ∃ its : List Value, Vals xs its ∧ SeqAt s2.heap l its ∧ xs.length ≤ sizeLine := by
    rcases el with el | el
    · obtain ⟨its, rv, hl, hz⟩ := I2.list (.inl (.inl (kT.ks.k l _ el nS)))
      obtain ⟨o, ho, hc, n, hd⟩ := hl.isList
      exact ⟨its, rv, ⟨o, n, ho, .inl hc, hd⟩, hz⟩
    · obtain ⟨its, rv, hl, hz⟩ := I2.tuple (.inl (.inl (kT.ks.k l _ el nS)))
      obtain ⟨o, ho, hc, n, hd⟩ := hl
      exact ⟨its, rv, ⟨o, n, ho, .inr hc, hd⟩, hz⟩
  show wpAny _ _ (call (.builtin "sorted") [.ref l] [(Str.ofString "key", .ref f)]) _ _ _
  have hZ : its.length ≤ sizeLine := by rw [← rv.length]; exact hz
  refine sorted_of_seq hl hZ (ksk_s1 _ _) (fun x => ksk_l1 _ _) fun E' => ?_
  rw [ksk_t1]
  unfold ksk_tree
  have oC := copyHeap_at s2.heap its
  obtain ⟨e1, oL⟩ : ∃ e1, ((copyHeap s2.heap its).update (s2.heap.objs.size + 1) (Obj.mapSeq fun _ => (#[] : Array Value))).get? (s2.heap.objs.size + 1) = some (seqObj "list" #[] e1) := ⟨_, get?_update_seq oC fun _ => #[]⟩
  refine wpAny_bind (listItems_at oC rfl ?_)
  refine wpAny_bind (listUpdate_at oC rfl ?_ (by rw [List.size_toArray]; exact hZ) (Nat.zero_le _))
  refine wpAny_bind (seqEpoch_at oL rfl ?_)
  refine wpAny_bind (wpAny_newTuple ?_ (by show its.length ≤ _; exact hZ))
  refine wpAny_bind (wpAny_newList ?_ (Nat.zero_le _))
  refine wpAny_holding ?_
  generalize hkS : (((copyHeap s2.heap its).update (s2.heap.objs.size + 1) (Obj.mapSeq fun _ => (#[] : Array Value))).push (seqObj "tuple" its.toArray 0)).objs.size = kS
  have geK : s2.heap.objs.size + 1 < kS := by
    rw [← hkS, size_push', Heap.size_update]
    exact Nat.lt_succ_of_lt (Heap.lt_size oC)
  have oK : ((((copyHeap s2.heap its).update (s2.heap.objs.size + 1) (Obj.mapSeq fun _ => (#[] : Array Value))).push (seqObj "tuple" its.toArray 0)).push (seqObj "list" #[] 0)).get? kS = some (seqObj "list" ([] : List Value).toArray 0) := by
    rw [← hkS]
    exact Heap.get?_push_size _ rfl
  obtain ⟨pm, ctv, oF⟩ := la
  have ltF : f < s2.heap.objs.size := Heap.lt_size oF
  have npB : ∀ p ∈ X.pn ++ pins, p.1 ≠ kS ∧ p.1 ≠ s2.heap.objs.size + 1 := fun p hp => by
    have h : p.1 < s2.heap.objs.size := Heap.lt_size (I2.pin p hp).1
    exact ⟨Nat.ne_of_lt (Nat.lt_trans (Nat.lt_succ_of_lt h) geK), Nat.ne_of_lt (Nat.lt_succ_of_lt h)⟩
  have sz2 := I2.sz
  have I4 : Inv X (pins ++ sPins f (PySem.W.kla_obj "<lambda>" q pa bd sc (cloFrom X.env.cells sc.names []) pm c' ctv) (s2.heap.objs.size + 1) kS e1 0 []) σ H2 { s2 with heap := (((copyHeap s2.heap its).update (s2.heap.objs.size + 1) (Obj.mapSeq fun _ => (#[] : Array Value))).push (seqObj "tuple" its.toArray 0)).push (seqObj "list" #[] 0), toks := s2.toks } := by
    have J : Inv X pins σ H2 { s2 with heap := (((copyHeap s2.heap its).update (s2.heap.objs.size + 1) (Obj.mapSeq fun _ => (#[] : Array Value))).push (seqObj "tuple" its.toArray 0)).push (seqObj "list" #[] 0), toks := s2.toks } := I2.kept fun b o h => sorting_copy_old h
    refine J.pins_of fun p hp => ?_
    rcases List.mem_append.mp hp with hp | hp
    · exact J.pin p (List.mem_append_right _ hp)
    · simp only [sPins, List.mem_cons, List.not_mem_nil, or_false] at hp
      have lt2 := I2.lt
      have lt1 := I1.lt
      rcases hp with rfl | rfl | rfl
      · exact ⟨sorting_copy_old oF, nf, fun z => Nat.lt_irrefl _ (Nat.lt_of_lt_of_le lt1 (by rw [← (show f = X.env.locals from z)]; exact gf)), I1.nofs gf, fun v z => by cases z⟩
      · exact ⟨Heap.get?_push_of_some _ (Heap.get?_push_of_some _ oL), I2.hok.fresh (Nat.le_succ _), Nat.ne_of_gt (Nat.lt_succ_of_lt lt2), I2.nofs (Nat.le_succ _), fun v z => by cases z⟩
      · exact ⟨oK, I2.hok.fresh (Nat.le_of_lt (Nat.lt_trans (Nat.lt_succ_self _) geK)), Nat.ne_of_gt (Nat.lt_trans lt2 (Nat.lt_trans (Nat.lt_succ_self _) geK)), I2.nofs (Nat.le_of_lt (Nat.lt_trans (Nat.lt_succ_self _) geK)), fun v z => by cases z⟩
  have les : es.length = its.length := by rw [← rl2.length, rv.length]
  refine keys_loop (xs := xs) (W := fun i acc Hx => Ev S M H0 Hx σ σd ∧ KeepS S H2 Hx ∧ Dqs S (MO M σd) Hx acc ((es.take i).map key) ∧ Hx c' = some (CodeO c' q)) ⟨0, I4⟩ rv (Nat.ne_of_lt (Nat.lt_trans (Nat.lt_succ_of_lt ltF) geK)) (Nat.ne_of_lt geK) (fun p hp => (npB p hp).1) (by omega) hZ ⟨E2, .refl, by simpa using Dqs.nil, hc⟩ ?turn ?fin
  case turn =>
    rintro i x u acc Hx pn2 sx hx ru la ⟨Ex, kx, rk, hcx⟩ Ix of
    obtain ⟨d, hd1, qd0⟩ := rl2.getV hx
    have qd := E2.dq kx qd0
    have md : d ∈ es := List.mem_of_getElem? hd1
    refine lamT_call (k := k) Ix Ix.env0.in1.in1 hr.in1.in1 L.S (eb _) (cells_of Ix (Caps.made Ix.ok L.hf L.hr L.at_)) ⟨pm, ctv, of⟩ hcx ru (fun outer s H hr' => (hb _ _ _ f outer s H hr').pe)
      ⟨S, MO M σd, fun a => Hx a, _, fun z => z = key d, Ex.cap L.nN qd, hkey d md, fun z v' H' hz' E' k' r' => ?_⟩
    subst hz'
    have src' := Ex.src.at E'.src
    refine ⟨Ex.ext k' src', kx.trans k', ?_, k'.k c' _ hcx (Ex.src.ne hcx codeO_l codeO_d) codeO_ne⟩
    have el : (es.take (i + 1)).map key = (es.take i).map key ++ [key d] := by rw [List.take_add_one, hd1]; simp
    rw [el]
    exact (Ex.dqs k' rk).append (.cons (r'.go fun a o n h => ⟨fun z => n (MO_cap.mpr z), h⟩) .nil)
  case fin =>
    rintro acc us Hx e sx Ix ra la ⟨Ex, kx, rk, hcx⟩
    have et : (es.take its.length).map key = es.map key := by rw [← les, List.take_length]
    rw [et] at rk
    have lk := (each_mem (vals_each ra (dqs_each rk))).mono (R' := fun v d => ∃ as, Reads sx.heap v d as) fun u d ⟨⟨x, r, qx⟩, hm⟩ => by
      obtain ⟨y, hy, rfl⟩ := List.mem_map.mp hm
      obtain ⟨as, h, _⟩ := qx.reads Ix (hd y hy).1 r
      exact ⟨as, h⟩
    refine keys_end (R := fun u d => ∃ x, RelV x u ∧ Dq S (MO M σd) Hx x d) Ix (Nat.ne_of_lt geK) npB (by omega) (by omega) hZ rv (by rw [← ra.length, la]) (vals_each rv (dqs_each (E2.dqs kx rl2))) lk al so (fun d hm => ?_) fun out ys s' eo ry nL' J => ?_
    · obtain ⟨y, hy, rfl⟩ := List.mem_map.mp hm
      have := (hd y hy).2
      have := hr.in1.in1.units
      omega
    · have sm : Same Hx (upd Hx (s2.heap.objs.size + 1) (.lst ys)) := Same.upd nL'
      have kk := (k1.trans kT.ks).trans kx
      exact ⟨rfl, .ref _, _, J, rfl, hk _ _ ys _ hfin (Ex.same sm) (kk.trans (.of sm)) (fresh_back E kk nL' Ex.src) upd_same ((each_dqs eo ry).go fun a o n h => ⟨(mo_sub nL' a o n h).1, sm a o h⟩)⟩
end PH

namespace PH
open PySem PySem.Spec L2 LamX NdefX
open PyProof.Rows (envOfC AllBare IntsAre)
def DfnC (K : PySem.W.Frag) (mg : Str → Option Value) (x : Str) (st : Stmt) (c : Addr) : Prop := ∃ (f : Addr) (fd : FuncData), mg x = some (.ref f) ∧ Fun K x x st f fd ∧ fd.code = .ref c
def lamB (K : PySem.W.Frag) (x : Str) (c P : Addr) : Bool := (match PySem.W.nsIn K mainGlobals x with
  | some (some (.ref f)) => (match K.lookup f with
    | some ⟨_, _, .func fd, _⟩ => (match fd.code with | .ref d => d == c | _ => false)
    | _ => false)
  | _ => false) && PySem.W.codeHdIn K c P && (K.lookup P).isNone
section
variable {P : Program} {w : World} {K : PySem.W.Frag} {mg : Str → Option Value} {base h : Heap} {x : Str} {st : Stmt} {c T : Addr}
theorem lamB_code (X : K.In h) (G : h.Ns mainGlobals mg) (D : Dfn K mg x st) (e : lamB K x c T = true) : DfnC K mg x st c := by
  obtain ⟨f, fd, hm, F⟩ := D
  refine ⟨f, fd, hm, F, ?_⟩
  obtain ⟨oc, od, kV, doc, pm, an, cdv, ct, osl, rfl, lk, hcd⟩ := F.ex
  unfold lamB at e
  simp only [Bool.and_eq_true] at e
  obtain ⟨⟨e1, _⟩, _⟩ := e
  split at e1
  · rename_i f' hf
    have := PySem.W.mg_of X G hf
    rw [hm] at this
    cases this
    rw [lk] at e1
    dsimp only at e1
    split at e1
    · rw [beq_iff_eq] at e1
      subst e1
      rfl
    · cases e1
  · cases e1
theorem defOkC {k : Nat} {N ps : List Str} {spd : DSp} {m : DS} (hd : DfnC K mg x st c) (S : FnScope N ps (defScope st)) (bnd : BindOk x ps st)
    (hb : ∀ (f : Addr) (cdv : Value) (A : Around) (outer : List Env) (s : Shared) (H : Hp), cdv = .ref c → Room k (A.deeper (envOfC x (defScope st) s.heap.objs.size f cdv)) → A.guards = some [] →
      PDSs W0 (cxOf CX0 P w K mg base N x (defScope st) f cdv A outer s H E0).nox (defBody st) m)
    (hm : ∀ ds Qd, ds.length = ps.length → spd ds Qd → m { nx := fun _ => Qd .none, rt := Qd } (dstart N.length ds)) : DefOk P w K mg base (k + 1) x ps spd := by
  obtain ⟨f, fd, hmg, F, ec⟩ := hd
  exact ⟨f, fd, hmg, F.kp, F.binds bnd, fnDC F S (fun cdv A outer s H hc => hb f cdv A outer s H (hc.symm.trans ec)) hm⟩
end
def capB (sX sc : Scope) : Bool := sc.names.all fun y => !decide (y.2 = .free) || decide (sX.names.lookup y.1 = some .cell) || decide (sX.names.lookup y.1 = some .free)
theorem capB_ok {sX sc : Scope} (h : capB sX sc = true) : ∀ y ∈ sc.names, y.2 = .free → sX.names.lookup y.1 = some .cell ∨ sX.names.lookup y.1 = some .free := fun y hy e => by
  have z := List.all_eq_true.mp h y hy
  simp only [Bool.or_eq_true, Bool.not_eq_true', decide_eq_true_eq, decide_eq_false_iff_not] at z
  rcases z with (z | z) | z
  · exact absurd e z
  · exact .inl z
  · exact .inr z
structure TabM (base : Heap) (mg : Str → Option Value) (c T : Addr) (q : Str) : Prop where
  b : TabB base mg c T
  m : (T, q) ∈ lamTabs
  u : ∀ p ∈ lamTabs, p.1 = T → p.2 = q
section
variable {X : Cx} {N fr : List Str} {x q : Str} {js : List Nat} {pa : Arguments} {bd : Expr} {sc : Scope} {c T : Addr} {k : Nat} {e : Expr} {p kp lp pos : Pos} {m me : DE}
theorem pdn_sortK (M : TabM X.base X.mg c T q) (ec : X.env.code = .ref c) (hr : Room (k + 3) X.A) (hb0 : X.mg "sorted" = none) (ha : PD X e m) (S : NScope N [x] fr sc) (eq : X.env.qual ++ "<lambda>" = q)
    (hb : ∀ (ql : Str) (cl : List (Str × Addr)) (d f : Addr) (outer : List Env) (s : Shared) (H : Hp), Room k (X.A.in1.in1.deeper (envF (lamF ql pa sc cl d) f s.heap.objs.size)) → PD (ncx C8.CX0 X.prog X.w X.K X.mg X.base N (lamF ql pa sc cl d) f X.A.in1.in1 outer s H C8.E0) bd me)
    (nN : N.length = 1 + js.length := by rfl) (at_ : js.map (fun j => X.N[j]?) = fr.map some := by rfl)
    (hf : capB X.env.scope sc = true := by rfl) (hfr : ∀ y ∈ fr, (y, NameKind.free) ∈ sc.names := by decide +kernel)
    (ed : defaultsOf pa X.env = ([], []) := by rfl) (eb : ∀ (cl : List (Str × Addr)) (pm cv ctv u : Value), bindArgs (PySem.W.kla_fn "<lambda>" q pa bd sc cl pm cv ctv) ⟨[u], []⟩ = pure [(x, u)] := by intros; rfl)
    (hg : Gl X "sorted" := by rfl) (hv : bootBuiltins "sorted" = some (.builtin "sorted") := by decide +kernel) (hs : starEach [e] X.env = (false, eval e X.env) :: starEach [] X.env := by rfl)
    (he : backTo pos (starEach [e] X.env) = (false, eval e X.env) :: backTo pos (starEach [] X.env) := by rfl) (hpl : (backTo pos (starEach [e] X.env)).any (·.1) = false := by rfl) :
    PDN X (.Call (.Name "sorted" p) [e] [⟨some "key", .Lambda pa bd sc lp, kp⟩] pos) (dSortK m js me) :=
  ⟨_, pe_sortK ⟨M.b, ec, eq, M.m, M.u, S, nN, ed, capB_ok hf, hfr, at_⟩ hr ha eb hb hg hb0 hv hs he hpl, ln_of⟩
end
end PH

namespace PH
open PySem PySem.Spec L2 LamX
open PyProof.Rows (envOfC AllBare IntsAre)
def OnlyT (cs : List (Addr × Addr)) (H : Hp) : Prop := ∀ b, H b = none ∨ (b ∈ cs.map (·.2) ∧ H b = some (.tbl #[])) ∨ ∃ o xs, H b = some (.frz o (.lst xs))
section
variable {P : Program} {w : World} {K : PySem.W.Frag} {mg mb : Str → Option Value} {k : Nat} {fa a : Addr} {fd : FuncData} {x : Str} {sp : Sp} {s1 : Shared} {vs : List Value} {ns : List Int} {cs : List (Addr × Addr)}
theorem goneT (KX : K.In s1.heap) (hns : s1.heap.Ns mainGlobals mg) (hb : s1.heap.Ns builtinsNs mb) (hbb : ∀ y : Str, y ≠ "__name__" → mb y = bootBuiltins y) (hlim : s1.heap.NoLimit) (hg : s1.gens = #[])
    (hT : ∀ p ∈ cs, s1.heap.get? p.2 = some { cls := .none, data := .fields #[] }) (nT : ∀ p ∈ cs, K.lookup p.2 = none) (hC : ∀ p ∈ cs, PySem.W.CodeHd s1.heap p.1 p.2)
    (hbm : ∃ (bm : Addr) (ob : Obj), mg "__builtins__" = some (.ref bm) ∧ bm ≠ builtinsNs ∧ s1.heap.get? bm = some ob ∧ ob.cls = .type "module" ∧ ob.dict = some builtinsNs ∧ ob.data = .plain)
    (ha : s1.heap.get? a = some { cls := .type "list", data := .seq vs.toArray }) (hr : Room k callerA) (F : ∀ base : Heap, K.In base → base.Ns mainGlobals mg → (∀ p ∈ cs, TabB base mg p.1 p.2) → FnG P w K mg base k fa fd [x] sp)
    (hbind : ∀ (s : Shared) (u : Value), BindsTo s fd ⟨[u], []⟩ [(x, u)]) (H : Hp) (hO : OnlyT cs H) (hsp : sp [.ref a] H (fun v _ => v = .bl true) E0) (hok : HOk P w H s1.heap) (hA : ∀ b, H b ≠ none → b = a ∨ b ∈ cs.map (·.2)) (hK : H a ≠ none → K.lookup a = none) :
    codeAny (model P w) callerA (.call (.ref fa) ⟨[.ref a], []⟩) (fun r s' => r = .ok (.ret (.bool true)) ∧ OldK s1.heap s'.heap ∧ s'.os = s1.os ∧ AllBare s'.gens) s1 := by
  have inT : ∀ {b : Addr}, b ∈ cs.map (·.2) → s1.heap.get? b = some { cls := .none, data := .fields #[] } := fun {b} hb => by
    obtain ⟨p, hp, rfl⟩ := List.mem_map.mp hb
    exact hT p hp
  have hidden : ∀ {b : Addr} {o : Obj}, s1.heap.get? b = some o → (∀ us n, o.data ≠ .seq us n) → o.data ≠ .fields #[] → H b = none := by
    intro b o e n1 n2
    cases q : H b with
    | none => rfl
    | some u =>
      rcases hA b (by rw [q]; exact fun z => nomatch z) with z | z
      · subst z
        rw [ha] at e
        cases e
        exact absurd rfl (n1 _ _)
      · rw [inT z] at e
        cases e
        exact absurd rfl n2
  have nsB : ∀ {b : Addr} {m : Str → Option Value}, s1.heap.Ns b m → (hidT s1.heap H).Ns b m := by
    rintro b m ⟨o, es, ep, e, d, r⟩
    exact ⟨o, es, ep, hidT_get e (hidden e (fun us n z => by rw [d] at z; cases z) fun z => by rw [d] at z; cases z), d, r⟩
  have inB : K.In (hidT s1.heap H) := by
    intro b o e
    refine hidT_get (KX b o e) ?_
    cases q : H b with
    | none => rfl
    | some u =>
      rcases hA b (by rw [q]; exact fun z => nomatch z) with z | z
      · subst z
        rw [hK (by rw [q]; exact fun y => nomatch y)] at e
        cases e
      · obtain ⟨p, hp, rfl⟩ := List.mem_map.mp z
        rw [nT p hp] at e
        cases e
  have md : Mod K mg (hidT s1.heap H) := ⟨inB, nsB hns, ⟨mb, nsB hb, hbb⟩, let ⟨mc, h1, h2⟩ := hlim; ⟨mc, nsB h1, h2⟩⟩
  have tb : ∀ p ∈ cs, TabB (hidT s1.heap H) mg p.1 p.2 := fun p hp => by
    have tp := hT p hp
    refine ⟨?_, ?_, fun z => ?_⟩
    · obtain ⟨o, us, fl, tf, flags, tg, inF, text, tt, e1, r1, r2, r3, rest⟩ := hC p hp
      exact ⟨o, us, fl, tf, flags, tg, inF, text, tt, hidT_get e1 (hidden e1 (fun us n z => by rw [r2] at z; cases z) fun z => by rw [r2] at z; cases z; simp at r3), r1, r2, r3, rest⟩
    · obtain ⟨bm, ob, b1, b2, b3, b4, b5, b6⟩ := hbm
      refine ⟨bm, ob, b1, b2, fun q => ?_, fun q => ?_, hidT_get b3 (hidden b3 (fun us n z => by rw [b6] at z; cases z) fun z => by rw [b6] at z; cases z), b4, b5, b6⟩
      · obtain ⟨o, es, ep, e, d, _⟩ := hns
        rw [q, e] at b3
        cases b3
        rw [d] at b6
        cases b6
      · rw [q, tp] at b3
        cases b3
        cases b6
    · obtain ⟨o, es, ep, e, d, _⟩ := hns
      rw [z, tp] at e
      cases e
      cases d
  have env : Env0 P w K mg (hidT s1.heap H) callerA [] s1 H :=
    { frames := rfl, mod := md, bs := fun b o e => of_hidT e, bsz := Nat.le_of_eq (hidT_size _ _), funs := trivial,
      frf := fun b hb => absurd (show b ∈ ([] : List Addr) from hb) (by simp), hok := hok, bare := .of_eq hg }
  have run := (F _ inB (nsB hns) tb).go callerA [] s1 H ⟨[.ref a], []⟩ [.ref a] [.ref a] (fun v _ => v = .bl true) hr rfl env (hbind s1 (.ref a)) (.cons rfl .nil) hsp
  refine codeAny_mono run ?_
  intro r s' h
  rcases r with e | fl
  · exact False.elim h
  cases fl with
  | next => exact False.elim h
  | brk => exact False.elim h
  | cont => exact False.elim h
  | ret u =>
    obtain ⟨v, H', os, bare, un, hok', ru, qv⟩ := h
    cases (show v = .bl true from qv)
    cases (show u = Value.bool true from ru)
    have old : ∀ b o, s1.heap.get? b = some o → (s'.heap.get? b = some o) ∨ (b ∈ cs.map (·.2) ∧ ∃ more : Array Value, s'.heap.get? b = some { cls := .none, data := .fields more }) := by
      intro b o e
      cases q : H b with
      | none => exact .inl (un.keep b o e q (fun z => absurd (show b ∈ ([] : List Addr) from z) (by simp)) (by simp))
      | some u =>
        rcases hO b with z | ⟨hb, z⟩ | ⟨ob, xs, z⟩
        · rw [q] at z; cases z
        · obtain ⟨more, z2⟩ := un.tbls b #[] z
          exact .inr ⟨hb, _, hok' b _ z2⟩
        · obtain ⟨e1, _⟩ := hok b _ z
          obtain ⟨e2, _⟩ := hok' b _ (un.frzs b ob _ z)
          rw [e] at e1
          cases e1
          exact .inl e2
    refine ⟨rfl, ⟨fun b o e => ?_, fun b o e => ?_⟩, os, bare⟩
    · rcases old b o e with z | ⟨hb, more, z⟩
      · exact .inl z
      · obtain ⟨p, hp, rfl⟩ := List.mem_map.mp hb
        rw [hT p hp] at e
        cases e
        exact .inr (.inl ⟨((hC p hp).tab (hT p hp)).isCodeTable, rfl, #[], more, rfl, by rw [Array.empty_append]; exact z⟩)
    · rcases old b o e with z | ⟨_, more, z⟩
      · exact ⟨_, z⟩
      · exact ⟨_, z⟩
theorem lawGoT (KX : K.In s1.heap) (hns : s1.heap.Ns mainGlobals mg) (hb : s1.heap.Ns builtinsNs mb) (hbb : ∀ y : Str, y ≠ "__name__" → mb y = bootBuiltins y) (hlim : s1.heap.NoLimit) (hg : s1.gens = #[])
    (hT : ∀ p ∈ cs, s1.heap.get? p.2 = some { cls := .none, data := .fields #[] }) (nT : ∀ p ∈ cs, K.lookup p.2 = none) (hC : ∀ p ∈ cs, PySem.W.CodeHd s1.heap p.1 p.2)
    (hbm : ∃ (bm : Addr) (ob : Obj), mg "__builtins__" = some (.ref bm) ∧ bm ≠ builtinsNs ∧ s1.heap.get? bm = some ob ∧ ob.cls = .type "module" ∧ ob.dict = some builtinsNs ∧ ob.data = .plain)
    (ha : s1.heap.get? a = some { cls := .type "list", data := .seq vs.toArray }) (hi : IntsAre vs ns) (hl : ns.length ≤ sizeLine) (hr : Room k callerA) (F : ∀ base : Heap, K.In base → base.Ns mainGlobals mg → (∀ p ∈ cs, TabB base mg p.1 p.2) → FnG P w K mg base k fa fd [x] sp)
    (hbind : ∀ (s : Shared) (u : Value), BindsTo s fd ⟨[u], []⟩ [(x, u)]) (hsp : ∀ H : Hp, (∀ p ∈ cs, H p.2 = some (.tbl #[])) → SqL K H a (ns.map V.int) → sp [.ref a] H (fun v _ => v = .bl true) E0) :
    codeAny (model P w) callerA (.call (.ref fa) ⟨[.ref a], []⟩) (fun r s' => r = .ok (.ret (.bool true)) ∧ OldK s1.heap s'.heap ∧ s'.os = s1.os ∧ AllBare s'.gens) s1 := by
  have rv := vals_ints hi
  have lv := hi.length
  have na : a ∉ cs.map (·.2) := fun z => by
    obtain ⟨p, hp, e⟩ := List.mem_map.mp z
    have := hT p hp
    rw [e, ha] at this
    cases this
  have mem : ∀ p ∈ cs, p.2 ∈ cs.map (·.2) := fun p hp => List.mem_map_of_mem hp
  let H0 : Hp := fun b => if b ∈ cs.map (·.2) then some (.tbl #[]) else none
  have t0 : ∀ b, b ∈ cs.map (·.2) → H0 b = some (.tbl #[]) := fun b h => if_pos h
  have n0 : ∀ b, b ∉ cs.map (·.2) → H0 b = none := fun b h => if_neg h
  have ok0 : ∀ b u, H0 b = some u → b ∈ cs.map (·.2) ∧ u = .tbl #[] := fun b u h => by
    by_cases hb : b ∈ cs.map (·.2)
    · exact ⟨hb, Option.some.inj (h.symm.trans (t0 b hb))⟩
    · rw [n0 b hb] at h; cases h
  have tabAt : ∀ b, b ∈ cs.map (·.2) → s1.heap.get? b = some { cls := .none, data := .fields #[] } := fun b hb => by
    obtain ⟨p, hp, rfl⟩ := List.mem_map.mp hb
    exact hT p hp
  cases hk : K.lookup a with
  | some o =>
    have e := KX a o hk
    rw [ha] at e
    cases e
    have sq : SqL K H0 a (ns.map V.int) := .inr ⟨_, vs.toArray, _, hk, rfl, rfl, rfl, by rw [List.size_toArray, lv]; exact hl, by simpa using rv⟩
    refine goneT KX hns hb hbb hlim hg hT nT hC hbm ha hr F hbind H0 (fun b => ?_) (hsp H0 (fun p hp => t0 _ (mem p hp)) sq) (fun b u z => ?_) (fun b z => ?_) fun z => absurd (n0 a na) z
    · by_cases h : b ∈ cs.map (·.2)
      · exact .inr (.inl ⟨h, t0 b h⟩)
      · exact .inl (n0 b h)
    · obtain ⟨h1, rfl⟩ := ok0 b u z
      exact tabAt b h1
    · by_cases h : b ∈ cs.map (·.2)
      · exact .inr h
      · exact absurd (n0 b h) z
  | none =>
    let Hs : Hp := fun b => if b = a then some (.frz { cls := .type "list", data := .seq vs.toArray } (.lst (ns.map V.int))) else H0 b
    have h1 : Hs a = some (.frz { cls := .type "list", data := .seq vs.toArray } (.lst (ns.map V.int))) := if_pos rfl
    have h2 : ∀ b, b ≠ a → Hs b = H0 b := fun b n => if_neg n
    have ht : ∀ p ∈ cs, Hs p.2 = some (.tbl #[]) := fun p hp => by
      rw [h2 _ fun z => na (z ▸ mem p hp)]
      exact t0 _ (mem p hp)
    refine goneT KX hns hb hbb hlim hg hT nT hC hbm ha hr F hbind Hs (fun b => ?_) (hsp Hs ht (.inl (.inr ⟨_, h1⟩))) (fun b u z => ?_) (fun b z => ?_) fun _ => hk
    · by_cases n : b = a
      · subst n; exact .inr (.inr ⟨_, _, h1⟩)
      · by_cases h : b ∈ cs.map (·.2)
        · exact .inr (.inl ⟨h, by rw [h2 b n]; exact t0 b h⟩)
        · exact .inl (by rw [h2 b n]; exact n0 b h)
    · by_cases n : b = a
      · subst n
        cases h1.symm.trans z
        exact ⟨ha, by rw [List.length_map]; exact hl, vs, _, rv, ha⟩
      · rw [h2 b n] at z
        obtain ⟨g1, rfl⟩ := ok0 b u z
        exact tabAt b g1
    · by_cases n : b = a
      · exact .inl n
      · rw [h2 b n] at z
        by_cases h : b ∈ cs.map (·.2)
        · exact .inr h
        · exact absurd (n0 b h) z
end
theorem walkGT {l : PySem.W.OpenLaw} {n k : Nat} {q : Program} {loose : List Str} {XP : (Str → Option Value) → Heap → Prop} {YP : World → Heap → Prop} {d : DefRec} {K : Params → PySem.W.Frag} {sp : PySem.W.Frag → Sp} {x : Str} {cs : List (Addr × Addr)}
    (hn : l.most = some n) (hn2 : n ≤ sizeLine) (hdf : d.params.defaults = []) (hr : Room k callerA) (hY : ∀ (w : World) (h : Heap), YP w h → (K w.params).In h ∧ ∀ p ∈ cs, h.get? p.2 = some { cls := .none, data := .fields #[] })
    (hKc : ∀ (p : Params), ∀ q ∈ cs, PySem.W.codeHdIn (K p) q.1 q.2 = true ∧ (K p).lookup q.2 = none)
    (F : ∀ (w : World) (mg : Str → Option Value) (fa : Addr) (h : Heap), (K w.params).In h → h.Ns mainGlobals mg → mg d.name = some (.ref fa) →
      ∃ fd : FuncData, (∀ (s : Shared) (u : Value), BindsTo s fd ⟨[u], []⟩ [(x, u)]) ∧ ∀ base : Heap, (K w.params).In base → base.Ns mainGlobals mg → (∀ p ∈ cs, TabB base mg p.1 p.2) → FnG l.prog w (K w.params) mg base k fa fd [x] (sp (K w.params)))
    (hsp : ∀ (K : PySem.W.Frag) (H : Hp) (a : Addr) (ns : List Int), ns.length ≤ n → (∀ z ∈ ns, Builtin.Int.intBits z ≤ 1048576) → (∀ p ∈ cs, H p.2 = some (.tbl #[])) → SqL K H a (ns.map V.int) → sp K [.ref a] H (fun v _ => v = .bl true) E0) :
    PySem.W.WalkO q loose XP YP l.row.toRowW d [] (fun f vs => PySem.call f vs) := by
  refine Att.attach_callB hn hdf ?_
  intro w s₀ s₁ mg mb fa o pm cd doc a vs ns G Y ho hd hcd hmg hobj hints hlen hbits hg
  obtain ⟨KX, hT⟩ := hY w _ Y
  obtain ⟨fd, hb, hF⟩ := F w mg fa _ KX G.T.g hmg
  exact lawGoT KX G.T.g G.T.b G.T.builtins G.T.nolimit hg hT (fun p hp => (hKc w.params p hp).2) (fun p hp => PySem.W.codeHd_of_K KX (hKc w.params p hp).1) G.T.bmain hobj hints (Nat.le_trans hlen hn2) hr hF hb
    (fun H hO hS => hsp (K w.params) H a ns hlen hbits hO hS)
theorem lawOkG {P : Program} {w : World} {K : PySem.W.Frag} {mg : Str → Option Value} {k : Nat} {x p : Str} {st : Stmt} {N : List Str} {sp : Sp} {G : Heap → Prop} (hd : Dfn K mg x st) (S : FnScope N [p] (defScope st)) (bnd : BindOk x [p] st) (len : ∀ vs H Q E, sp vs H Q E → vs.length = 1)
    (hb : ∀ (base : Heap) (f : Addr) (cdv : Value) (A : Around) (outer : List Env) (s : Shared) (H : Hp) (vs : List V) (Q : VK), G base → Room k (A.deeper (envOfC x (defScope st) s.heap.objs.size f cdv)) → A.guards = some [] → sp vs H Q E0 →
      ∃ t, PSs (cxOf CX0 P w K mg base N x (defScope st) f cdv A outer s H E0).nox (defBody st) t ∧ t { nx := fun _ H' => Q .non H', rt := Q } (L2.start N vs) H) :
    ∃ (f : Addr) (fd : FuncData), mg x = some (.ref f) ∧ (∀ (s : Shared) (u : Value), BindsTo s fd ⟨[u], []⟩ [(p, u)]) ∧ ∀ base : Heap, G base → FnG P w K mg base (k + 1) f fd [p] sp := by
  obtain ⟨f, fd, hm, F⟩ := hd
  have F' := F
  obtain ⟨oc, od, kV, doc, pm, an, cdv, ct, osl, rfl, lk, hcd⟩ := F'.ex
  exact ⟨f, _, hm, fun s u => BindsTo.of_eq (bnd kV doc pm an cdv ct [u] rfl), fun base g => fnG_body F S len fun cdv A outer s H vs Q => hb base f cdv A outer s H vs Q g⟩
end PH

namespace PH
open PySem PySem.Spec L2
open PyProof.Rows (envOfC AllBare IntsAre)
def maxI (d : Int) : List Int → Int
  | [] => d
  | x :: xs => xs.foldl max x
theorem reads_ints {h : Heap} : ∀ {ns : List Int} {us : List Value}, IntsAre us ns → ReadsAll h us (ns.map PyData.int) []
  | _, _, .nil => .nil
  | _, _, .cons n t r => by
    have := ReadsAll.cons (h := h) (as := []) (bs := []) (Reads.int n t) (reads_ints r)
    simpa using this
def rMaxD (K : PySem.W.Frag) : List V → List V → Hp → VK → Prop := fun vs zs H Q => ∃ (a : Addr) (ns : List Int) (d : Int), vs = [.ref a] ∧ zs = [.int d] ∧ SqL K H a (ns.map V.int) ∧ Q (.int (maxI d ns)) H
theorem cr_maxD {X : Cx} (hc : X.calm = true) (hu : X.A.units + 64 < cLine) : CallRK X (.builtin "max") [Str.ofString "default"] (rMaxD X.K) := by
  intro pins s σ H vs zs us ws Q I r rz h
  obtain ⟨a, ns, d, rfl, rfl, hs, q⟩ := h
  obtain ⟨its, rv, hl, hz⟩ := I.list hs
  obtain ⟨u, rfl, ru⟩ := vals1 r
  obtain ⟨w, rfl, rw⟩ := vals1 rz
  obtain rfl : u = Value.ref a := ru
  obtain ⟨t, rfl⟩ := rw
  have hi := rv.ints
  have dp : ∀ xs : List Int, PyData.depthAll (xs.map PyData.int) = 0 := PySem.W.depth_ints
  refine PySem.W.max_list_default (xs := ns.map PyData.int) (as := []) (I.ok.hd hc) hl.isList (by simpa using reads_ints hi) ⟨?_, ?_⟩ (by rw [dp]; omega) ?_ ?_
  · rintro x hx y hy
    obtain ⟨i, _, rfl⟩ := List.mem_map.mp hx
    obtain ⟨j, _, rfl⟩ := List.mem_map.mp hy
    simp only [PySem.W.alike]
  · rintro x hx z
    obtain ⟨i, _, rfl⟩ := List.mem_map.mp hx
    cases z
  · intro e h' tk k
    have e0 : ns = [] := List.map_eq_nil_iff.mp e
    subst e0
    exact ⟨.int d, H, I.kept k, ⟨t, rfl⟩, q⟩
  · intro y ys i v h' tk bs e _ rd k
    cases ns with
    | nil => cases e
    | cons n ns =>
      rw [List.map_cons] at e
      injection e with e1 e2
      subst e1; subst e2
      rw [PySem.W.maxD_ints] at rd
      cases rd with
      | int i t => exact ⟨.int _, H, I.kept k, ⟨t, rfl⟩, q⟩
theorem dqs_ints {S : Sr} {M : Addr → Prop} {H : Hp} : ∀ {ns : List Int} {xs : List V}, Dqs S M H xs (ns.map PyData.int) → xs = ns.map V.int
  | [], _, h => by cases h; rfl
  | n :: ns, _, h => by
    cases h with
    | cons a b =>
      cases a
      rw [dqs_ints b]; rfl
def dMaxD (m mz : DE) : DE := fun σd Q => m σd fun d => mz σd fun z => ∃ (ns : List Int) (i : Int), d = .list (ns.map .int) ∧ z = .int i ∧ Q (.int (maxI i ns))
theorem le_maxD {K : PySem.W.Frag} {t tz : TE} {m mz : DE} (h : LE t m) (hz : LE tz mz) : LE (tCKw (rMaxD K) (tCons t tNil) (tCons tz tNil)) (dMaxD m mz) := by
  intro S M H0 H σ σd Qd Q E hm k
  refine h S M H0 H σ σd _ _ E hm fun d v H1 q1 E1 k1 r1 => ?_
  refine hz S M H0 H1 σ σd _ _ E1 q1 fun z u H2 q2 E2 k2 r2 => ?_
  obtain ⟨ns, i, rfl, rfl, q⟩ := q2
  have r1' := E1.dq k2 r1
  cases r2
  cases r1' with
  | lst na e rl =>
    rw [dqs_ints rl] at e
    exact ⟨_, ns, i, rfl, rfl, .inl (.inl e), k _ _ H2 q E2 (k1.trans k2) (.int _)⟩
theorem pd_maxD {X : Cx} {e ez : Expr} {p kp pos : Pos} {m mz : DE} (hc : X.calm = true) (hu : X.A.units + 64 < cLine) (hm : X.mg "max" = none) (ha : PD X e m) (hz : PD X ez mz) (hg : Gl X "max" := by rfl)
    (hs : starEach [e] X.env = (false, eval e X.env) :: starEach [] X.env := by rfl) (he : backTo pos (starEach [e] X.env) = (false, eval e X.env) :: backTo pos (starEach [] X.env) := by rfl) (hpl : (backTo pos (starEach [e] X.env)).any (·.1) = false := by rfl) :
    PD X (.Call (.Name "max" p) [e] [⟨some "default", ez, kp⟩] pos) (dMaxD m mz) :=
  ⟨_, pe_callBK (cr_maxD hc hu) hg hm (by decide +kernel) (pa_cons ha.pe pa_nil hs) (pk_cons hz.pe pk_nil) (by decide) (by decide) he hpl rfl rfl rfl, le_maxD le_of le_of⟩
end PH

namespace PH
open PySem PySem.Spec L2
open PyProof.Rows (envOfC AllBare IntsAre)
def enumD (xs : List D) : List D := (List.range xs.length).zipWith (fun (i : Nat) x => .tuple [.int (i : Int), x]) xs
theorem enumD_len (xs : List D) : (enumD xs).length = xs.length := by simp [enumD]
theorem enumD_get (xs : List D) {i : Nat} {x : D} (h : xs[i]? = some x) : (enumD xs)[i]? = some (.tuple [.int (i : Int), x]) := by
  have hi : i < xs.length := (List.getElem?_eq_some_iff.mp h).1
  simp only [enumD, List.getElem?_zipWith, List.getElem?_range hi, h]
def dEnum (m : DA) : DA := fun σd Q => m σd fun ds => match ds with | [.list xs] => Q (enumD xs) | _ => False
theorem li_enum {K : PySem.W.Frag} {n : Nat} {t : TA} {m : DA} (h : LA n t m) : LI (iEnum K t) (dEnum m) := by
  intro S M H0 H σ σd Qd R E hm k
  refine h S M H0 H σ σd _ _ E hm fun ds vs H1 q E1 k1 r1 _ => ?_
  split at q
  · rename_i ds
    cases r1 with
    | cons a b =>
      cases b
      cases a with
      | @lst p xs _ na ea ra =>
        refine ⟨p, xs, rfl, .inl (.inl ea), k _ _ H1 q E1 k1 ⟨fun H => SqL K H p xs, _, by rw [enumD_len, ← ra.length]; exact walk_enum, fun H2 st => Or.inl (Or.inl (st.k _ _ na ea)), fun i H2 x H3 hi st y => ?_⟩⟩
        obtain ⟨T, x1, y1, e1, hT, e3, hx, hy⟩ := y
        subst e1; subst e3
        have sm := Same.upd (o := .tup [x1, y1]) hT
        refine ⟨sm, fun M' h1 h2 => ?_⟩
        obtain ⟨d, hd, qd⟩ := ra.getV hy
        have g : ∀ b o, ¬ MO M σd b → H1 b = some o → ¬ M' b ∧ (upd H2 T (.tup [x1, y1]) b = some o ∨ ∃ ps ps', o = .tbl ps ∧ upd H2 T (.tup [x1, y1]) b = some (.tbl ps')) := fun b o n eb => ⟨h2 b o n eb, (st b o n eb).imp (sm b o) fun ⟨ps, ps', q1, q2⟩ => ⟨ps, ps', q1, sm _ _ q2⟩⟩
        obtain rfl : V.int (i : Int) = x1 := Option.some.inj hx
        exact ⟨.tuple [.int i, d], enumD_get _ hd, .tup (fun z => h1 T z hT) upd_same (.cons (.int _) (.cons (qd.goT g) .nil))⟩
  · exact q.elim
section
variable {X : Cx} {Wx : WX} {a : Expr} {n : Nat} {md : DA} {pos : Pos}
theorem pdi_enum {p tpos : Pos} {elts : List Expr} {kk : Nat} (hg : Gl X "enumerate") (hm : X.mg "enumerate" = none) (ha : PDA X [a] n md) (hs : starEach [a] X.env = [(false, eval a X.env)] := by rfl) :
    PDI X (.Tuple elts kk tpos) (.Call (.Name "enumerate" p) [a] [] pos) (dEnum md) := let ⟨_, h1, l1⟩ := ha; ⟨_, pi_enum hg hm h1 hs, li_enum (K := X.K) l1⟩
def dPop (i : Nat) : DS := fun Dd σd => ∃ a ds z, σd[i]? = some (Sl.own a (ds ++ [z])) ∧ Dd.nx (σd.set i (.own a ds))
theorem ls_pop {K : PySem.W.Frag} {i : Nat} : LS Wx (tDrop (tBM0 K "list" rPop (tVar i))) (dPop i) := by
  intro S M H0 H σ σd Dd Dn E hm r
  obtain ⟨a, ds, z, e, q⟩ := hm
  obtain ⟨o, e2, e3, xs, hx, rx⟩ := E.slot e
  subst e3
  obtain ⟨ys, y, rfl, ry, rz⟩ : ∃ ys y, xs = ys ++ [y] ∧ Dqs S (MO M σd) H ys ds ∧ Dq S (MO M σd) H y z := by
    have hl := rx.length
    rw [List.length_append] at hl
    have nn : xs ≠ [] := fun w => by rw [w] at hl; simp at hl
    refine ⟨xs.dropLast, xs.getLast nn, (List.dropLast_concat_getLast nn).symm, ?_, ?_⟩
    · have := rx.take ds.length
      rw [List.take_left] at this
      rw [List.dropLast_eq_take, hl]
      exact this
    · have := rx.drop ds.length
      rw [List.drop_left] at this
      have e4 : xs.drop ds.length = [xs.getLast nn] := by
        conv => lhs; rw [← List.dropLast_concat_getLast nn]
        rw [List.drop_append_of_le_length (by rw [List.length_dropLast, hl]; simp)]
        rw [List.drop_of_length_le (by rw [List.length_dropLast, hl]; simp)]
        rfl
      rw [e4] at this
      cases this with
      | cons a b => exact a
  refine ⟨.ref a, e2, Or.inl ⟨rfl, _, Or.inl (Or.inl hx)⟩, a, ys ++ [y], y, rfl, rfl, hx, by simp, ?_⟩
  rw [List.dropLast_concat]
  exact r.1 _ _ _ q (E.upd e ry)
theorem psd_pop {x : Str} {px apos cpos : Pos} (i : Nat) (hN : X.N[i]? = some x) (hv : Vis X.env.scope x) (hs : swapsWith (.Call (.Attribute (.Name x px) "pop" apos) [] [] cpos) none pos.line X.env = pure false := by rfl)
    (hd : (x == ("__debug__" : Str)) = false := by decide) (hcd : (x == ("__classdict__" : Str)) = false := by decide)
    (hbase : attributeBase (.Name x px) "pop" X.env (eval (.Name x px) X.env) = eval (.Name x px) X.env := by rfl) (hline : (apos.endLine == cpos.line) = true := by rfl) :
    PDS Wx X (.Expr (.Call (.Attribute (.Name x px) "pop" apos) [] [] cpos) pos) (dPop i) :=
  ⟨_, ps_expr (pe_bm0 PySem.F.plainAttrs_list PySem.F.slot_list_pop PySem.F.type_list_pop mt_pop (pe_var hN hv hd hcd) hbase hline) hs, ls_pop⟩
def dLendT (i : Nat) (c : DT) : DT := fun σd Q => ∃ a ds, σd[i]? = some (Sl.own a ds) ∧ c (σd.set i (.val (.list ds))) Q
theorem lt_lend {i : Nat} {c : TT} {dc : DT} (hc : LT c dc) : LT c (dLendT i dc) := by
  intro S M H0 H σ σd Qd Q E hm k
  obtain ⟨a, ds, hs, h⟩ := hm
  exact hc S M H0 H σ _ _ _ (E.frz hs) h fun b H1 q E1 k1 => k b H1 q (E.ext k1 E1.src) k1
theorem pdt_lend {c : Expr} {dc : DT} (i : Nat) (hc : PDT X c dc) : PDT X c (dLendT i dc) := let ⟨_, h, l⟩ := hc; ⟨_, h, lt_lend l⟩
end
def dItS (m : DE) : DA := fun σd Q => dItL m σd Q ∨ dItT m σd Q
section
variable {X : Cx} {Wx : WX} {tg iter : Expr}
theorem PI.or {w1 w2 : TI} (a : PI X tg iter w1) (b : PI X tg iter w2) : PI X tg iter (fun σ H R => w1 σ H R ∨ w2 σ H R) := by
  refine ⟨fun pins s σ H R I h => ?_⟩
  rcases h with h | h
  · exact a.run pins s σ H R I h
  · exact b.run pins s σ H R I h
theorem pdi_seq {m : DE} (h : PD X iter m) : PDI X tg iter (dItS m) := by
  obtain ⟨w1, p1, l1⟩ := pdi_list (tg := tg) h
  obtain ⟨w2, p2, l2⟩ := pdi_tup (tg := tg) h
  refine ⟨_, PI.or p1 p2, fun S M H0 H σ σd Qd R E hm k => ?_⟩
  rcases hm with hm | hm
  · exact .inl (l1 S M H0 H σ σd Qd R E hm k)
  · exact .inr (l2 S M H0 H σ σd Qd R E hm k)
def seqD (b : Bool) (ds : List D) : D := cond b (.list ds) (.tuple ds)
variable {k j : Nat} {x : Str} {p pos pos' : Pos} {e : Expr} {es : List Expr} {ps : List Str}
end
end PH

namespace PH
open PySem PySem.Spec L2
open PyProof.Rows (envOfC AllBare IntsAre)
theorem wipe_at {i : Nat} : ∀ {vs : List Nat} (σ : L2.St), i ∉ vs → (wipe σ vs)[i]? = σ[i]?
  | [], σ, _ => rfl
  | v :: vs, σ, h => by
    unfold wipe
    simp only [List.mem_cons, not_or] at h
    rw [List.getElem?_set_ne (Ne.symm h.1), wipe_at σ h.2]
theorem set_same {α : Type} {xs : List α} {i : Nat} {x : α} (h : xs[i]? = some x) : xs.set i x = xs := by
  obtain ⟨hi, e⟩ := List.getElem?_eq_some_iff.mp h
  rw [← e]; exact List.set_getElem_self hi
variable {Wx : WX}
def dRetPop (m : DA) (dg : DG) (i : Nat) (mx : DE) (vs : List Nat) : DS := fun Dd σd => ∃ a ds0, σd[i]? = some (Sl.own a ds0) ∧ m (σd.set i (.val (.list ds0))) fun ds => ∃ N : Int, ds = [.int N] ∧ -(2 ^ 62) ≤ N ∧ N < 2 ^ 62 ∧ N.toNat ≤ 1000000 ∧
  ∃ W : Nat → List D → List D → Prop, W 0 [] ds0 ∧
    (∀ j acc rest, j < N.toNat → acc.length ≤ j → W j acc rest → dg (.int (0 + (j : Int))) ((dwipe (clean σd) vs).set i (.val (.list rest))) fun σ2 => mx σ2 fun z => ∃ (n : Nat) (d : D), z = .int n ∧ n < 2 ^ 62 ∧ rest[n]? = some d ∧ W (j + 1) (acc ++ [d]) (rest.eraseIdx n)) ∧
    ∀ acc rest, W N.toNat acc rest → Dd.rt (.list acc)
theorem Dqs.erase {S : Sr} {M : Addr → Prop} {H : Hp} : ∀ {vs : List V} {ds : List D} (n : Nat), Dqs S M H vs ds → Dqs S M H (vs.eraseIdx n) (ds.eraseIdx n)
  | _, _, _, .nil => .nil
  | _, _, 0, .cons _ t => t
  | _, _, n + 1, .cons a t => .cons a (Dqs.erase n t)
set_option maxHeartbeats 1000000 in
theorem ls_retPop {K : PySem.W.Frag} {t : TA} {te : TE} {g : TG} {dg : DG} {i nA : Nat} {m : DA} {mx : DE} {vs : List Nat} (h : LA nA t m) (hg : LG g dg) (sg : Sets g vs) (he : LE te mx) (hv : i ∉ vs) :
    LS Wx (tRet (tLc (iRng1 t) g tYes (tBM K "list" rPopAt (tVar i) (tCons te tNil)) vs)) (dRetPop m dg i mx vs) := by
  intro S M H0 H σ σd Dd Dn E hm r
  obtain ⟨a, ds0, hs, hm⟩ := hm
  refine h S M H0 H σ _ _ _ (E.frz hs) hm fun ds us H1 q Ef1 k1 r1 _ => ?_
  obtain ⟨N, rfl, b1, b2, b3, W, w0, wt, wd⟩ := q
  have E1 : Ev S M H0 H1 σ σd := E.ext k1 Ef1.src
  cases r1 with
  | cons rN rest0 =>
  cases rest0
  cases rN
  refine ⟨N, rfl, b1, b2, ?_⟩
  intro Dl hD
  obtain ⟨o, hso, eo, xs0, hx0, rx0⟩ := E1.slot hs
  subst eo
  have ma : MO M σd a := .inr ⟨_, List.mem_of_getElem? hs⟩
  have nDa : Dl ≠ a := fun z => by rw [z, hx0] at hD; cases hD
  have srcN : ∀ p c, S = some (p, c) → (p ≠ Dl ∧ c ≠ Dl) ∧ a ≠ p ∧ a ≠ c := fun p c e => by
    obtain ⟨_, _, _, ns, l, mm, tt, h1, h2⟩ := E1.src.go p c e
    exact ⟨⟨ne_of_none h2 hD, ne_of_none h1 hD⟩, E1.ownNe (List.mem_of_getElem? hs) p c e⟩
  let MX : Addr → Prop := fun b => MO M σd b ∨ b = Dl
  let MY : Addr → Prop := fun b => MX b ∧ b ≠ a
  let KU : Hp → Prop := fun H2 => ∀ b o, b ≠ a → b ≠ Dl → H1 b = some o → (∀ p c, S = some (p, c) → b ≠ p ∧ b ≠ c) → H2 b = some o ∨ ∃ ps ps', o = .tbl ps ∧ H2 b = some (.tbl ps')
  let Pv : Nat → Hp → Prop := fun j H2 => ∃ (acc : List V) (accd : List D) (yv : List V) (rest : List D), H2 Dl = some (.lst acc) ∧ H2 a = some (.lst yv) ∧ Dqs S MX H2 acc accd ∧ Dqs S MX H2 yv rest ∧ W j accd rest ∧ accd.length ≤ j ∧ SrcOk S M H2 ∧ KU H2 ∧ ∀ b, MX b → isM (H2 b)
  refine lc_it (walk_range (lo := 0) (n := N.toNat)) Pv ?_ (fun _ _ _ _ => trivial) ?_ ?_
  · have sm := Same.upd (o := HO.lst []) hD
    refine ⟨[], [], xs0, ds0, upd_same, sm _ _ hx0, .nil, rx0.go fun b o n e => ⟨fun z => z.elim n fun y => ne_of_none e hD y, sm b o e⟩, w0, Nat.le_refl _, E1.src.same sm, fun b o _ _ e _ => .inl (sm b o e), fun b hb => ?_⟩
    by_cases z : b = Dl
    · rw [z, upd_same]; exact True.intro
    · rw [upd_ne z]; exact E1.ntO b (hb.resolve_right z)
  · intro j x Hq H2 hj pv yy
    obtain ⟨e3, hx⟩ := yy
    subst e3; subst hx
    obtain ⟨acc, accd, yv, rest, hacc, hyv, racc, ryv, hW, hle, s2, ku, mtx⟩ := pv
    have wt1 := wt j accd rest hj hle hW
    have nma : ¬ MY a := fun z => z.2 rfl
    have mo1 : ∀ b, MO MY (clean σd) b → MY b := fun b z => MO_clean.mp z
    have s2y : SrcOk S MY H2 := ⟨fun p c e => by
      obtain ⟨g1, g2, g3, rst⟩ := s2.go p c e
      exact ⟨⟨.inl (.inl g1), fun z => (srcN p c e).2.1 z.symm⟩, ⟨.inl (.inl g2), fun z => (srcN p c e).2.2 z.symm⟩, g3, rst⟩, s2.tab, fun b hb => mtx b hb.1⟩
    have EC : Ev S MY (less H2 (clean σd)) H2 σ (clean σd) := E1.clean.remakeT (M' := MY) (H2 := H2) (fun b o n e => by
      have n' : ¬ MO M σd b := fun z => n (MO_clean.mpr z)
      refine ⟨fun z => ?_, ku b o (fun z => n' (z ▸ ma)) (ne_of_none e hD) e fun p c q => ⟨fun z => n' (z ▸ .inl (E1.src.go p c q).1), fun z => n' (z ▸ .inl (E1.src.go p c q).2.1)⟩⟩
      rcases (mo1 b z).1 with y | y
      · exact n' y
      · exact ne_of_none e hD y) (fun b ds z => absurd z clean_no) s2y fun b hb => (mtx b hb.1).ne
    have ew : (wipe σ vs)[i]? = some (some (.ref a)) := by rw [wipe_at σ hv]; exact hso
    have EW := EC.wipe vs
    have mo2 : ∀ b, MO MY (dwipe (clean σd) vs) b → MY b := fun b z => z.elim id fun ⟨es, y⟩ => absurd y dwipe_no
    have EP0 : Ev S MY (less H2 (clean σd)) H2 (wipe σ vs) ((dwipe (clean σd) vs).set i (.val (.list rest))) := by
      have := EW.put (i := i) (v := .ref a) (d := .list rest) (.lst (fun z => nma (mo2 a z)) hyv (ryv.go fun b o n e => ⟨fun z => n (mo2 b z).1, e⟩))
      rwa [set_same ew] at this
    refine sg (.int (0 + (j : Int))) (wipe σ vs) H2 (fun σ2 Hx => Hx = H2 ∧ ∃ σd2, Ev S MY (less H2 (clean σd)) H2 σ2 σd2 ∧ mx σd2 fun z => ∃ (n : Nat) (d : D), z = .int n ∧ n < 2 ^ 62 ∧ rest[n]? = some d ∧ W (j + 1) (accd ++ [d]) (rest.eraseIdx n)) _
      (hg S MY _ H2 _ _ _ _ _ _ EP0 (.int _) wt1 fun σd2 σ2 q2 E4 => ⟨rfl, σd2, E4, q2⟩) ?_
    rintro σ2 Hx ⟨rfl, σd2, E4, q2⟩ hw
    refine ⟨hw.trans (wipe_wipe σ fun _ h => h), ?_⟩
    have e5 : σ2[i]? = some (some (.ref a)) := by
      have := congrArg (fun z : L2.St => z[i]?) hw
      simp only [wipe_at _ hv] at this
      rw [this]; exact hso
    show tBM K "list" rPopAt (tVar i) (tCons te tNil) σ2 Hx _
    refine ⟨.ref a, e5, Or.inl ⟨rfl, _, Or.inl (Or.inl hyv)⟩, ?_⟩
    refine he S MY _ Hx σ2 σd2 _ _ E4 q2 fun z v H3 q3 E5 k3 r3 => ?_
    obtain ⟨n, d, rfl, hn, hd, hW'⟩ := q3
    cases r3
    obtain ⟨y, hy, ry⟩ := ryv.get hd
    have nS : ∀ b, b = a ∨ b = Dl → ∀ p c, S = some (p, c) → b ≠ p ∧ b ≠ c := fun b hb p c e => by
      rcases hb with rfl | rfl
      · exact (srcN p c e).2
      · exact ⟨(srcN p c e).1.1.symm, (srcN p c e).1.2.symm⟩
    have a3 : H3 a = some (.lst yv) := k3.k a _ hyv (nS a (.inl rfl))
    have d3 : H3 Dl = some (.lst acc) := k3.k Dl _ hacc (nS Dl (.inr rfl))
    have s3 : SrcOk S M H3 := s2.at E5.src fun b hb => ⟨.inl (.inl hb), fun z => E1.ownM (List.mem_of_getElem? hs) (z ▸ hb)⟩
    have gX : ∀ b o, ¬ MX b → Hx b = some o → ¬ MX b ∧ (H3 b = some o ∨ ∃ ps ps', o = .tbl ps ∧ H3 b = some (.tbl ps')) := fun b o nb e => ⟨nb, k3 b o e fun p c q => by
      obtain ⟨g1, g2, _⟩ := s2.go p c q
      exact ⟨fun z => nb (z ▸ .inl (.inl g1)), fun z => nb (z ▸ .inl (.inl g2))⟩⟩
    have hlen : n < yv.length := (List.getElem?_eq_some_iff.mp hy).1
    refine ⟨a, yv, (n : Int), n, y, rfl, rfl, a3, by omega, by omega, ?_, hy, acc, by rw [upd_ne nDa]; exact d3, by rw [racc.length, sizeLine_eq]; omega, acc ++ [y], accd ++ [d], yv.eraseIdx n, rest.eraseIdx n, upd_same, by rw [upd_ne nDa.symm, upd_same], ?_, ?_, hW', by simp; omega, ⟨fun p c e => ?_, ?_, fun b hb => (s3.nt b hb).upd.upd⟩, fun b o h1 h2 e hn => ?_, fun b hb => ?_⟩
    · unfold seqIndex?
      simp
      omega
    · refine ((racc.goT gX).append (.cons (ry.goT gX) .nil)).go fun b o nb e => ⟨nb, ?_⟩
      rw [upd_ne fun z => nb (.inr z), upd_ne fun z => nb (by rw [z]; exact .inl ma)]; exact e
    · refine ((ryv.goT gX).erase n).go fun b o nb e => ⟨nb, ?_⟩
      rw [upd_ne fun z => nb (.inr z), upd_ne fun z => nb (by rw [z]; exact .inl ma)]; exact e
    · obtain ⟨g1, g2, g3, ns, l, mm, tt, g4, g5⟩ := s3.go p c e
      obtain ⟨⟨n1, n2⟩, n3, n4⟩ := srcN p c e
      exact ⟨g1, g2, g3, ns, l, mm, tt, by rw [upd_ne n2, upd_ne n4.symm]; exact g4, by rw [upd_ne n1, upd_ne n3.symm]; exact g5⟩
    · exact tabs_upd (tabs_upd s3.tab a3) (by rw [upd_ne nDa]; exact d3)
    · rcases ku b o h1 h2 e hn with z | ⟨ps, ps', z1, z2⟩
      · rcases k3 b o z hn with y | ⟨qs, qs', y1, y2⟩
        · exact .inl (by rw [upd_ne h2, upd_ne h1]; exact y)
        · exact .inr ⟨qs, qs', y1, by rw [upd_ne h2, upd_ne h1]; exact y2⟩
      · rcases k3 b _ z2 hn with y | ⟨_, qs', _, y2⟩
        · exact .inr ⟨ps, ps', z1, by rw [upd_ne h2, upd_ne h1]; exact y⟩
        · exact .inr ⟨ps, qs', z1, by rw [upd_ne h2, upd_ne h1]; exact y2⟩
    · by_cases z1 : b = Dl
      · rw [z1, upd_same]; exact True.intro
      · rw [upd_ne z1]
        by_cases z2 : b = a
        · rw [z2, upd_same]; exact True.intro
        · rw [upd_ne z2]; exact E5.src.nt b ⟨hb, z2⟩
  · rintro H2 ⟨acc, accd, yv, rest, hacc, hyv, racc, ryv, hW, hle, s2, ku, mtx⟩
    refine r.2.1 _ _ H2 (wd accd rest hW) (fun b o e n => ?_) s2 (fun b hb => (mtx b (.inl (.inl hb))).ne) (.lst (fun z => E1.mt Dl z hD) hacc (racc.go fun b o n e => ⟨fun z => n (.inl (.inl z)), e⟩))
    have na : b ≠ a := fun z => by rw [z, E1.new a _ (List.mem_of_getElem? hs)] at e; cases e
    have nD : b ≠ Dl := fun z => by
      rcases E1.keep b o e n with y | ⟨_, _, _, y⟩ <;> rw [z, hD] at y <;> cases y
    rcases E1.keep b o e n with y | ⟨ps, ps', y1, y2⟩
    · exact ku b o na nD y n
    · rcases ku b _ na nD y2 n with z | ⟨_, qs', _, z⟩
      · exact .inr ⟨ps, ps', y1, z⟩
      · exact .inr ⟨ps, qs', y1, z⟩
section
variable {X : Cx}
theorem psd_retPop {elt A tg : Expr} {scope : Scope} {own : List (Str × Nat)} {m : DA} {g : TG} {dg : DG} {mx : DE} {p pos lpos rpos : Pos} (i : Nat) (hc : X.calm = true) (hN : X.N.Nodup) (hgr : Gl X "range") (hmr : X.mg "range" = none) (ha : PDA X [A] 1 m) (ok : blkC X.N X.env.scope scope own = true)
    (hg : ∀ (s : Shared) (H : Hp) (C : Addr) (cl : List (Str × Addr)) (fp : List Addr), PG (X.blk s H scope (compEnvC scope cl C X.env) fp) tg g) (lg : LG g dg) (sg : Sets g (own.map (·.2)))
    (he : ∀ (s : Shared) (H : Hp) (C : Addr) (cl : List (Str × Addr)) (fp : List Addr), PE (X.blk s H scope (compEnvC scope cl C X.env) fp) elt (tBM X.K "list" rPopAt (tVar i) (tCons (tOfE mx) tNil))) (hv : i ∉ own.map (·.2) := by decide)
    (hs : ∀ x, foldedSetIterable (.Call (.Name "range" p) [A] [] pos) X.env x = pure x := by intro _; rfl) (hse : starEach [A] X.env = [(false, eval A X.env)] := by rfl) :
    PDS Wx X (.Return (some (.ListComp elt [⟨tg, .Call (.Name "range" p) [A] [] pos, [], 0⟩] scope lpos)) rpos) (dRetPop m dg i mx (own.map (·.2))) :=
  let ⟨_, h1, l1⟩ := ha; ⟨_, ps_ret (pe_lc hc hN (pi_range1 hgr hmr h1 hse) (blkOk_by ok) hg (fun _ _ _ _ _ => pts_nil) he hs), ls_retPop l1 lg sg le_of hv⟩
def dLstN (m : DA) : DA := fun σd Q => m σd fun ds => match ds with
  | [.list xs] => Q xs
  | [.tuple xs] => Q xs
  | _ => False
theorem ln_lstOf {K : PySem.W.Frag} {n : Nat} {t : TA} {m : DA} (h : LA n t m) : LN (tCB (fun xs H Q => ∃ p ys, xs = [.ref p] ∧ (SqL K H p ys ∨ SqT K H p ys) ∧ ∀ l, H l = none → Q (.ref l) (upd H l (.lst ys))) t) (dLstN m) := by
  intro S M H0 H σ σd Qd Q E hm k
  refine h S M H0 H σ σd _ _ E hm fun ds vs H1 q E1 k1 r1 _ => ?_
  have fin : ∀ (p : Addr) (ys : List V) (xs : List D), (SqL K H1 p ys ∨ SqT K H1 p ys) → Dqs S (MO M σd) H1 ys xs → Qd xs → ∃ p' ys, [V.ref p] = [V.ref p'] ∧ (SqL K H1 p' ys ∨ SqT K H1 p' ys) ∧ ∀ l, H1 l = none → Q (.ref l) (upd H1 l (.lst ys)) := fun p ys xs hs rs hq =>
    ⟨p, ys, rfl, hs, fun l hl => by
      have sm : Same H1 (upd H1 l (.lst ys)) := Same.upd hl
      exact k xs l ys _ hq (E1.same sm) (k1.trans (.of sm)) (fresh_back E k1 hl E1.src) upd_same (rs.go fun a o n e => ⟨(mo_sub hl a o n e).1, sm a o e⟩)⟩
  split at q
  · cases r1 with
    | cons a b =>
      cases b
      cases a with
      | lst n e rs => exact fin _ _ _ (.inl (.inl (.inl e))) rs q
  · cases r1 with
    | cons a b =>
      cases b
      cases a with
      | tup n e rs => exact fin _ _ _ (.inr (.inl (.inl e))) rs q
  · exact q.elim
theorem pdn_listOf {X : Cx} {e : Expr} {n : Nat} {m : DA} {p pos : Pos} (hm : X.mg "list" = none) (ha : PDA X [e] n m) (hg : Gl X "list" := by rfl) (hse : starEach [e] X.env = (false, eval e X.env) :: starEach [] X.env := by rfl) (hpl : (backTo pos (starEach [] X.env)).any (·.1) = false := by rfl) :
    PDN X (.Call (.Name "list" p) [e] [] pos) (dLstN m) := let ⟨_, h1, l1⟩ := ha; ⟨_, pe_callTy call_list_of hg hm (by decide +kernel) h1 (by decide) (by decide) hse hpl, ln_lstOf l1⟩
end
end PH

namespace PH
open PySem
def isNum : D → Bool
  | .int _ => true
  | _ => false
theorem isNum_iff {d : D} : isNum d = true ↔ ∃ i, d = .int i := by cases d <;> simp [isNum]
def areNum (d : D) (n : Int) : Bool := match d with
  | .tuple xs => decide ((xs.length : Int) = n) && xs.all isNum
  | _ => false
def tupLe (n : Nat) : D → Prop
  | .tuple xs => xs.length ≤ n
  | _ => True
def spIsNum : DSp := fun ds Q => ∃ d, ds = [d] ∧ Q (.bool (isNum d))
def spAreNum : DSp := fun ds Q => ∃ d n, ds = [d, .int n] ∧ tupLe 1000 d ∧ Q (.bool (areNum d n))
def gs (p q : Int) : Int := if q < 0 then -(Int.gcd p q : Int) else (Int.gcd p q : Int)
def frac (p q : Int) : D := .tuple [.int (p.fdiv (gs p q)), .int (q.fdiv (gs p q))]
theorem gs_ne {p q : Int} (h : q ≠ 0) : gs p q ≠ 0 := by
  have : Int.gcd p q ≠ 0 := fun z => h (Int.gcd_eq_zero_iff.mp z).2
  unfold gs; split <;> omega
theorem lcc (f : D → D) {ys : List D} {g : DG} {me : DE} {σ0 : DSt} {Q : List D → Prop} (hl : ys.length ≤ 1000000) (hs : ∀ y ∈ ys, ∀ Q : D → Prop, Q (f y) → g y σ0 fun σ2 => me σ2 Q) (hq : Q (ys.map f)) :
    ys.length ≤ 1000000 ∧ ∃ W : Nat → List D → Prop, W 0 [] ∧ (∀ i y acc, ys[i]? = some y → acc.length ≤ i → W i acc → g y σ0 fun σ2 => dYes σ2 fun b => if b = true then me σ2 fun z => W (i + 1) (acc ++ [z]) else W (i + 1) acc) ∧ ∀ acc, W ys.length acc → Q acc := by
  refine ⟨hl, fun i acc => acc = (ys.take i).map f, by simp, fun i y acc h _ w => ?_, fun acc w => ?_⟩
  · have h0 : i < ys.length := (List.getElem?_eq_some_iff.mp h).1
    have hy : ys[i] = y := (List.getElem?_eq_some_iff.mp h).2
    refine hs y (List.mem_of_getElem? h) (fun z => acc ++ [z] = (ys.take (i + 1)).map f) ?_
    rw [w, List.take_add_one, List.map_append, h]
    rfl
  · rw [w, List.take_length]; exact hq
theorem lccf (t : D → Bool) (f : D → D) {ys : List D} {g : DG} {mt : DT} {me : DE} {σ0 : DSt} {Q : List D → Prop} (hl : ys.length ≤ 1000000)
    (hs : ∀ y ∈ ys, ∀ (Q1 : D → Prop) (Q0 : Prop), (t y = true → Q1 (f y)) → (t y = false → Q0) → g y σ0 fun σ2 => mt σ2 fun b => if b = true then me σ2 Q1 else Q0) (hq : Q ((ys.filter t).map f)) :
    ys.length ≤ 1000000 ∧ ∃ W : Nat → List D → Prop, W 0 [] ∧ (∀ i y acc, ys[i]? = some y → acc.length ≤ i → W i acc → g y σ0 fun σ2 => mt σ2 fun b => if b = true then me σ2 fun z => W (i + 1) (acc ++ [z]) else W (i + 1) acc) ∧ ∀ acc, W ys.length acc → Q acc := by
  refine ⟨hl, fun i acc => acc = ((ys.take i).filter t).map f, by simp, fun i y acc h _ w => ?_, fun acc w => ?_⟩
  · have e : ys.take (i + 1) = ys.take i ++ [y] := by rw [List.take_add_one, h]; rfl
    refine hs y (List.mem_of_getElem? h) (fun z => acc ++ [z] = ((ys.take (i + 1)).filter t).map f) _ (fun ht => ?_) (fun ht => ?_)
    · rw [w, e, List.filter_append, List.map_append]
      simp [ht]
    · show acc = ((ys.take (i + 1)).filter t).map f
      rw [w, e, List.filter_append, List.map_append]
      simp [ht]
  · rw [w, List.take_length]; exact hq
def spCommon : DSp := fun ds Q => ∃ a b : Int, ds = [.int a, .int b] ∧ Q (.int (Int.gcd a b))
end PH

namespace PH
open PySem
theorem atI_0 {α : Type} {a : α} {l : List α} : L2.atI (a :: l) 0 = some a := by simpa using L2.atI_nat (xs := a :: l) (j := 0) (v := a) rfl
theorem atI_1 {α : Type} {a b : α} {l : List α} : L2.atI (a :: b :: l) 1 = some b := by simpa using L2.atI_nat (xs := a :: b :: l) (j := 1) (v := b) rfl
theorem atI_2 {α : Type} {a b c : α} {l : List α} : L2.atI (a :: b :: c :: l) 2 = some c := by simpa using L2.atI_nat (xs := a :: b :: c :: l) (j := 2) (v := c) rfl
theorem atI_3 {α : Type} {a b c d : α} {l : List α} : L2.atI (a :: b :: c :: d :: l) 3 = some d := by simpa using L2.atI_nat (xs := a :: b :: c :: d :: l) (j := 3) (v := d) rfl
theorem atI_4 {α : Type} {a b c d e : α} {l : List α} : L2.atI (a :: b :: c :: d :: e :: l) 4 = some e := by simpa using L2.atI_nat (xs := a :: b :: c :: d :: e :: l) (j := 4) (v := e) rfl
theorem atI_ok {α : Type} {xs : List α} {k : Int} (h0 : 0 ≤ k) (h : k < xs.length) : ∃ v, L2.atI xs k = some v ∧ v ∈ xs := by
  have hk : k.toNat < xs.length := by omega
  have e := L2.atI_nat (xs := xs) (j := k.toNat) (v := xs[k.toNat]) (List.getElem?_eq_getElem hk)
  rw [show ((k.toNat : Nat) : Int) = k by omega] at e
  exact ⟨_, e, List.getElem_mem hk⟩
theorem eAdd_i {i j : Int} {Q : D → Prop} : dAddA (.int i) (.int j) Q = Q (.int (i + j)) := rfl
theorem eAdd_l {xs ys : List D} {Q : D → Prop} : dAddA (.list xs) (.list ys) Q = (xs.length + ys.length ≤ 10000000 ∧ Q (.list (xs ++ ys))) := rfl
theorem eMul_i {i j : Int} {Q : D → Prop} : dMulA (.int i) (.int j) Q = (CMB i j ∧ Q (.int (i * j))) := rfl
theorem eMul_l {xs : List D} {k : Int} {Q : D → Prop} : dMulA (.list xs) (.int k) Q = ((-(2 ^ 63) ≤ k ∧ k < 2 ^ 63 ∧ xs.length * k.toNat ≤ 10000000) ∧ Q (.list (repD k.toNat xs))) := rfl
theorem eIx_l {xs : List D} {i : Int} {Q : D → Prop} : dIx (.list xs) (.int i) Q = (match L2.atI xs i with | some d => Q d | none => False) := rfl
theorem eIx_t {xs : List D} {i : Int} {Q : D → Prop} : dIx (.tuple xs) (.int i) Q = (match L2.atI xs i with | some d => Q d | none => False) := rfl
theorem eLen_l {xs : List D} {Q : D → Prop} : dLen [.list xs] Q = Q (.int xs.length) := rfl
theorem eLen_t {xs : List D} {Q : D → Prop} : dLen [.tuple xs] Q = Q (.int xs.length) := rfl
theorem eInt_i {i : Int} {Q : D → Prop} : dIntF [.int i] Q = Q (.int i) := rfl
theorem eInt_b {b : Bool} {Q : D → Prop} : dIntF [.bool b] Q = Q (.int (if b then 1 else 0)) := rfl
theorem eEq_i {i j : Int} {Q : D → Prop} : dEq (.int i) (.int j) Q = Q (.bool (decide (i = j))) := rfl
theorem eNe_i {i j : Int} {Q : D → Prop} : dNe (.int i) (.int j) Q = Q (.bool (!decide (i = j))) := rfl
theorem eEq_e {xs : List D} {Q : D → Prop} : dEq (.list xs) (.list []) Q = Q (.bool xs.isEmpty) := rfl
theorem pick {m : Int} {Q : D → Prop} (h1 : 1 ≤ m) (hm : m < 2 ^ 30) (h : ∀ k : Int, 0 ≤ k → k < m → Q (.int k)) : spPick [SRC, .int m] Q := ⟨m, rfl, hm, fun k h0 hk => h k h0 (by rcases hk with hk | hk <;> omega)⟩
theorem gs_pos {p q : Int} (h : q ≠ 0) : 0 < q * gs p q := by
  have g0 : 0 < (Int.gcd p q : Int) := by
    have : Int.gcd p q ≠ 0 := fun z => h (Int.gcd_eq_zero_iff.mp z).2
    omega
  unfold gs
  split
  · rename_i hq
    exact Int.mul_pos_of_neg_of_neg hq (by omega)
  · exact Int.mul_pos (by omega) g0
theorem gs_dvd_l (p q : Int) : gs p q ∣ p := by
  unfold gs; split
  · exact Int.neg_dvd.mpr (Int.gcd_dvd_left ..)
  · exact Int.gcd_dvd_left ..
theorem gs_dvd_r (p q : Int) : gs p q ∣ q := by
  unfold gs; split
  · exact Int.neg_dvd.mpr (Int.gcd_dvd_right ..)
  · exact Int.gcd_dvd_right ..
theorem gs_natAbs (p q : Int) : (gs p q).natAbs = Int.gcd p q := by
  unfold gs; split <;> simp
theorem frac_spec {p q : Int} (h : q ≠ 0) : ∃ u v : Int, frac p q = .tuple [.int u, .int v] ∧ 0 < v ∧ Int.gcd u v = 1 ∧ p = u * gs p q ∧ q = v * gs p q := by
  have g0 := gs_ne (p := p) h
  obtain ⟨u, hu⟩ := gs_dvd_l p q
  obtain ⟨v, hv⟩ := gs_dvd_r p q
  have e1 : p.fdiv (gs p q) = u := by
    conv => lhs; lhs; rw [hu]
    exact Int.mul_fdiv_cancel_left u g0
  have e2 : q.fdiv (gs p q) = v := by
    conv => lhs; lhs; rw [hv]
    exact Int.mul_fdiv_cancel_left v g0
  refine ⟨u, v, by unfold frac; rw [e1, e2], ?_, ?_, by rw [Int.mul_comm]; exact hu, by rw [Int.mul_comm]; exact hv⟩
  · have := gs_pos (p := p) h
    by_cases hv0 : 0 < v
    · exact hv0
    · exfalso
      have h2 : q * gs p q = v * (gs p q * gs p q) := by
        conv => lhs; lhs; rw [hv]
        rw [Int.mul_comm (gs p q) v, Int.mul_assoc]
      rw [h2] at this
      have h3 : 0 ≤ gs p q * gs p q := by
        rcases Int.le_total 0 (gs p q) with z | z
        · exact Int.mul_nonneg z z
        · exact Int.mul_nonneg_of_nonpos_of_nonpos z z
      have := Int.mul_nonpos_of_nonpos_of_nonneg (show v ≤ 0 by omega) h3
      omega
  · have k1 : Int.gcd p q = (gs p q).natAbs * Int.gcd u v := by
      have z := Int.gcd_mul_left (gs p q) u v
      rw [← hu, ← hv] at z
      exact z
    rw [gs_natAbs] at k1
    have g1 : 0 < Int.gcd p q := by
      have : Int.gcd p q ≠ 0 := fun z => h (Int.gcd_eq_zero_iff.mp z).2
      omega
    have := Nat.eq_of_mul_eq_mul_left g1 (show Int.gcd p q * Int.gcd u v = Int.gcd p q * 1 by omega)
    exact this
theorem cop_dvd {a b v : Int} (g : Int.gcd a b = 1) (h : b ∣ a * v) : b ∣ v := by
  have z := Int.dvd_gcd_mul_iff_dvd_mul.mpr h
  rw [Int.gcd_comm, g] at z
  simpa using z
theorem form_uniq {a b u v : Int} (hb : 0 < b) (hv : 0 < v) (g1 : Int.gcd a b = 1) (g2 : Int.gcd u v = 1) (e : a * v = u * b) : a = u ∧ b = v := by
  have d1 : b ∣ v := by
    have : b ∣ a * v := ⟨u, by rw [e, Int.mul_comm]⟩
    exact cop_dvd g1 this
  have d2 : v ∣ b := by
    have : v ∣ u * b := ⟨a, by rw [← e, Int.mul_comm]⟩
    exact cop_dvd g2 this
  have eb : b = v := Int.le_antisymm (Int.le_of_dvd hv d1) (Int.le_of_dvd hb d2)
  refine ⟨?_, eb⟩
  subst eb
  exact Int.eq_of_mul_eq_mul_right (by omega) e
theorem frac_cross {p q u v : Int} (hq : q ≠ 0) (h : frac p q = .tuple [.int u, .int v]) : p * v = u * q ∧ 0 < v ∧ Int.gcd u v = 1 := by
  obtain ⟨u', v', h1, h2, h3, h4, h5⟩ := frac_spec (p := p) hq
  rw [h1] at h
  injection h with h
  injection h with e1 e2
  injection e1 with e1
  injection e2 with e2 _
  injection e2 with e2
  subst e1; subst e2
  refine ⟨?_, h2, h3⟩
  calc p * v' = (u' * gs p q) * v' := by rw [← h4]
    _ = u' * (v' * gs p q) := by rw [Int.mul_assoc, Int.mul_comm (gs p q)]
    _ = u' * q := by rw [← h5]
end PH

namespace PH
open PySem
mutual
def tame : D → Prop
  | .int i => i.natAbs < 2 ^ 900
  | .str x => (x.cps.toList.all fun c => decide (c < 16 ^ 8)) = true
  | .list xs => tames xs
  | .tuple xs => tames xs
  | .dict kvs => kvs = []
  | _ => True
def tames : List D → Prop
  | [] => True
  | x :: xs => tame x ∧ tames xs
end
theorem short_int {i : Int} (h : i.natAbs < 2 ^ 900) : (PyData.shown (.int i)).length ≤ 300 := by
  have h2 : i.natAbs < 10 ^ 280 := Nat.lt_of_lt_of_le h (by decide +kernel)
  have e := int_text_length_le10 (k := 280) (by decide) h2
  show (Str.ofString (toString i)).length ≤ 300
  rw [ofString_length]
  omega
mutual
theorem tame_show : ∀ d : D, tame d → d.showable = true ∧ noS d = true ∧ d.leavesShort 300 = true
  | .none, _ => ⟨by simp [PyData.showable], by simp [noS], by simp [PyData.leavesShort]⟩
  | .bool _, _ => ⟨by simp [PyData.showable], by simp [noS], by simp [PyData.leavesShort]⟩
  | .int i, h => by
    have h' : i.natAbs < 2 ^ 900 := by simpa [tame] using h
    refine ⟨?_, by simp [noS], ?_⟩
    · simp only [PyData.showable, decide_eq_true_eq]
      exact Nat.lt_of_lt_of_le (PySem.Flt.log2_lt_of (by decide) h') (by decide)
    · simp only [PyData.leavesShort, decide_eq_true_eq]
      exact short_int h'
  | .str x, h => ⟨by simp [PyData.showable], by simp [noS], by simpa [PyData.leavesShort, tame] using h⟩
  | .list xs, h => by
    obtain ⟨a, b, c⟩ := tames_show xs (by simpa [tame] using h)
    exact ⟨by simpa [PyData.showable] using a, by simpa [noS] using b, by simpa [PyData.leavesShort] using c⟩
  | .tuple xs, h => by
    obtain ⟨a, b, c⟩ := tames_show xs (by simpa [tame] using h)
    exact ⟨by simpa [PyData.showable] using a, by simpa [noS] using b, by simpa [PyData.leavesShort] using c⟩
  | .dict kvs, h => by
    have h' : kvs = [] := by simpa [tame] using h
    subst h'
    exact ⟨by simp [PyData.showable, PyData.showableKv], by simp [noS], by simp [PyData.leavesShort, PyData.leavesShortKv]⟩
theorem tames_show : ∀ ds : List D, tames ds → PyData.showableAll ds = true ∧ noSs ds = true ∧ PyData.leavesShortAll 300 ds = true
  | [], _ => ⟨by simp [PyData.showableAll], by simp [noSs], by simp [PyData.leavesShortAll]⟩
  | d :: ds, h => by
    obtain ⟨h1, h2⟩ : tame d ∧ tames ds := by simpa [tames] using h
    obtain ⟨a, b, c⟩ := tame_show d h1
    obtain ⟨a', b', c'⟩ := tames_show ds h2
    exact ⟨by simp [PyData.showableAll, a, a'], by simp [noSs, b, b'], by simp [PyData.leavesShortAll, c, c']⟩
end
theorem rOk_of {d : D} (h : tame d) (hb : d.bulk ≤ 40000) (hd : d.depth ≤ 60) (hl : d.hasDict = true → noL d = true) : rOk d := by
  obtain ⟨a, b, c⟩ := tame_show d h
  refine ⟨a, b, hl, hd, ?_⟩
  have z := PyData.shown_le_bulk 300 (by decide) d c
  rw [sizeLine_eq]
  omega
end PH

namespace PH
open PySem
theorem dNe_same {x : Str} {Q : D → Prop} (h : Q (.bool false)) : dNe (.str x) (.str x) Q := by
  show Q (.bool (!decide (x = x)))
  rw [decide_eq_true rfl]; exact h
end PH
namespace PH
open PySem
end PH
namespace PH
open PySem
theorem dNe_eq {x y : D} {Q : D → Prop} (e : x = y) (h : Q (.bool false)) : dNe (.str (PyData.shown x)) (.str (PyData.shown y)) Q := by
  subst e; exact dNe_same h
end PH

namespace PH
open PySem PySem.Spec L2
def KpS (p c : Addr) (H H' : Hp) : Prop := ∀ a u, H a = some u → a ≠ p → a ≠ c → H' a = some u
theorem KpS.refl {p c : Addr} {H : Hp} : KpS p c H H := fun _ _ e _ _ => e
theorem KpS.p {p c : Addr} {H H' : Hp} {o : HO} (k : KpS p c H H') : KpS p c H (upd H' p o) := fun a u e h1 h2 => by rw [upd_ne h1]; exact k a u e h1 h2
theorem KpS.c {p c : Addr} {H H' : Hp} {o : HO} (k : KpS p c H H') : KpS p c H (upd H' c o) := fun a u e h1 h2 => by rw [upd_ne h2]; exact k a u e h1 h2
theorem KpS.keep {p c : Addr} {H H' : Hp} (k : KpS p c H H') : KeepS (some (p, c)) H H' := fun a u e n => .inl (k a u e (n p c rfl).1 (n p c rfl).2)
theorem KpS.tab {p c : Addr} {H H' : Hp} {xs : List V} {kvs : List (Key × V)} (k : KpS p c H H') (T : LamX.Tabs lamTabs H) (h1 : H c = some (.lst xs)) (h2 : H p = some (.dK kvs)) : LamX.Tabs lamTabs H' := fun q hq => by
  obtain ⟨ps, t1, t2, t3⟩ := T q hq
  have ne : ∀ {a b : Addr} {o u : HO}, H a = some o → H b = some u → o ≠ u → a ≠ b := fun e1 e2 n z => n (Option.some.inj (e1.symm.trans ((congrArg H z).trans e2)))
  refine ⟨ps, k _ _ t1 (ne t1 h2 (by intro z; cases z)) (ne t1 h1 (by intro z; cases z)), t2, fun pos cv hcv => ?_⟩
  obtain ⟨d, d1, d2⟩ := t3 pos cv hcv
  exact ⟨d, d1, k _ _ d2 (ne d2 h2 (by intro z; cases z)) (ne d2 h1 (by intro z; cases z))⟩
theorem ev_law {H : Hp} {p c : Addr} {ns : List Int} {l m t : Int} (v : V) (n : Nat) (hT : LamX.Tabs lamTabs H) (hpc : p ≠ c) (hc : H c = some (.lst (ns.map V.int))) (hp : H p = some (.dK (srcKvs c l m t))) :
    Ev (some (p, c)) (fun z => z = p ∨ z = c) H H (some v :: some (.ref p) :: List.replicate n none) (.emp :: .val SRC :: List.replicate n .emp) where
  len := by simp
  sl := by
    intro i o s h1 h2
    match i with
    | 0 => simp at h1 h2; subst h1; subst h2; trivial
    | 1 => simp at h1 h2; subst h1; subst h2; exact ⟨_, rfl, .src rfl⟩
    | i + 2 =>
      simp only [List.getElem?_cons_succ, List.getElem?_replicate] at h1 h2
      split at h2
      · cases h2; trivial
      · cases h2
  uni := by
    intro i j a ds es h1 h2
    match i with
    | 0 => simp at h1
    | 1 => simp at h1
    | i + 2 =>
      simp only [List.getElem?_cons_succ, List.getElem?_replicate] at h1
      split at h1 <;> cases h1
  new := by
    intro a ds h
    simp [List.mem_replicate] at h
  src := ⟨by
    intro p' c' e
    cases e
    exact ⟨.inl rfl, .inr rfl, hpc, ns, l, m, t, hc, hp⟩, hT, by
    rintro a (rfl | rfl)
    · rw [hp]; exact True.intro
    · rw [hc]; exact True.intro⟩
  src0 := by
    intro p' c' e
    cases e
    exact ⟨by rw [hp]; simp, by rw [hc]; simp⟩
  keep := .refl
  mt := by
    rintro a (rfl | rfl)
    · rw [hp]; simp
    · rw [hc]; simp
  mt0 := by
    rintro a (rfl | rfl)
    · rw [hp]; simp
    · rw [hc]; simp
end PH
namespace PH
open PySem PySem.Spec L2
theorem dIfE_k {t : DT} {m n : DE} {σd : DSt} {K : D → Prop} (c : Bool) (P : D → Prop) (ht : ∀ R : Bool → Prop, R c → t σd R) (hm : c = true → ∀ R : D → Prop, (∀ d, P d → R d) → m σd R) (hn : c = false → ∀ R : D → Prop, (∀ d, P d → R d) → n σd R) (h : ∀ d, P d → K d) : dIfE t m n σd K :=
  ht _ (by cases c with
    | true => exact iteT (hm rfl K h)
    | false => exact iteF (hn rfl K h))
end PH
namespace PH
open PySem PySem.Spec L2
end PH

namespace PH
open PySem PySem.Spec L2
def qz (s : DSpX) : DSp := fun ds Q => s ds Q fun _ => False
def g3 (x y d : Int) : Nat := Nat.gcd (Nat.gcd x.natAbs y.natAbs) d.natAbs
def gs3 (x y d : Int) : Int := if d < 0 then -(g3 x y d : Int) else (g3 x y d : Int)
def plc (x y d : Int) : D := .tuple [.int (x.fdiv (gs3 x y d)), .int (y.fdiv (gs3 x y d)), .int (d.fdiv (gs3 x y d))]
theorem g3_pos {x y d : Int} (h : d ≠ 0) : 0 < g3 x y d := Nat.gcd_pos_of_pos_right _ (Int.natAbs_pos.mpr h)
theorem g3_x (x y d : Int) : g3 x y d ∣ x.natAbs := Nat.dvd_trans (Nat.gcd_dvd_left _ _) (Nat.gcd_dvd_left _ _)
theorem g3_y (x y d : Int) : g3 x y d ∣ y.natAbs := Nat.dvd_trans (Nat.gcd_dvd_left _ _) (Nat.gcd_dvd_right _ _)
theorem g3_d (x y d : Int) : g3 x y d ∣ d.natAbs := Nat.gcd_dvd_right _ _
theorem gs3_abs (x y d : Int) : (gs3 x y d).natAbs = g3 x y d := by unfold gs3; split <;> omega
theorem gs3_ne {x y d : Int} (h : d ≠ 0) : gs3 x y d ≠ 0 := by
  have := g3_pos (x := x) (y := y) h
  have := gs3_abs x y d
  omega
theorem gs3_x (x y d : Int) : gs3 x y d ∣ x := Int.natAbs_dvd_natAbs.mp (by rw [gs3_abs]; exact g3_x x y d)
theorem gs3_y (x y d : Int) : gs3 x y d ∣ y := Int.natAbs_dvd_natAbs.mp (by rw [gs3_abs]; exact g3_y x y d)
theorem gs3_d (x y d : Int) : gs3 x y d ∣ d := Int.natAbs_dvd_natAbs.mp (by rw [gs3_abs]; exact g3_d x y d)
theorem g3_mul (x y d n : Int) : g3 (x * n) (y * n) (d * n) = g3 x y d * n.natAbs := by
  unfold g3
  rw [Int.natAbs_mul, Int.natAbs_mul, Int.natAbs_mul, Nat.gcd_mul_right, Nat.gcd_mul_right]
def isPlace (d : D) : Bool := areNum d 3 && (match d with
  | .tuple [.int p, .int q, .int r] => decide (0 < r) && decide (g3 p q r = 1)
  | _ => false)
theorem plc_form {x y d : Int} (h : d ≠ 0) : isPlace (plc x y d) = true := by
  have g0 := gs3_ne (x := x) (y := y) h
  obtain ⟨u, hu⟩ := gs3_x x y d
  obtain ⟨v, hv⟩ := gs3_y x y d
  obtain ⟨r, hr⟩ := gs3_d x y d
  have e : plc x y d = .tuple [.int u, .int v, .int r] := by
    unfold plc
    have a1 : x.fdiv (gs3 x y d) = u := by conv => lhs; arg 1; rw [hu, Int.mul_comm]
                                           exact Int.mul_fdiv_cancel _ g0
    have a2 : y.fdiv (gs3 x y d) = v := by conv => lhs; arg 1; rw [hv, Int.mul_comm]
                                           exact Int.mul_fdiv_cancel _ g0
    have a3 : d.fdiv (gs3 x y d) = r := by conv => lhs; arg 1; rw [hr, Int.mul_comm]
                                           exact Int.mul_fdiv_cancel _ g0
    rw [a1, a2, a3]
  rw [e]
  have hrp : 0 < r := by
    have hp := g3_pos (x := x) (y := y) h
    by_cases hn : d < 0
    · have eg : gs3 x y d = -(g3 x y d : Int) := by unfold gs3; rw [if_pos hn]
      rw [eg] at hr
      by_cases h0 : 0 < r
      · exact h0
      · have : 0 ≤ -(g3 x y d : Int) * r := Int.mul_nonneg_of_nonpos_of_nonpos (by omega) (by omega)
        omega
    · have eg : gs3 x y d = (g3 x y d : Int) := by unfold gs3; rw [if_neg hn]
      rw [eg] at hr
      by_cases h0 : 0 < r
      · exact h0
      · have : (g3 x y d : Int) * r ≤ 0 := Int.mul_nonpos_of_nonneg_of_nonpos (by omega) (by omega)
        omega
  have hg : g3 u v r = 1 := by
    have m := g3_mul u v r (gs3 x y d)
    rw [Int.mul_comm u, Int.mul_comm v, Int.mul_comm r, ← hu, ← hv, ← hr, gs3_abs] at m
    have hp := g3_pos (x := x) (y := y) h
    have : 1 * g3 x y d = g3 u v r * g3 x y d := by rw [Nat.one_mul]; exact m
    exact (Nat.eq_of_mul_eq_mul_right hp this).symm
  simp [isPlace, areNum, isNum, hrp, hg]
def spIsPlace : DSp := fun ds Q => ∃ d, ds = [d] ∧ tupLe 1000 d ∧ Q (.bool (isPlace d))
def spPlc : DSp := fun ds Q => ∃ (x y d : Int) (a : Nat), ds = [.int x, .int y, .int d] ∧ d ≠ 0 ∧ Bd a x ∧ Bd a y ∧ Bd a d ∧ a ≤ 8000 ∧ Q (plc x y d)
end PH
namespace PH
open PySem PySem.Spec L2
end PH
namespace PH
open PySem PySem.Spec L2
theorem gs3_bd {x y d : Int} {a : Nat} (h : d ≠ 0) (hb : Bd a d) : Bd a (gs3 x y d) := ⟨by
  rw [gs3_abs]
  exact Nat.lt_of_le_of_lt (Nat.le_of_dvd (by omega) (g3_d x y d)) hb.h⟩
theorem areNum3 {d : D} : areNum d 3 = true ↔ ∃ p q r, d = .tuple [.int p, .int q, .int r] := by
  constructor
  · intro h
    cases d with
    | tuple xs =>
      simp only [areNum, Bool.and_eq_true, decide_eq_true_eq, List.all_eq_true] at h
      obtain ⟨h1, h2⟩ := h
      match xs, h1, h2 with
      | [a, b, c], _, h2 =>
        obtain ⟨i, rfl⟩ := isNum_iff.mp (h2 a (by simp))
        obtain ⟨j, rfl⟩ := isNum_iff.mp (h2 b (by simp))
        obtain ⟨k, rfl⟩ := isNum_iff.mp (h2 c (by simp))
        exact ⟨i, j, k, rfl⟩
      | [], h1, _ => exact absurd h1 (by decide)
      | [_], h1, _ => exact absurd h1 (by simp)
      | [_, _], h1, _ => exact absurd h1 (by simp)
      | _ :: _ :: _ :: _ :: _, h1, _ => exact absurd h1 (by simp only [List.length_cons]; omega)
    | _ => simp [areNum] at h
  · rintro ⟨p, q, r, rfl⟩
    simp [areNum, isNum]
theorem isPlace_g {p q r : Int} (hr : 0 < r) : isPlace (.tuple [.int p, .int q, .int r]) = decide ((g3 p q r : Int) = 1) := by
  have ha : areNum (.tuple [.int p, .int q, .int r]) 3 = true := areNum3.mpr ⟨p, q, r, rfl⟩
  rw [isPlace, ha, Bool.true_and]
  show (decide (0 < r) && decide (g3 p q r = 1)) = _
  rw [decide_eq_true hr, Bool.true_and]
  exact decide_eq_decide.mpr (by omega)
theorem isPlace_n {p q r : Int} (hr : ¬ 0 < r) : isPlace (.tuple [.int p, .int q, .int r]) = false := by simp [isPlace, hr]
theorem isPlace_0 {d : D} (h : areNum d 3 = false) : isPlace d = false := by simp [isPlace, h]
end PH
namespace PH
open PySem PySem.Spec L2
theorem spPlc_c {x y d : Int} {a : Nat} (hx : Bd a x) (hy : Bd a y) (hd2 : Bd a d) (hd : d ≠ 0) (ha : a ≤ 8000) {z : D} (e : plc x y d = z) {Q : D → Prop} (h : Q z) : spPlc [.int x, .int y, .int d] Q := ⟨x, y, d, a, rfl, hd, hx, hy, hd2, ha, e ▸ h⟩
end PH

namespace PH
open PySem PySem.Spec L2
end PH

namespace PH
open PySem PySem.Spec L2
def dirv (a b : Int) : D := .tuple [.int (a.fdiv (Int.gcd a b)), .int (b.fdiv (Int.gcd a b))]
theorem g2_pos {a b : Int} (h : ¬ (a = 0 ∧ b = 0)) : 0 < Int.gcd a b := by
  rcases Nat.eq_zero_or_pos (Int.gcd a b) with z | z
  · exact absurd (Int.gcd_eq_zero_iff.mp z) h
  · exact z
theorem dirv_spec {a b : Int} (h : ¬ (a = 0 ∧ b = 0)) : ∃ u v : Int, dirv a b = .tuple [.int u, .int v] ∧ Int.gcd u v = 1 ∧ a = u * Int.gcd a b ∧ b = v * Int.gcd a b := by
  have g0 := g2_pos h
  obtain ⟨u, hu⟩ := Int.gcd_dvd_left (a := a) (b := b)
  obtain ⟨v, hv⟩ := Int.gcd_dvd_right (a := a) (b := b)
  have gne : (Int.gcd a b : Int) ≠ 0 := by omega
  have a1 : a.fdiv (Int.gcd a b) = u := by
    conv => lhs; arg 1; rw [hu, Int.mul_comm]
    exact Int.mul_fdiv_cancel _ gne
  have a2 : b.fdiv (Int.gcd a b) = v := by
    conv => lhs; arg 1; rw [hv, Int.mul_comm]
    exact Int.mul_fdiv_cancel _ gne
  refine ⟨u, v, by unfold dirv; rw [a1, a2], ?_, by rw [Int.mul_comm]; exact hu, by rw [Int.mul_comm]; exact hv⟩
  have m := Int.gcd_mul_left (Int.gcd a b) u v
  rw [← hu, ← hv] at m
  have e : (Int.gcd a b : Int).natAbs = Int.gcd a b := rfl
  rw [e] at m
  have : Int.gcd a b * 1 = Int.gcd a b * Int.gcd u v := by rw [Nat.mul_one]; exact m
  exact (Nat.eq_of_mul_eq_mul_left g0 this).symm
def spDir : DSp := fun ds Q => ∃ (a b : Int) (k : Nat), ds = [.int a, .int b] ∧ ¬ (a = 0 ∧ b = 0) ∧ Bd k a ∧ Bd k b ∧ k ≤ 8000 ∧ Q (dirv a b)
def spPl2 (ok : Int → Int → Int → Int → Int → Int → Prop) (f : Int → Int → Int → Int → Int → Int → D) : DSp := fun ds Q => ∃ (a b c d e g : Int) (k : Nat), ds = [.tuple [.int a, .int b, .int c], .tuple [.int d, .int e, .int g]] ∧ ok a b c d e g ∧
  Bd k a ∧ Bd k b ∧ Bd k c ∧ Bd k d ∧ Bd k e ∧ Bd k g ∧ k ≤ 1000 ∧ Q (f a b c d e g)
def stepX (a c d g : Int) : Int := d * c - a * g
end PH
namespace PH
open PySem PySem.Spec L2
theorem plc_spec {x y d : Int} (h : d ≠ 0) : ∃ u v r : Int, plc x y d = .tuple [.int u, .int v, .int r] ∧ 0 < r ∧ g3 u v r = 1 ∧ u.natAbs ≤ x.natAbs ∧ v.natAbs ≤ y.natAbs ∧ r.natAbs ≤ d.natAbs := by
  have g0 := gs3_ne (x := x) (y := y) h
  obtain ⟨u, hu⟩ := gs3_x x y d
  obtain ⟨v, hv⟩ := gs3_y x y d
  obtain ⟨r, hr⟩ := gs3_d x y d
  have f := plc_form (x := x) (y := y) h
  have e : plc x y d = .tuple [.int u, .int v, .int r] := by
    unfold plc
    have a1 : x.fdiv (gs3 x y d) = u := by conv => lhs; arg 1; rw [hu, Int.mul_comm]
                                           exact Int.mul_fdiv_cancel _ g0
    have a2 : y.fdiv (gs3 x y d) = v := by conv => lhs; arg 1; rw [hv, Int.mul_comm]
                                           exact Int.mul_fdiv_cancel _ g0
    have a3 : d.fdiv (gs3 x y d) = r := by conv => lhs; arg 1; rw [hr, Int.mul_comm]
                                           exact Int.mul_fdiv_cancel _ g0
    rw [a1, a2, a3]
  rw [e] at f
  have hf : 0 < r ∧ g3 u v r = 1 := by
    by_cases hr0 : 0 < r
    · rw [isPlace_g hr0] at f
      exact ⟨hr0, by have := of_decide_eq_true f; omega⟩
    · rw [isPlace_n hr0] at f; cases f
  have le : ∀ {a b : Int}, a = gs3 x y d * b → b.natAbs ≤ a.natAbs := fun {a b} z => by
    rw [z, Int.natAbs_mul]
    exact Nat.le_mul_of_pos_left _ (by omega)
  exact ⟨u, v, r, e, hf.1, hf.2, le hu, le hv, le hr⟩
def spDrawPlace : DSp := fun ds Q => ∃ w : Int, ds = [SRC, .int w] ∧ 0 ≤ w ∧ w ≤ 1000000 ∧ ∀ x y d : Int, x.natAbs ≤ 3 * w.natAbs → y.natAbs ≤ 3 * w.natAbs → 0 < d → d ≤ 3 → g3 x y d = 1 → Q (.tuple [.int x, .int y, .int d])
theorem sh_ii {p q : Int} : SeqAt.shaped (.tuple [.int p, .int q]) = true := by simp [SeqAt.shaped, PyData.canLay0, PyData.canLayAll0, PyData.depth, PyData.depthAll]
theorem sh_iii {p q r : Int} : SeqAt.shaped (.tuple [.int p, .int q, .int r]) = true := by simp [SeqAt.shaped, PyData.canLay0, PyData.canLayAll0, PyData.depth, PyData.depthAll]
theorem place_uniq {x y d a b e : Int} (hd : 0 < d) (he : 0 < e) (g1 : g3 x y d = 1) (g2 : g3 a b e = 1) (h1 : x * e = a * d) (h2 : y * e = b * d) : x = a ∧ y = b ∧ d = e := by
  have key : ∀ {x y d a b e : Int}, 0 < d → 0 < e → g3 x y d = 1 → x * e = a * d → y * e = b * d → d.natAbs ∣ e.natAbs := fun {x y d a b e} hd he g1 h1 h2 => by
    have m := g3_mul x y d e
    rw [g1, Nat.one_mul] at m
    rw [← m]
    unfold g3
    refine Nat.dvd_gcd (Nat.dvd_gcd ?_ ?_) ?_
    · rw [h1, Int.natAbs_mul]; exact Nat.dvd_mul_left _ _
    · rw [h2, Int.natAbs_mul]; exact Nat.dvd_mul_left _ _
    · rw [Int.natAbs_mul]; exact Nat.dvd_mul_right _ _
  have e1 : d = e := by
    have := Nat.dvd_antisymm (key hd he g1 h1 h2) (key he hd g2 h1.symm h2.symm)
    omega
  subst e1
  exact ⟨Int.eq_of_mul_eq_mul_right (by omega) h1, Int.eq_of_mul_eq_mul_right (by omega) h2, rfl⟩
end PH

namespace PH
open PySem PySem.Spec L2
theorem dNe_eqs {x y : D} {Q : D → Prop} (e : x = y) (hs : SeqAt.shaped x = true) (h : Q (.bool false)) : dNe x y Q := by
  subst e
  unfold dNe
  split
  · rw [decide_eq_true rfl]; exact h
  · rw [decide_eq_true rfl]; exact h
  · refine ⟨hs, hs, ?_⟩
    have e : PyData.eqv x x = true := PySem.SeqAt.eqv_refl _ (lay_of hs)
    rw [e]; exact h
end PH
namespace PH
open PySem PySem.Spec L2
end PH
namespace PH
open PySem PySem.Spec L2
end PH

namespace PH
open PySem PySem.Spec L2
theorem plc_parts {x y d : Int} (h : d ≠ 0) : ∃ u v w : Int, plc x y d = .tuple [.int u, .int v, .int w] ∧ 0 < w ∧ g3 u v w = 1 ∧ x = gs3 x y d * u ∧ y = gs3 x y d * v ∧ d = gs3 x y d * w := by
  have g0 := gs3_ne (x := x) (y := y) h
  obtain ⟨u, hu⟩ := gs3_x x y d
  obtain ⟨v, hv⟩ := gs3_y x y d
  obtain ⟨r, hr⟩ := gs3_d x y d
  obtain ⟨u', v', r', e', h1, h2, _⟩ := plc_spec (x := x) (y := y) h
  have e : plc x y d = .tuple [.int u, .int v, .int r] := by
    unfold plc
    have a1 : x.fdiv (gs3 x y d) = u := by conv => lhs; arg 1; rw [hu, Int.mul_comm]
                                           exact Int.mul_fdiv_cancel _ g0
    have a2 : y.fdiv (gs3 x y d) = v := by conv => lhs; arg 1; rw [hv, Int.mul_comm]
                                           exact Int.mul_fdiv_cancel _ g0
    have a3 : d.fdiv (gs3 x y d) = r := by conv => lhs; arg 1; rw [hr, Int.mul_comm]
                                           exact Int.mul_fdiv_cancel _ g0
    rw [a1, a2, a3]
  rw [e] at e'
  simp only [PyData.tuple.injEq, List.cons.injEq, PyData.int.injEq, and_true] at e'
  obtain ⟨rfl, rfl, rfl⟩ := e'
  exact ⟨u, v, r, e, h1, h2, hu, hv, hr⟩
theorem plc_cross {x y d u v w : Int} (hd : d ≠ 0) (h : plc x y d = .tuple [.int u, .int v, .int w]) : u * d = x * w ∧ v * d = y * w ∧ 0 < w ∧ g3 u v w = 1 := by
  obtain ⟨u', v', w', e, h1, h2, h3, h4, h5⟩ := plc_parts (x := x) (y := y) hd
  rw [e] at h
  simp only [PyData.tuple.injEq, List.cons.injEq, PyData.int.injEq, and_true] at h
  obtain ⟨rfl, rfl, rfl⟩ := h
  generalize gs3 x y d = g at h3 h4 h5
  subst h3; subst h4; subst h5
  exact ⟨by grind, by grind, h1, h2⟩
abbrev pl (x y d : Int) : D := .tuple [.int x, .int y, .int d]
def lessP (a b c d e g : Int) : Bool := decide (a * g < d * c ∨ (a * g = d * c ∧ b * g < e * c))
def detP (a b c d e g h i j : Int) : Int := a * (e * j - i * g) + b * (h * g - d * j) + c * (d * i - h * e)
theorem sign_eq (n : Int) : (if decide (0 < n) = true then (1 : Int) else 0) - (if decide (n < 0) = true then 1 else 0) = Int.sign n := by
  rcases Int.lt_trichotomy n 0 with h | h | h
  · rw [if_neg (by simp; omega), if_pos (by simpa using h), Int.sign_eq_neg_one_of_neg h]; rfl
  · subst h; rfl
  · rw [if_pos (by simpa using h), if_neg (by simp; omega), Int.sign_eq_one_of_pos h]; rfl
end PH
namespace PH
open PySem PySem.Spec L2
abbrev fr (u v : Int) : D := .tuple [.int u, .int v]
def All2 (R : D → D → Prop) : List D → List D → Prop
  | [], [] => True
  | y :: ys, z :: zs => R y z ∧ All2 R ys zs
  | _, _ => False
theorem All2.len {R : D → D → Prop} : ∀ {ys zs : List D}, All2 R ys zs → ys.length = zs.length
  | [], [], _ => rfl
  | _ :: _, _ :: _, h => by simp [All2.len h.2]
  | [], _ :: _, h => h.elim
  | _ :: _, [], h => h.elim
theorem All2.get {R : D → D → Prop} : ∀ {ys zs : List D} {i : Nat} {y : D}, All2 R ys zs → ys[i]? = some y → ∃ z, zs[i]? = some z ∧ R y z
  | [], [], _, _, _, e => by simp at e
  | y :: ys, z :: zs, 0, _, h, e => by simp at e; subst e; exact ⟨z, rfl, h.1⟩
  | y :: ys, z :: zs, i + 1, _, h, e => by
    obtain ⟨w, h1, h2⟩ := All2.get (i := i) h.2 (by simpa using e)
    exact ⟨w, by simpa using h1, h2⟩
  | [], _ :: _, _, _, h, _ => h.elim
  | _ :: _, [], _, _, h, _ => h.elim
theorem lccA {ys zs : List D} {g : DG} {me : DE} {σ0 : DSt} {Q : List D → Prop} (h : All2 (fun y z => ∀ Q : D → Prop, Q z → g y σ0 fun σ2 => me σ2 Q) ys zs) (hl : ys.length ≤ 1000000) (hq : Q zs) :
    ys.length ≤ 1000000 ∧ ∃ W : Nat → List D → Prop, W 0 [] ∧ (∀ i y acc, ys[i]? = some y → acc.length ≤ i → W i acc → g y σ0 fun σ2 => dYes σ2 fun b => if b = true then me σ2 fun z => W (i + 1) (acc ++ [z]) else W (i + 1) acc) ∧ ∀ acc, W ys.length acc → Q acc := by
  refine ⟨hl, fun i acc => acc = zs.take i, by simp, fun i y acc hy _ w => ?_, fun acc w => ?_⟩
  · obtain ⟨z, h1, h2⟩ := h.get hy
    refine h2 (fun z => acc ++ [z] = zs.take (i + 1)) ?_
    show acc ++ [z] = zs.take (i + 1)
    rw [w, List.take_add_one, h1]; rfl
  · rw [w, h.len, List.take_length]; exact hq
theorem det_cyc (a b c d e g h i j : Int) : detP d e g h i j a b c = detP a b c d e g h i j := by unfold detP; grind
theorem det_swap (a b c d e g h i j : Int) : detP d e g a b c h i j = -detP a b c d e g h i j := by unfold detP; grind
end PH
namespace PH
open PySem PySem.Spec L2
end PH
namespace PH
open PySem PySem.Spec L2
theorem bd_two {a : Nat} {x y : Int} (h1 : Bd a x) (h2 : Bd a y) : x.natAbs + y.natAbs < 2 ^ (a + 1) := by
  have := h1.h; have := h2.h; rw [Nat.pow_succ]; omega
theorem bd_add2 {a : Nat} {x y : Int} (h1 : Bd a x) (h2 : Bd a y) : Bd (a + 1) (x + y) := ⟨by have := bd_two h1 h2; omega⟩
theorem bd_sub2 {a : Nat} {x y : Int} (h1 : Bd a x) (h2 : Bd a y) : Bd (a + 1) (x - y) := ⟨by have := bd_two h1 h2; omega⟩
end PH
namespace PH
end PH
namespace PH
open PySem PySem.Spec L2
theorem dLcc_k {mi : DA} {g : DG} {me : DE} {vs : List Nat} {σd : DSt} {Q : List D → Prop} (ys zs : List D) (hi : ∀ R : List D → Prop, R ys → mi σd R) (hl : ys.length ≤ 1000000)
    (h : All2 (fun y z => ∀ Q : D → Prop, Q z → g y (dwipe (clean σd) vs) fun σ2 => me σ2 Q) ys zs) (hq : Q zs) : dLcc mi g dYes me vs σd Q :=
  hi _ (lccA h hl hq)
theorem dLcc_t {mi : DA} {g : DG} {mt : DT} {me : DE} {vs : List Nat} {σd : DSt} {Q : List D → Prop} (ys : List D) (t : D → Bool) (f : D → D) (hi : ∀ R : List D → Prop, R ys → mi σd R) (hl : ys.length ≤ 1000000)
    (h : ∀ y ∈ ys, ∀ (Q1 : D → Prop) (Q0 : Prop), (t y = true → Q1 (f y)) → (t y = false → Q0) → g y (dwipe (clean σd) vs) fun σ2 => mt σ2 fun b => if b = true then me σ2 Q1 else Q0) (hq : Q ((ys.filter t).map f)) : dLcc mi g mt me vs σd Q :=
  hi _ (lccf t f hl h hq)
end PH

namespace PH
open PySem PySem.Spec L2
theorem g3h_pos {a b c : Int} (h : ¬ (a = 0 ∧ b = 0)) : 0 < g3 a b c := by
  rcases Nat.eq_zero_or_pos (g3 a b c) with z | z
  · exfalso
    have z1 := Nat.eq_zero_of_gcd_eq_zero_left z
    have z2 := Nat.eq_zero_of_gcd_eq_zero_left z1
    have z3 := Nat.eq_zero_of_gcd_eq_zero_right z1
    exact h ⟨by omega, by omega⟩
  · exact z
theorem dvd_g {a : Int} {n : Nat} (h : n ∣ a.natAbs) : (n : Int) ∣ a := Int.natAbs_dvd_natAbs.mp (by simpa using h)
def halfv (a b c : Int) : D := .tuple [.int (a.fdiv (g3 a b c)), .int (b.fdiv (g3 a b c)), .int (c.fdiv (g3 a b c))]
theorem halfv_spec {a b c : Int} (h : ¬ (a = 0 ∧ b = 0)) : ∃ u v w : Int, halfv a b c = pl u v w ∧ ¬ (u = 0 ∧ v = 0) ∧ g3 u v w = 1 ∧ a = (g3 a b c : Int) * u ∧ b = (g3 a b c : Int) * v ∧ c = (g3 a b c : Int) * w := by
  have g0 := g3h_pos (c := c) h
  have gne : (g3 a b c : Int) ≠ 0 := by omega
  obtain ⟨u, hu⟩ : (g3 a b c : Int) ∣ a := dvd_g (g3_x a b c)
  obtain ⟨v, hv⟩ : (g3 a b c : Int) ∣ b := dvd_g (g3_y a b c)
  obtain ⟨w, hw⟩ : (g3 a b c : Int) ∣ c := dvd_g (g3_d a b c)
  have e : halfv a b c = pl u v w := by
    unfold halfv
    have a1 : a.fdiv (g3 a b c) = u := by conv => lhs; arg 1; rw [hu, Int.mul_comm]
                                          exact Int.mul_fdiv_cancel _ gne
    have a2 : b.fdiv (g3 a b c) = v := by conv => lhs; arg 1; rw [hv, Int.mul_comm]
                                          exact Int.mul_fdiv_cancel _ gne
    have a3 : c.fdiv (g3 a b c) = w := by conv => lhs; arg 1; rw [hw, Int.mul_comm]
                                          exact Int.mul_fdiv_cancel _ gne
    rw [a1, a2, a3]
  have m := g3_mul u v w (g3 a b c)
  rw [Int.mul_comm u, Int.mul_comm v, Int.mul_comm w, ← hu, ← hv, ← hw] at m
  refine ⟨u, v, w, e, fun z => h ?_, ?_, hu, hv, hw⟩
  · rw [hu, hv, z.1, z.2]; exact ⟨Int.mul_zero _, Int.mul_zero _⟩
  · have e2 : (g3 a b c : Int).natAbs = g3 a b c := rfl
    rw [e2] at m
    have : 1 * g3 a b c = g3 u v w * g3 a b c := by rw [Nat.one_mul]; exact m
    exact (Nat.eq_of_mul_eq_mul_right g0 this).symm
theorem g3_bd {a b c : Int} {k : Nat} (h : ¬ (a = 0 ∧ b = 0)) (ha : Bd k a) (hb : Bd k b) : Bd k (g3 a b c : Int) := ⟨by
  show g3 a b c < 2 ^ k
  rcases Decidable.em (b = 0) with z | z
  · have hane : a ≠ 0 := fun y => h ⟨y, z⟩
    exact Nat.lt_of_le_of_lt (Nat.le_of_dvd (by omega) (g3_x a b c)) ha.h
  · exact Nat.lt_of_le_of_lt (Nat.le_of_dvd (by omega) (g3_y a b c)) hb.h⟩
def spTri (ok : Int → Int → Int → Prop) (f : Int → Int → Int → D) : DSp := fun ds Q => ∃ a b c : Int, ds = [pl a b c] ∧ ok a b c ∧ Q (f a b c)
def excess (a b c x y d : Int) : Int := a * x + b * y - c * d
def spHP (f : Int → Int → Int → Int → Int → Int → D) : DSp := fun ds Q => ∃ (a b c x y d : Int) (k : Nat), ds = [pl a b c, pl x y d] ∧ Bd k a ∧ Bd k b ∧ Bd k c ∧ Bd k x ∧ Bd k y ∧ Bd k d ∧ k ≤ 2000 ∧ Q (f a b c x y d)
theorem halfv_bd {a b c : Int} {k : Nat} (ha : Bd k a) (hb : Bd k b) (hc : Bd k c) (h : ¬ (a = 0 ∧ b = 0)) {u v w : Int} (e : halfv a b c = pl u v w) : Bd k u ∧ Bd k v ∧ Bd k w := by
  unfold halfv at e
  simp only [PyData.tuple.injEq, List.cons.injEq, PyData.int.injEq, and_true] at e
  obtain ⟨rfl, rfl, rfl⟩ := e
  exact ⟨bd_fdiv, bd_fdiv, bd_fdiv⟩
end PH
namespace PH
open PySem PySem.Spec L2
end PH
namespace PH
open PySem PySem.Spec L2
end PH
namespace PH
open PySem PySem.Spec L2
end PH

namespace PH
open PySem PySem.Spec L2
def upper (a b : Int) : Bool := decide (0 < b) || (decide (b = 0) && decide (0 < a))
def cr (a b c d : Int) : Int := a * d - b * c
def aheadB (a b c d : Int) : Bool := if upper a b = upper c d then decide (0 < cr a b c d) else upper a b
theorem upper_iff {a b : Int} : upper a b = true ↔ 0 < b ∨ (b = 0 ∧ 0 < a) := by simp [upper]
theorem lower_iff {a b : Int} (h : ¬ (a = 0 ∧ b = 0)) : upper a b = false ↔ b < 0 ∨ (b = 0 ∧ a < 0) := by
  have e := upper_iff (a := a) (b := b)
  cases hu : upper a b with
  | true => exact ⟨fun z => (Bool.noConfusion z), fun z => by have := e.mp hu; omega⟩
  | false =>
    have : ¬ (0 < b ∨ (b = 0 ∧ 0 < a)) := fun z => by rw [e.mpr z] at hu; cases hu
    exact ⟨fun _ => by omega, fun _ => rfl⟩
theorem cr_anti (a b c d : Int) : cr c d a b = -cr a b c d := by unfold cr; grind
theorem ahead_irr (a b : Int) : aheadB a b a b = false := by
  unfold aheadB cr
  rw [if_pos rfl]
  exact decide_eq_false (by have : a * b - b * a = 0 := by grind
                            omega)
theorem ahead_asym {a b c d : Int} (h : aheadB a b c d = true) : aheadB c d a b = false := by
  unfold aheadB at *
  by_cases e : upper a b = upper c d
  · rw [if_pos e] at h
    rw [if_pos e.symm, cr_anti a b c d]
    have := of_decide_eq_true h
    exact decide_eq_false (by omega)
  · rw [if_neg e] at h
    rw [if_neg (fun z => e z.symm)]
    cases hc : upper c d with
    | false => rfl
    | true => rw [h, hc] at e; exact absurd rfl e
theorem pos_pos {x y : Int} (hx : 0 < x) : 0 < x * y ↔ 0 < y := by
  constructor
  · intro h
    by_cases z : 0 < y
    · exact z
    · have := Int.mul_nonpos_of_nonneg_of_nonpos (show 0 ≤ x by omega) (show y ≤ 0 by omega)
      omega
  · exact fun h => Int.mul_pos hx h
theorem comb_upper {p q a b c d x y : Int} (hp : 0 < p) (hq : 0 < q) (h1 : upper a b = true) (h2 : upper c d = true) (hx : x = p * a + q * c) (hy : y = p * b + q * d) : upper x y = true := by
  rw [upper_iff] at *
  subst hx; subst hy
  rcases h1 with h1 | ⟨h1, h1'⟩ <;> rcases h2 with h2 | ⟨h2, h2'⟩
  · have := Int.mul_pos hp h1; have := Int.mul_pos hq h2; omega
  · subst h2
    have := Int.mul_pos hp h1
    rw [Int.mul_zero]; omega
  · subst h1
    have := Int.mul_pos hq h2
    rw [Int.mul_zero]; omega
  · subst h1; subst h2
    have := Int.mul_pos hp h1'; have := Int.mul_pos hq h2'
    rw [Int.mul_zero, Int.mul_zero]; omega
theorem scale_upper {p a b : Int} (hp : 0 < p) : upper (p * a) (p * b) = upper a b := by
  have e : ∀ {z : Int}, (0 < p * z ↔ 0 < z) := pos_pos hp
  have e0 : (p * b = 0 ↔ b = 0) := ⟨fun h => by rcases Int.mul_eq_zero.mp h with h | h <;> omega, fun h => by rw [h, Int.mul_zero]⟩
  unfold upper
  rw [decide_eq_decide.mpr e, decide_eq_decide.mpr e, decide_eq_decide.mpr e0]
theorem neg_upper {a b : Int} (h : ¬ (a = 0 ∧ b = 0)) : upper (-a) (-b) = !upper a b := by
  cases hu : upper a b with
  | true =>
    have := upper_iff.mp hu
    exact (lower_iff (by omega)).mpr (by omega)
  | false =>
    have := (lower_iff h).mp hu
    exact upper_iff.mpr (by omega)
theorem cr_comb1 (a b c d m n : Int) : cr a b c d * m = cr m n c d * a + cr a b m n * c := by unfold cr; grind
theorem cr_comb2 (a b c d m n : Int) : cr a b c d * n = cr m n c d * b + cr a b m n * d := by unfold cr; grind
theorem ahead_trans {a b m n c d : Int} (ha : ¬ (a = 0 ∧ b = 0)) (hm : ¬ (m = 0 ∧ n = 0)) (hc : ¬ (c = 0 ∧ d = 0)) (h1 : aheadB a b m n = true) (h2 : aheadB m n c d = true) : aheadB a b c d = true := by
  have key : upper a b = upper m n → upper m n = upper c d → 0 < cr a b m n → 0 < cr m n c d → 0 < cr a b c d := fun e1 e2 p1 p2 => by
    -- -cr(a, c) (m, n) is no positive combination of its own half
    have c1 := cr_comb1 a b c d m n
    have c2 := cr_comb2 a b c d m n
    by_cases z : 0 < cr a b c d
    · exact z
    · exfalso
      cases hu : upper a b with
      | true =>
        have k := comb_upper p2 p1 hu (e2 ▸ e1 ▸ hu) c1 c2
        rcases Int.lt_or_eq_of_le (show cr a b c d ≤ 0 by omega) with y | y
        · have e : upper (-cr a b c d * -m) (-cr a b c d * -n) = true := by rw [Int.neg_mul_neg, Int.neg_mul_neg]; exact k
          rw [scale_upper (by omega), neg_upper hm, ← e1, hu] at e
          cases e
        · rw [y, Int.zero_mul, Int.zero_mul] at k; simp [upper] at k
      | false =>
        have na : upper (-a) (-b) = true := by rw [neg_upper ha, hu]; rfl
        have nc : upper (-c) (-d) = true := by rw [neg_upper hc, ← e2, ← e1, hu]; rfl
        have k : upper (cr a b c d * -m) (cr a b c d * -n) = true := comb_upper p2 p1 na nc (by grind) (by grind)
        rcases Int.lt_or_eq_of_le (show cr a b c d ≤ 0 by omega) with y | y
        · have e : upper (-cr a b c d * m) (-cr a b c d * n) = true := by rw [Int.neg_mul_comm, Int.neg_mul_comm]; exact k
          rw [scale_upper (by omega), ← e1, hu] at e
          cases e
        · rw [y, Int.zero_mul, Int.zero_mul] at k; simp [upper] at k
  unfold aheadB at *
  cases hu : upper a b <;> cases hv : upper c d <;> cases hw : upper m n <;> rw [hu, hw] at h1 <;> rw [hw, hv] at h2 <;> simp at h1 h2 ⊢ <;> exact key (by rw [hu, hw]) (by rw [hw, hv]) h1 h2
theorem cop_pm {a b c d : Int} (g1 : Int.gcd a b = 1) (g2 : Int.gcd c d = 1) (h : a * d = b * c) : (c = a ∧ d = b) ∨ (c = -a ∧ d = -b) := by
  rcases Int.lt_trichotomy b 0 with hb | hb | hb <;> rcases Int.lt_trichotomy d 0 with hd | hd | hd
  · have := form_uniq (a := -a) (b := -b) (u := -c) (v := -d) (by omega) (by omega) (by rw [Int.neg_gcd, Int.gcd_neg]; exact g1) (by rw [Int.neg_gcd, Int.gcd_neg]; exact g2) (by grind)
    omega
  · subst hd
    have : b * c = 0 := by rw [← h, Int.mul_zero]
    rcases Int.mul_eq_zero.mp this with z | z
    · omega
    · subst z; simp at g2
  · have := form_uniq (a := -a) (b := -b) (u := c) (v := d) (by omega) (by omega) (by rw [Int.neg_gcd, Int.gcd_neg]; exact g1) g2 (by grind)
    omega
  · subst hb
    have : a * d = 0 := by rw [h, Int.zero_mul]
    rcases Int.mul_eq_zero.mp this with z | z
    · subst z; simp at g1
    · omega
  · subst hb; subst hd
    have e1 : a.natAbs = 1 := by simpa using g1
    have e2 : c.natAbs = 1 := by simpa using g2
    omega
  · subst hb
    have : a * d = 0 := by rw [h, Int.zero_mul]
    rcases Int.mul_eq_zero.mp this with z | z
    · subst z; simp at g1
    · omega
  · have := form_uniq (a := a) (b := b) (u := -c) (v := -d) (by omega) (by omega) g1 (by rw [Int.neg_gcd, Int.gcd_neg]; exact g2) (by grind)
    omega
  · subst hd
    have : b * c = 0 := by rw [← h, Int.mul_zero]
    rcases Int.mul_eq_zero.mp this with z | z
    · omega
    · subst z; simp at g2
  · have := form_uniq (a := a) (b := b) (u := c) (v := d) (by omega) (by omega) g1 g2 (by grind)
    omega
theorem gcd_ne {a b : Int} (g : Int.gcd a b = 1) : ¬ (a = 0 ∧ b = 0) := by
  rintro ⟨rfl, rfl⟩; simp at g
theorem ahead_tot {a b c d : Int} (g1 : Int.gcd a b = 1) (g2 : Int.gcd c d = 1) (h : ¬ (a = c ∧ b = d)) : aheadB c d a b = !aheadB a b c d := by
  have h1 := gcd_ne g1
  have h2 := gcd_ne g2
  unfold aheadB
  by_cases e : upper a b = upper c d
  · rw [if_pos e, if_pos e.symm, cr_anti a b c d]
    rcases Int.lt_trichotomy (cr a b c d) 0 with z | z | z
    · rw [decide_eq_true (show 0 < -cr a b c d by omega), decide_eq_false (show ¬ 0 < cr a b c d by omega)]; rfl
    · exfalso
      have q : a * d = b * c := by unfold cr at z; omega
      rcases cop_pm g1 g2 q with ⟨e1, e2⟩ | ⟨e1, e2⟩
      · exact h ⟨e1.symm, e2.symm⟩
      · rw [e1, e2, neg_upper h1] at e
        cases hu : upper a b <;> rw [hu] at e <;> cases e
    · rw [decide_eq_false (show ¬ 0 < -cr a b c d by omega), decide_eq_true z]; rfl
  · rw [if_neg e, if_neg (fun z => e z.symm)]
    cases hu : upper a b <;> cases hv : upper c d <;> rw [hu, hv] at e <;> first | rfl | exact absurd rfl e
end PH
namespace PH
open PySem PySem.Spec L2
def Dr (k : Nat) (a b : Int) : Prop := Int.gcd a b = 1 ∧ Bd k a ∧ Bd k b
def IsDr (k : Nat) (d : D) : Prop := ∃ a b : Int, d = fr a b ∧ Dr k a b
def aheadD (x y : D) : Bool := match x, y with
  | .tuple [.int a, .int b], .tuple [.int c, .int d] => aheadB a b c d
  | _, _ => false
def spDir2 (f : Int → Int → Int → Int → D) : DSp := fun ds Q => ∃ (a b c d : Int) (k : Nat), ds = [fr a b, fr c d] ∧ Dr k a b ∧ Dr k c d ∧ k ≤ 1000 ∧ Q (f a b c d)
theorem Dr.mono {j k : Nat} {a b : Int} (h : Dr j a b) (l : j ≤ k) : Dr k a b := ⟨h.1, h.2.1.mono l, h.2.2.mono l⟩
theorem Dr.neg {k : Nat} {a b : Int} (h : Dr k a b) : Dr k (-a) (-b) := ⟨by rw [Int.neg_gcd, Int.gcd_neg]; exact h.1, @bd_neg _ _ h.2.1, @bd_neg _ _ h.2.2⟩
theorem Dr.ne {k : Nat} {a b : Int} (h : Dr k a b) : ¬ (a = 0 ∧ b = 0) := gcd_ne h.1
end PH

namespace PH
open PySem PySem.Spec L2
def IsFr (d : D) : Prop := ∃ a b : Int, d = fr a b
theorem lay_frs : ∀ {xs : List D}, (∀ x ∈ xs, IsFr x) → PyData.canLayAll0 xs = true ∧ PyData.depthAll xs ≤ 1
  | [], _ => ⟨by simp [PyData.canLayAll0], by simp [PyData.depthAll]⟩
  | x :: xs, h => by
    obtain ⟨a, b, rfl⟩ := h x (by simp)
    obtain ⟨h1, h2⟩ := lay_frs (xs := xs) fun y hy => h y (by simp [hy])
    exact ⟨by simp [PyData.canLayAll0, PyData.canLay0, h1], by simp [PyData.depthAll, PyData.depth]; omega⟩
theorem sh_frs {xs : List D} (h : ∀ x ∈ xs, IsFr x) : SeqAt.shaped (.list xs) = true := by
  obtain ⟨h1, h2⟩ := lay_frs h
  have e1 : (PyData.list xs).canLay0 = true := by simpa [PyData.canLay0] using h1
  have e2 : (PyData.list xs).depth ≤ 2 := by simp only [PyData.depth]; omega
  simp [SeqAt.shaped, e1]
  omega
theorem eqv_ff {p q r s : Int} : PyData.eqv (fr p q) (fr r s) = (decide (p = r) && decide (q = s)) := by
  simp only [PyData.eqv, PyData.eqvAll, Bool.and_true]; rfl
theorem eqv_fr {x y : D} (hx : IsFr x) (hy : IsFr y) : PyData.eqv x y = true ↔ x = y := by
  obtain ⟨a, b, rfl⟩ := hx
  obtain ⟨c, d, rfl⟩ := hy
  rw [eqv_ff]
  simp
theorem any_fr {xs : List D} {y : D} (h : ∀ x ∈ xs, IsFr x) (hy : IsFr y) : (xs.any fun z => PyData.eqv z y) = true ↔ y ∈ xs := by
  rw [List.any_eq_true]
  constructor
  · rintro ⟨z, hz, e⟩
    rw [(eqv_fr (h z hz) hy).mp e] at hz; exact hz
  · exact fun hz => ⟨y, hz, (eqv_fr hy hy).mpr rfl⟩
theorem dIn_fr {neg : Bool} {xs : List D} {y : D} {Q : D → Prop} (hx : ∀ x ∈ xs, IsFr x) (hy : IsFr y) (h1 : y ∈ xs → Q (.bool (!neg))) (h2 : y ∉ xs → Q (.bool neg)) : dIn neg y (.list xs) Q := by
  have key : Q (.bool (if neg = true then !(xs.any fun z => PyData.eqv z y) else xs.any fun z => PyData.eqv z y)) := by
    have e := any_fr hx hy
    cases ha : (xs.any fun z => PyData.eqv z y) with
    | true =>
      have := h1 (e.mp ha)
      cases neg <;> simpa using this
    | false =>
      have := h2 (fun z => by rw [e.mpr z] at ha; cases ha)
      cases neg <;> simpa using this
  obtain ⟨a, b, rfl⟩ := hy
  exact ⟨sh_ii, sh_frs hx, key⟩
theorem IsDr.fr {k : Nat} {d : D} (h : IsDr k d) : IsFr d := let ⟨a, b, e, _⟩ := h; ⟨a, b, e⟩
theorem IsDr.mono {j k : Nat} {d : D} (h : IsDr j d) (l : j ≤ k) : IsDr k d := let ⟨a, b, e, z⟩ := h; ⟨a, b, e, z.mono l⟩
theorem aheadD_trans {k : Nat} {x y z : D} (hx : IsDr k x) (hy : IsDr k y) (hz : IsDr k z) (h1 : aheadD x y = true) (h2 : aheadD y z = true) : aheadD x z = true := by
  obtain ⟨a, b, rfl, p⟩ := hx
  obtain ⟨c, d, rfl, q⟩ := hy
  obtain ⟨m, n, rfl, r⟩ := hz
  exact ahead_trans p.ne q.ne r.ne h1 h2
theorem aheadD_tot {k : Nat} {x y : D} (hx : IsDr k x) (hy : IsDr k y) (h : x ≠ y) : aheadD y x = !aheadD x y := by
  obtain ⟨a, b, rfl, p⟩ := hx
  obtain ⟨c, d, rfl, q⟩ := hy
  exact ahead_tot p.1 q.1 fun z => h (by rw [z.1, z.2])
theorem round_pre {k : Nat} {u : D} (hu : IsDr k u) : ∀ {xs : List D}, (∀ x ∈ xs, IsDr k x) → xs.Pairwise (fun x y => aheadD x y = true) → u ∉ xs →
    ∃ m, xs.filter (fun x => aheadD x u) = xs.take m ∧ (∀ x ∈ xs.take m, aheadD x u = true) ∧ (∀ x ∈ xs.drop m, aheadD u x = true) ∧ m = (xs.filter (fun x => aheadD x u)).length
  | [], _, _, _ => ⟨0, by simp⟩
  | x :: xs, h, hp, hn => by
    have hx := h x (by simp)
    have hxs : ∀ y ∈ xs, IsDr k y := fun y hy => h y (by simp [hy])
    have hne : x ≠ u := fun z => hn (by simp [z])
    rw [List.pairwise_cons] at hp
    cases e : aheadD x u with
    | true =>
      obtain ⟨m, h1, h2, h3, h4⟩ := round_pre hu hxs hp.2 (fun z => hn (by simp [z]))
      refine ⟨m + 1, by simp [List.filter_cons, e, h1], ?_, by simpa using h3, by simp only [List.filter_cons, e, if_true, List.length_cons]; omega⟩
      intro y hy
      simp only [List.take_succ_cons, List.mem_cons] at hy
      rcases hy with rfl | hy
      · exact e
      · exact h2 y hy
    | false =>
      have ux : aheadD u x = true := by rw [aheadD_tot hx hu hne, e]; rfl
      have al : ∀ y ∈ xs, aheadD u y = true := fun y hy => aheadD_trans hu hx (hxs y hy) ux (hp.1 y hy)
      have no : ∀ y ∈ xs, aheadD y u = false := fun y hy => by
        rw [aheadD_tot hu (hxs y hy) (fun z => hn (by simp [z, hy])), al y hy]; rfl
      have fe : xs.filter (fun x => aheadD x u) = [] := List.filter_eq_nil_iff.mpr fun y hy => by rw [no y hy]; simp
      refine ⟨0, by simp [List.filter_cons, e, fe], by simp, ?_, by simp [List.filter_cons, e, fe]⟩
      intro y hy
      simp only [List.drop_zero, List.mem_cons] at hy
      rcases hy with rfl | hy
      · exact ux
      · exact al y hy
theorem round_ins {k : Nat} {u : D} (hu : IsDr k u) {xs : List D} (h : ∀ x ∈ xs, IsDr k x) (hp : xs.Pairwise (fun x y => aheadD x y = true)) (hn : u ∉ xs) :
    let zs := xs.filter fun x => aheadD x u
    (zs ++ [u] ++ xs.drop zs.length).Pairwise (fun x y => aheadD x y = true) ∧ (∀ x ∈ zs ++ [u] ++ xs.drop zs.length, IsDr k x) ∧ (zs ++ [u] ++ xs.drop zs.length).length = xs.length + 1 := by
  obtain ⟨m, h1, h2, h3, h4⟩ := round_pre hu h hp hn
  intro zs
  have ez : zs = xs.take m := h1
  have em : zs.length = m := h4.symm
  rw [em, ez]
  have sub1 : ∀ x ∈ xs.take m, IsDr k x := fun x hx => h x (List.mem_of_mem_take hx)
  have sub2 : ∀ x ∈ xs.drop m, IsDr k x := fun x hx => h x (List.mem_of_mem_drop hx)
  refine ⟨?_, ?_, ?_⟩
  · rw [List.pairwise_append, List.pairwise_append]
    refine ⟨⟨hp.sublist (List.take_sublist m xs), by simp, fun x hx y hy => ?_⟩, hp.sublist (List.drop_sublist m xs), fun x hx y hy => ?_⟩
    · simp at hy; subst hy; exact h2 x hx
    · rcases List.mem_append.mp hx with hx | hx
      · exact aheadD_trans (sub1 x hx) hu (sub2 y hy) (h2 x hx) (h3 y hy)
      · simp at hx; subst hx; exact h3 y hy
  · intro x hx
    simp only [List.mem_append, List.mem_cons, List.not_mem_nil, or_false] at hx
    rcases hx with (hx | rfl) | hx
    · exact sub1 x hx
    · exact hu
    · exact sub2 x hx
  · simp only [List.length_append, List.length_cons, List.length_nil, List.length_take, List.length_drop]
    have : m ≤ xs.length := by rw [← em, ez]; simp; omega
    omega
end PH
namespace PH
open PySem PySem.Spec L2
theorem cutD_len (xs : List D) (lo hi : Option Int) : (cutD xs lo hi).length ≤ xs.length := by
  unfold cutD; rw [List.length_take, List.length_drop]; omega
theorem cutD_from {xs : List D} {n : Nat} (h : n ≤ xs.length) : cutD xs (some (n : Int)) none = xs.drop n := by
  unfold cutD
  rw [HT.sIx_nat, HT.sIx_none, Nat.min_eq_left h]
  rw [List.take_of_length_le (by rw [List.length_drop]; exact Nat.le_refl _)]
theorem dFor_i {mi : DA} {g : DG} {mb rest : DS} {Dd : DEnds} {σd : DSt} (ys : List D) (W : Nat → DSt → Prop) (hi : ∀ R : List D → Prop, R ys → mi σd R) (h0 : W 0 σd)
    (ht : ∀ i y, ys[i]? = some y → ∀ σ', W i σ' → g y σ' fun σ2 => mb { Dd with nx := W (i + 1), ct := W (i + 1), bk := rest Dd } σ2) (hr : ∀ σ', W ys.length σ' → rest Dd σ') : dSeq (dFor mi g mb) rest Dd σd :=
  hi _ ⟨W, h0, fun i y σ' e w => ht i y e σ' w, hr⟩
end PH
namespace PH
open PySem PySem.Spec L2
def spRound : DSp := fun ds Q => ∃ (xs : List D) (k : Nat), ds = [.list xs] ∧ (∀ x ∈ xs, IsDr k x) ∧ xs.length ≤ 1000 ∧ k ≤ 1000 ∧ ∀ ys : List D, (∀ y ∈ ys, IsDr k y) → ys.Pairwise (fun x y => aheadD x y = true) → ys.length ≤ xs.length → Q (.list ys)
def spSide : DSp := fun ds Q => ∃ a b : Int, ds = [fr a b] ∧ ¬ (a = 0 ∧ b = 0) ∧ Q (.int (if upper a b = true then 0 else 1))
end PH
namespace PH
open PySem PySem.Spec L2
end PH

namespace PH
open PySem PySem.Spec L2
def dgUnl (gs : DGs) : DG := fun d σd Q => match d with | .list ds => gs ds σd Q | _ => False
theorem halfv_form {a b c : Int} {k : Nat} (h : ¬ (a = 0 ∧ b = 0)) (ha : Bd k a) (hb : Bd k b) (hc : Bd k c) : ∃ u v w G : Int, halfv a b c = pl u v w ∧ 0 < G ∧ a = G * u ∧ b = G * v ∧ c = G * w ∧ ¬ (u = 0 ∧ v = 0) ∧ g3 u v w = 1 ∧ Bd k u ∧ Bd k v ∧ Bd k w := by
  obtain ⟨u, v, w, e, h1, h2, h3, h4, h5⟩ := halfv_spec (c := c) h
  obtain ⟨b1, b2, b3⟩ := halfv_bd ha hb hc h e
  have g0 := g3h_pos (c := c) h
  exact ⟨u, v, w, g3 a b c, e, by omega, h3, h4, h5, h1, h2, b1, b2, b3⟩
theorem mul_ne2 {x y c : Int} (h0 : ¬ (x = 0 ∧ y = 0)) (hc : c ≠ 0) : ¬ (x * c = 0 ∧ y * c = 0) := fun z => h0 ⟨by rcases Int.mul_eq_zero.mp z.1 with q | q <;> omega, by rcases Int.mul_eq_zero.mp z.2 with q | q <;> omega⟩
theorem nonneg_iff {G z : Int} (hG : 0 < G) : 0 ≤ G * z ↔ 0 ≤ z := by
  constructor
  · intro h
    by_cases q : 0 ≤ z
    · exact q
    · have := Int.mul_neg_of_pos_of_neg hG (show z < 0 by omega)
      omega
  · exact fun h => Int.mul_nonneg (by omega) h
end PH
namespace PH
open PySem PySem.Spec L2
theorem hle {x1 y1 x2 y2 c g H1 H2 : Int} (hc : 0 < c) (hg : 0 < g) (p1 : 0 < y1) (p2 : 0 < y2) (e1 : x1 * c = H1 * y1) (e2 : x2 * g = H2 * y2) : 0 ≤ c * H2 - H1 * g ↔ ¬ x2 * y1 < x1 * y2 := by
  have k : (x2 * y1 - x1 * y2) * (g * c) = (y1 * y2) * (c * H2 - H1 * g) := by
    have : (x2 * y1 - x1 * y2) * (g * c) = (x2 * g) * (y1 * c) - (x1 * c) * (y2 * g) := by grind
    rw [this, e1, e2]; grind
  have n1 := nonneg_iff (z := c * H2 - H1 * g) (Int.mul_pos p1 p2)
  have n2 := nonneg_iff (z := x2 * y1 - x1 * y2) (Int.mul_pos hg hc)
  rw [Int.mul_comm (g * c), k] at n2
  omega
end PH
namespace PH
open PySem PySem.Spec L2
end PH
namespace PH
open PySem PySem.Spec L2
end PH
namespace PH
end PH
namespace PH
open PySem PySem.Spec L2
theorem eqv_pp {a b c d e g : Int} : PyData.eqv (pl a b c) (pl d e g) = (decide (a = d) && (decide (b = e) && decide (c = g))) := by
  simp only [PyData.eqv, PyData.eqvAll, Bool.and_true]; rfl
end PH

namespace PH
section
variable {α : Type} [DecidableEq α] (lt : α → α → Bool)
def Srt (xs : List α) : Prop := xs.Pairwise fun x y => lt x y = true
def insT (xs : List α) (h : α) : List α := if h ∈ xs then xs else xs.filter (fun x => lt x h) ++ [h] ++ xs.drop (xs.filter fun x => lt x h).length
def ordT (hs : List α) : List α := hs.foldl (insT lt) []
variable {lt} (trans : ∀ x y z, lt x y = true → lt y z = true → lt x z = true) (tot : ∀ x y, x ≠ y → lt y x = !lt x y) (irr : ∀ x, lt x x = false)
include trans tot
theorem ins_pre {u : α} : ∀ {xs : List α}, Srt lt xs → u ∉ xs → ∃ m, xs.filter (fun x => lt x u) = xs.take m ∧ (∀ x ∈ xs.take m, lt x u = true) ∧ (∀ x ∈ xs.drop m, lt u x = true) ∧ m = (xs.filter (fun x => lt x u)).length
  | [], _, _ => ⟨0, by simp⟩
  | x :: xs, hp, hn => by
    have hne : x ≠ u := fun z => hn (by simp [z])
    unfold Srt at hp
    rw [List.pairwise_cons] at hp
    cases e : lt x u with
    | true =>
      obtain ⟨m, h1, h2, h3, h4⟩ := ins_pre (u := u) hp.2 (fun z => hn (by simp [z]))
      refine ⟨m + 1, by simp [List.filter_cons, e, h1], ?_, by simpa using h3, by simp only [List.filter_cons, e, if_true, List.length_cons]; omega⟩
      intro y hy
      simp only [List.take_succ_cons, List.mem_cons] at hy
      rcases hy with rfl | hy
      · exact e
      · exact h2 y hy
    | false =>
      have ux : lt u x = true := by rw [tot x u hne, e]; rfl
      have al : ∀ y ∈ xs, lt u y = true := fun y hy => trans _ _ _ ux (hp.1 y hy)
      have no : ∀ y ∈ xs, lt y u = false := fun y hy => by
        rw [tot u y (fun z => hn (by simp [z, hy])), al y hy]; rfl
      have fe : xs.filter (fun x => lt x u) = [] := List.filter_eq_nil_iff.mpr fun y hy => by rw [no y hy]; simp
      refine ⟨0, by simp [List.filter_cons, e, fe], by simp, ?_, by simp [List.filter_cons, e, fe]⟩
      intro y hy
      simp only [List.drop_zero, List.mem_cons] at hy
      rcases hy with rfl | hy
      · exact ux
      · exact al y hy
theorem ins_ok {u : α} {xs : List α} (hp : Srt lt xs) : Srt lt (insT lt xs u) ∧ (∀ x, x ∈ insT lt xs u ↔ x = u ∨ x ∈ xs) ∧ (insT lt xs u).length ≤ xs.length + 1 := by
  unfold insT
  by_cases hn : u ∈ xs
  · rw [if_pos hn]
    exact ⟨hp, fun x => ⟨.inr, fun z => z.elim (fun y => y ▸ hn) id⟩, by omega⟩
  rw [if_neg hn]
  obtain ⟨m, h1, h2, h3, h4⟩ := ins_pre trans tot hp hn
  rw [← h4, h1]
  refine ⟨?_, fun x => ?_, ?_⟩
  · unfold Srt at *
    rw [List.pairwise_append, List.pairwise_append]
    refine ⟨⟨hp.sublist (List.take_sublist m xs), by simp, fun x hx y hy => ?_⟩, hp.sublist (List.drop_sublist m xs), fun x hx y hy => ?_⟩
    · simp at hy; subst hy; exact h2 x hx
    · rcases List.mem_append.mp hx with hx | hx
      · exact trans _ _ _ (h2 x hx) (h3 y hy)
      · simp at hx; subst hx; exact h3 y hy
  · have e := List.take_append_drop m xs
    have : x ∈ xs ↔ x ∈ xs.take m ∨ x ∈ xs.drop m := by rw [← List.mem_append, e]
    simp only [List.mem_append, List.mem_cons, List.not_mem_nil, or_false, this]
    grind
  · simp only [List.length_append, List.length_cons, List.length_nil, List.length_take, List.length_drop]; omega
theorem ord_ok (hs : List α) : Srt lt (ordT lt hs) ∧ (∀ x, x ∈ ordT lt hs ↔ x ∈ hs) ∧ (ordT lt hs).length ≤ hs.length := by
  have key : ∀ (hs xs : List α), Srt lt xs → Srt lt (hs.foldl (insT lt) xs) ∧ (∀ x, x ∈ hs.foldl (insT lt) xs ↔ x ∈ hs ∨ x ∈ xs) ∧ (hs.foldl (insT lt) xs).length ≤ hs.length + xs.length := fun hs => by
    induction hs with
    | nil => exact fun xs h => ⟨h, fun x => by simp, by simp⟩
    | cons u us ih =>
      intro xs h
      obtain ⟨a, b, c⟩ := ins_ok trans tot (u := u) h
      obtain ⟨a', b', c'⟩ := ih _ a
      refine ⟨a', fun x => ?_, by simp only [List.foldl_cons, List.length_cons]; omega⟩
      rw [List.foldl_cons, b', b]
      simp only [List.mem_cons]
      grind
  obtain ⟨a, b, c⟩ := key hs [] (by unfold Srt; simp)
  exact ⟨a, fun x => by rw [show ordT lt hs = hs.foldl (insT lt) [] from rfl, b]; simp, by show (hs.foldl (insT lt) []).length ≤ hs.length; simpa only [List.length_nil, Nat.add_zero] using c⟩
omit tot in
include irr in
theorem srt_ext : ∀ {xs ys : List α}, Srt lt xs → Srt lt ys → (∀ x, x ∈ xs ↔ x ∈ ys) → xs = ys
  | [], [], _, _, _ => rfl
  | [], y :: ys, _, _, h => by have := (h y).mpr (by simp); simp at this
  | x :: xs, [], _, _, h => by have := (h x).mp (by simp); simp at this
  | x :: xs, y :: ys, hx, hy, h => by
    unfold Srt at hx hy
    rw [List.pairwise_cons] at hx hy
    have e : x = y := by
      rcases List.mem_cons.mp ((h x).mp (by simp)) with z | z
      · exact z
      · rcases List.mem_cons.mp ((h y).mpr (by simp)) with z' | z'
        · exact z'.symm
        · have q := trans _ _ _ (hx.1 y z') (hy.1 x z)
          rw [irr] at q; cases q
    subst e
    have nx : x ∉ xs := fun z => by have := hx.1 x z; rw [irr] at this; cases this
    have ny : x ∉ ys := fun z => by have := hy.1 x z; rw [irr] at this; cases this
    refine congrArg (x :: ·) (srt_ext hx.2 hy.2 fun z => ?_)
    have := h z
    simp only [List.mem_cons] at this
    constructor
    · intro q
      rcases this.mp (.inr q) with w | w
      · subst w; exact absurd q nx
      · exact w
    · intro q
      rcases this.mpr (.inr q) with w | w
      · subst w; exact absurd q ny
      · exact w
end
structure Fq where
  p : Int
  q : Int
  pos : 0 < q
  cop : Int.gcd p q = 1
deriving DecidableEq
namespace Fq
def lt (x y : Fq) : Bool := decide (x.p * y.q < y.p * x.q)
theorem ext' {x y : Fq} (h1 : x.p = y.p) (h2 : x.q = y.q) : x = y := by
  cases x; cases y; simp at h1 h2; subst h1; subst h2; rfl
theorem irr (x : Fq) : lt x x = false := decide_eq_false (by omega)
theorem tot (x y : Fq) (h : x ≠ y) : lt y x = !lt x y := by
  unfold lt
  rcases Int.lt_trichotomy (x.p * y.q) (y.p * x.q) with z | z | z
  · rw [decide_eq_true z, decide_eq_false (by omega)]; rfl
  · exfalso
    obtain ⟨e1, e2⟩ := form_uniq x.pos y.pos x.cop y.cop z
    exact h (ext' e1 e2)
  · rw [decide_eq_true z, decide_eq_false (by omega)]; rfl
theorem trans (x y z : Fq) (h1 : lt x y = true) (h2 : lt y z = true) : lt x z = true := by
  unfold lt at *
  have a := of_decide_eq_true h1
  have b := of_decide_eq_true h2
  refine decide_eq_true ?_
  have m1 := Int.mul_lt_mul_of_pos_right a z.pos
  have m2 := Int.mul_lt_mul_of_pos_right b x.pos
  have e : x.p * z.q * y.q < z.p * x.q * y.q := by
    have e1 : x.p * z.q * y.q = x.p * y.q * z.q := by grind
    have e2 : y.p * x.q * z.q = y.p * z.q * x.q := by grind
    have e3 : z.p * x.q * y.q = z.p * y.q * x.q := by grind
    omega
  exact Int.lt_of_mul_lt_mul_right e (by have := y.pos; omega)
end Fq
end PH

namespace PH
section
variable {α : Type}
variable {WL WH : α → Int}
end
structure Rw where
  lo : Fq
  hi : Fq
  w : Int
def le (x y : Fq) : Bool := !Fq.lt y x
theorem asym {x y : Fq} (h : Fq.lt x y = true) : Fq.lt y x = false := by
  cases e : Fq.lt y x with
  | false => rfl
  | true => have := Fq.trans _ _ _ h e; rw [Fq.irr] at this; cases this
def sw (rows : List Rw) (p : Rw → Bool) : Int := ((rows.filter p).map Rw.w).sum
def val (rows : List Rw) (h : Fq) : Int := sw rows fun r => !Fq.lt h r.lo && !Fq.lt r.hi h
end PH

namespace PH
open PySem PySem.Spec L2
abbrev hD (h : Fq) : D := fr h.p h.q
def Hb (k : Nat) (h : Fq) : Prop := Bd k h.p ∧ Bd k h.q
theorem Hb.mono {j k : Nat} {h : Fq} (b : Hb j h) (l : j ≤ k) : Hb k h := ⟨b.1.mono l, b.2.mono l⟩
theorem all2_m {α : Type} (enc f : α → D) {R : D → D → Prop} : ∀ xs : List α, (∀ x ∈ xs, R (enc x) (f x)) → All2 R (xs.map enc) (xs.map f)
  | [], _ => trivial
  | x :: xs, h => ⟨h x (by simp), all2_m enc f xs fun y hy => h y (by simp [hy])⟩
theorem dLcc_m {α : Type} {mi : DA} {g : DG} {me : DE} {vs : List Nat} {σd : DSt} {Q : List D → Prop} (xs : List α) (enc f : α → D) (hi : ∀ R : List D → Prop, R (xs.map enc) → mi σd R) (hl : xs.length ≤ 1000000)
    (h : ∀ x ∈ xs, ∀ Q : D → Prop, Q (f x) → g (enc x) (dwipe (clean σd) vs) fun σ2 => me σ2 Q) (hq : Q (xs.map f)) : dLcc mi g dYes me vs σd Q :=
  dLcc_k (xs.map enc) (xs.map f) hi (by rwa [List.length_map]) (all2_m enc f xs h) hq
theorem dLcc_mt {α : Type} {mi : DA} {g : DG} {mt : DT} {me : DE} {vs : List Nat} {σd : DSt} {Q : List D → Prop} (xs : List α) (enc : α → D) (t : α → Bool) (f : α → D) (hi : ∀ R : List D → Prop, R (xs.map enc) → mi σd R) (hl : xs.length ≤ 1000000)
    (h : ∀ x ∈ xs, ∀ (Q1 : D → Prop) (Q0 : Prop), (t x = true → Q1 (f x)) → (t x = false → Q0) → g (enc x) (dwipe (clean σd) vs) fun σ2 => mt σ2 fun b => if b = true then me σ2 Q1 else Q0) (hq : Q ((xs.filter t).map f)) : dLcc mi g mt me vs σd Q := by
  refine hi _ ⟨by rwa [List.length_map], fun i acc => acc = ((xs.take i).filter t).map f, by simp, fun i y acc hy _ w => ?_, fun acc w => ?_⟩
  · rw [List.getElem?_map] at hy
    obtain ⟨x, hx, rfl⟩ := Option.map_eq_some_iff.mp hy
    have e : xs.take (i + 1) = xs.take i ++ [x] := by rw [List.take_add_one, hx]; rfl
    refine h x (List.mem_of_getElem? hx) (fun z => acc ++ [z] = ((xs.take (i + 1)).filter t).map f) _ (fun ht => ?_) (fun ht => ?_)
    · rw [w, e, List.filter_append, List.map_append]
      simp [ht]
    · show acc = ((xs.take (i + 1)).filter t).map f
      rw [w, e, List.filter_append, List.map_append]
      simp [ht]
  · rw [w, List.length_map, List.take_length]; exact hq
theorem dFor_m {α : Type} {mi : DA} {g : DG} {mb rest : DS} {Dd : DEnds} {σd : DSt} (xs : List α) (enc : α → D) (W : List α → DSt → Prop) (hi : ∀ R : List D → Prop, R (xs.map enc) → mi σd R) (h0 : W [] σd)
    (ht : ∀ pre x post, xs = pre ++ x :: post → ∀ σ', W pre σ' → g (enc x) σ' fun σ2 => mb { Dd with nx := W (pre ++ [x]), ct := W (pre ++ [x]), bk := rest Dd } σ2) (hr : ∀ σ', W xs σ' → rest Dd σ') : dSeq (dFor mi g mb) rest Dd σd := by
  refine hi _ ⟨fun i => W (xs.take i), by simpa using h0, fun i y σ' hy w => ?_, fun σ' w => hr σ' ?_⟩
  · rw [List.getElem?_map] at hy
    obtain ⟨x, hx, rfl⟩ := Option.map_eq_some_iff.mp hy
    have e : xs.take (i + 1) = xs.take i ++ [x] := by rw [List.take_add_one, hx]; rfl
    have e2 : xs = xs.take i ++ x :: xs.drop (i + 1) := by
      have h0 : i < xs.length := (List.getElem?_eq_some_iff.mp hx).1
      have h1 : xs[i] = x := (List.getElem?_eq_some_iff.mp hx).2
      rw [← h1, ← List.drop_eq_getElem_cons h0, List.take_append_drop]
    have := ht (xs.take i) x _ e2 σ' w
    show g (enc x) σ' fun σ2 => mb { Dd with nx := W (xs.take (i + 1)), ct := W (xs.take (i + 1)), bk := rest Dd } σ2
    rw [e]; exact this
  · rw [List.length_map, List.take_length] at w; exact w
theorem ints_mapf {α : Type} (f : α → Int) (xs : List α) : intsOf (xs.map fun x => PyData.int (f x)) = some (xs.map f) := by
  have := intsOf_map (xs.map f)
  rwa [List.map_map] at this
theorem dSum_m {α : Type} {xs : List α} {f : α → Int} {Q : D → Prop} (h : Q (.int (xs.map f).sum)) : dSum [.list (xs.map fun x => PyData.int (f x))] Q := by
  unfold dSum
  dsimp only
  rw [ints_mapf]; exact h
end PH

namespace PH
open PySem PySem.Spec L2
def F2 {α β : Type} (P : α → β → Prop) : List α → List β → Prop
  | [], [] => True
  | a :: as, b :: bs => P a b ∧ F2 P as bs
  | _, _ => False
theorem F2.snoc {α β : Type} {P : α → β → Prop} : ∀ {as : List α} {bs : List β} {a : α} {b : β}, F2 P as bs → P a b → F2 P (as ++ [a]) (bs ++ [b])
  | [], [], _, _, _, h => ⟨h, trivial⟩
  | _ :: _, _ :: _, _, _, h, h' => ⟨h.1, F2.snoc h.2 h'⟩
  | [], _ :: _, _, _, h, _ => h.elim
  | _ :: _, [], _, _, h, _ => h.elim
theorem F2.all {α β : Type} {P : α → β → Prop} {R : β → Prop} (hP : ∀ a b, P a b → R b) : ∀ {as : List α} {bs : List β}, F2 P as bs → ∀ b ∈ bs, R b
  | [], [], _, b, hb => by simp at hb
  | a :: as, c :: bs, h, b, hb => by
    rcases List.mem_cons.mp hb with rfl | hb
    · exact hP _ _ h.1
    · exact F2.all hP h.2 b hb
  | [], _ :: _, h, _, _ => h.elim
  | _ :: _, [], h, _, _ => h.elim
theorem dLcc_n {α β : Type} {mi : DA} {g : DG} {me : DE} {vs : List Nat} {σd : DSt} {Q : List D → Prop} (xs : List α) (enc : α → D) (out : β → D) (P : α → β → Prop) (hi : ∀ R : List D → Prop, R (xs.map enc) → mi σd R) (hl : xs.length ≤ 1000000)
    (h : ∀ x ∈ xs, ∀ Q : D → Prop, (∀ b, P x b → Q (out b)) → g (enc x) (dwipe (clean σd) vs) fun σ2 => me σ2 Q) (hq : ∀ bs : List β, F2 P xs bs → Q (bs.map out)) : dLcc mi g dYes me vs σd Q := by
  refine hi _ ⟨by rwa [List.length_map], fun i acc => ∃ bs : List β, acc = bs.map out ∧ F2 P (xs.take i) bs, ⟨[], by simp, by simp [F2]⟩, fun i y acc hy _ w => ?_, fun acc w => ?_⟩
  · rw [List.getElem?_map] at hy
    obtain ⟨x, hx, rfl⟩ := Option.map_eq_some_iff.mp hy
    obtain ⟨bs, rfl, f⟩ := w
    have e : xs.take (i + 1) = xs.take i ++ [x] := by rw [List.take_add_one, hx]; rfl
    refine h x (List.mem_of_getElem? hx) _ fun b hb => ?_
    show ∃ bs' : List β, bs.map out ++ [out b] = bs'.map out ∧ F2 P (xs.take (i + 1)) bs'
    exact ⟨bs ++ [b], by simp, by rw [e]; exact f.snoc hb⟩
  · obtain ⟨bs, rfl, f⟩ := w
    rw [List.length_map, List.take_length] at f
    exact hq bs f
theorem lay_map {α : Type} (f : α → D) {n : Nat} (h : ∀ x, (f x).canLay0 = true ∧ (f x).depth ≤ n) : ∀ xs : List α, PyData.canLayAll0 (xs.map f) = true ∧ PyData.depthAll (xs.map f) ≤ n
  | [] => ⟨by simp [PyData.canLayAll0], by simp [PyData.depthAll]⟩
  | x :: xs => by
    obtain ⟨h1, h2⟩ := lay_map f h xs
    obtain ⟨h3, h4⟩ := h x
    exact ⟨by simp [PyData.canLayAll0, h1, h3], by simp only [List.map_cons, PyData.depthAll]; omega⟩
end PH
namespace PH
theorem F2.len {α β : Type} {P : α → β → Prop} : ∀ {as : List α} {bs : List β}, F2 P as bs → as.length = bs.length
  | [], [], _ => rfl
  | _ :: _, _ :: _, h => by simp [F2.len h.2]
  | [], _ :: _, h => h.elim
  | _ :: _, [], h => h.elim
end PH
namespace PH
theorem dLcc_x {ι : Type} {mi : DA} {g : DG} {mt : DT} {me : DE} {vs : List Nat} {σd : DSt} {Q : List D → Prop} (P : ι → Prop) (ys : ι → List D) (hi : ∀ R : List D → Prop, (∀ i, P i → R (ys i)) → mi σd R)
    (h : ∀ i, P i → dLcc (fun _ R => R (ys i)) g mt me vs σd Q) : dLcc mi g mt me vs σd Q := hi _ h
end PH
namespace PH
open PySem PySem.Spec L2
theorem dFor_n {mi : DA} {g : DG} {mb rest : DS} {Dd : DEnds} {σd : DSt} (n : Nat) (W : Nat → DSt → Prop) (hi : ∀ R : List D → Prop, (∀ ys : List D, ys.length ≤ n → R ys) → mi σd R) (h0 : W 0 σd)
    (ht : ∀ i y, i < n → ∀ σ', W i σ' → g y σ' fun σ2 => mb { Dd with nx := W (i + 1), ct := W (i + 1), bk := rest Dd } σ2) (hr : ∀ i, i ≤ n → ∀ σ', W i σ' → rest Dd σ') : dSeq (dFor mi g mb) rest Dd σd :=
  hi _ fun ys hl => ⟨W, h0, fun i y σ' e w => ht i y (Nat.lt_of_lt_of_le (List.getElem?_eq_some_iff.mp e).1 hl) σ' w, hr _ hl⟩
end PH

namespace PH
open PySem PySem.Spec L2
end PH
namespace PH
open PySem PySem.Spec L2
theorem notN_no {Q : D → Prop} : dIsN true .none .none Q = Q (.bool false) := rfl
theorem notN_t {xs : List D} {Q : D → Prop} : dIsN true (.tuple xs) .none Q = Q (.bool true) := rfl
theorem isN_no {Q : D → Prop} : dIsN false .none .none Q = Q (.bool true) := rfl
end PH

namespace PH
theorem sgn_nn {D P Q s u v : Int} (hs : 0 < s) (hu : 0 < u) (hv : 0 < v) (e : D * s = P * u + Q * v) (h1 : 0 ≤ P) (h2 : 0 ≤ Q) : 0 ≤ D := by
  refine Int.le_of_mul_le_mul_right (a := s) ?_ hs
  rw [e, Int.zero_mul]
  have := Int.mul_nonneg h1 (show 0 ≤ u by omega); have := Int.mul_nonneg h2 (show 0 ≤ v by omega); omega
theorem sgn_np {D P Q s u v : Int} (hs : 0 < s) (hu : 0 < u) (hv : 0 < v) (e : D * s = P * u + Q * v) (h1 : P ≤ 0) (h2 : Q ≤ 0) : D ≤ 0 := by
  have := sgn_nn (D := -D) (P := -P) (Q := -Q) hs hu hv (by rw [Int.neg_mul, Int.neg_mul, Int.neg_mul]; omega) (by omega) (by omega)
  omega
section
variable {α : Type}
structure Ori (R : α → α → Prop) (o : α → α → α → Int) : Prop where
  cyc : ∀ a b c, o b c a = o a b c
  anti : ∀ a b c, o b a c = -o a b c
  tr : ∀ {a b c}, R a b → R b c → R a c
  ir : ∀ a, ¬ R a a
  tot : ∀ a b, R a b ∨ a = b ∨ R b a
  four : ∀ {a b c d}, R a b → R b c → R c d → ∃ ab ac ad bc bd cd : Int, 0 < ab ∧ 0 < ac ∧ 0 < ad ∧ 0 < bc ∧ 0 < bd ∧ 0 < cd ∧
    o a b d * ac = o a c d * ab + o a b c * ad ∧ o a c d * bd = o b c d * ad + o a b d * cd ∧ o a b d * bc = o b c d * ab + o a b c * bd ∧ o a c d * bc = o b c d * ac + o a b c * cd
namespace Ori
variable {R : α → α → Prop} {o : α → α → α → Int} (O : Ori R o)
include O
theorem z1 (a b : α) : o a a b = 0 := by have := O.anti a a b; omega
theorem z2 (a b : α) : o a b b = 0 := by rw [← O.cyc]; exact O.z1 b a
theorem z3 (a b : α) : o a b a = 0 := (O.cyc a a b).trans (O.z1 a b)
theorem sw (a b c : α) : o a c b = -o a b c := by have h1 := O.cyc a c b; have h2 := O.anti b c a; have h3 := O.cyc a b c; omega
end Ori
variable (o : α → α → α → Int)
def push (p : α) : List α → List α
  | b :: a :: r => if o a b p < 1 then push p (a :: r) else p :: b :: a :: r
  | st => p :: st
def sidesR : List α → List (α × α)
  | b :: a :: r => (a, b) :: sidesR (a :: r)
  | _ => []
variable {o}
theorem sidesR_mem {R : α → α → Prop} : ∀ {st : List α}, st.Pairwise (fun x y => R y x) → ∀ {u v : α}, (u, v) ∈ sidesR st → u ∈ st ∧ v ∈ st ∧ R u v ∧ (v = st.head? ∨ ∃ b, st.head? = some b ∧ R v b)
  | [], _, u, v, h => by simp [sidesR] at h
  | [_], _, u, v, h => by simp [sidesR] at h
  | b :: a :: r, hp, u, v, h => by
    rw [List.pairwise_cons] at hp
    simp only [sidesR, List.mem_cons, Prod.mk.injEq] at h
    rcases h with ⟨rfl, rfl⟩ | h
    · exact ⟨by simp, by simp, hp.1 _ (by simp), .inl rfl⟩
    · obtain ⟨h1, h2, h3, _⟩ := sidesR_mem hp.2 h
      exact ⟨List.mem_cons_of_mem _ h1, List.mem_cons_of_mem _ h2, h3, .inr ⟨b, rfl, hp.1 _ h2⟩⟩
structure Chn (R : α → α → Prop) (o : α → α → α → Int) (S : α → Prop) (st : List α) : Prop where
  mem : ∀ x ∈ st, S x
  des : st.Pairwise fun x y => R y x
  low : ∀ q, S q → ∃ m, st.getLast? = some m ∧ (q = m ∨ R m q)
  left : ∀ u v, (u, v) ∈ sidesR st → ∀ q, S q → 0 ≤ o u v q
  conv : ∀ c b a, [c, b, a] <:+: st → 0 < o a b c
theorem Chn.tail {R : α → α → Prop} {S : α → Prop} {b a : α} {r : List α} (C : Chn R o S (b :: a :: r)) : Chn R o S (a :: r) :=
  ⟨fun x hx => C.mem x (List.mem_cons_of_mem _ hx), (List.pairwise_cons.mp C.des).2, fun q hq => by
    obtain ⟨m, h1, h2⟩ := C.low q hq
    rw [List.getLast?_cons_cons] at h1
    exact ⟨m, h1, h2⟩, fun u v h q hq => C.left u v (by simp only [sidesR]; exact List.mem_cons_of_mem _ h) q hq, fun c b' a' h => C.conv c b' a' (h.trans (List.infix_cons (List.infix_refl _)))⟩
theorem push_ok {R : α → α → Prop} (O : Ori R o) {S : α → Prop} {p : α} (hp : ∀ q, S q → R q p) : ∀ {st : List α}, st ≠ [] → Chn R o S st → (∀ b, st.head? = some b → ∀ q, S q → R b q → 0 ≤ o b p q) →
    Chn R o (fun q => S q ∨ q = p) (push o p st) ∧ (push o p st).head? = some p
  | [], n, _, _ => absurd rfl n
  | [b], _, C, K => by
    have hb := C.mem b (by simp)
    refine ⟨⟨fun x hx => ?_, ?_, fun q hq => ?_, fun u v h q hq => ?_, fun c b' a' h => ?_⟩, rfl⟩
    · simp only [push, List.mem_cons, List.not_mem_nil, or_false] at hx
      rcases hx with rfl | rfl
      · exact .inr rfl
      · exact .inl hb
    · simp only [push, List.pairwise_cons, List.mem_cons, List.not_mem_nil, or_false, forall_eq, false_implies, implies_true, List.Pairwise.nil, and_true]
      exact hp b hb
    · refine ⟨b, rfl, ?_⟩
      rcases hq with hq | rfl
      · obtain ⟨m, h1, h2⟩ := C.low q hq
        simp at h1; subst h1; exact h2
      · exact .inr (hp b hb)
    · simp only [push, sidesR, List.mem_cons, Prod.mk.injEq, List.not_mem_nil, or_false] at h
      obtain ⟨rfl, rfl⟩ := h
      rcases hq with hq | rfl
      · obtain ⟨m, h1, h2⟩ := C.low q hq
        simp at h1; subst h1
        rcases h2 with rfl | h2
        · rw [O.z3]; exact Int.le_refl _
        · exact K _ rfl q hq h2
      · rw [O.z2]; exact Int.le_refl _
    · exact absurd h.length_le (by simp [push])
  | b :: a :: r, _, C, K => by
    have hb := C.mem b (by simp)
    have ha := C.mem a (by simp)
    have dd := List.pairwise_cons.mp C.des
    have ab : R a b := dd.1 a (by simp)
    have bp := hp b hb
    have ap := hp a ha
    have eL : ∀ q, S q → 0 ≤ o a b q := C.left a b (by simp [sidesR])
    simp only [push]
    by_cases z : o a b p < 1
    · rw [if_pos z]
      refine push_ok O hp (by simp) C.tail fun a' ha' q hq haq => ?_
      simp at ha'; subst ha'
      have nq := hp q hq
      rw [O.sw]
      suffices o a q p ≤ 0 by omega
      rcases O.tot q b with qb | rfl | bq
      · obtain ⟨s1, s2, s3, s4, s5, s6, p1, p2, p3, p4, p5, p6, i1, i2, i3, i4⟩ := O.four haq qb bp
        have := eL q hq
        have w : o a q b ≤ 0 := by rw [O.sw]; omega
        exact sgn_np p2 p1 p3 i1 (by omega) w
      · omega
      · obtain ⟨s1, s2, s3, s4, s5, s6, p1, p2, p3, p4, p5, p6, i1, i2, i3, i4⟩ := O.four ab bq nq
        have := K b rfl q hq bq
        have w : o b q p ≤ 0 := by rw [O.sw]; omega
        exact sgn_np p5 p3 p6 i2 w (by omega)
    · rw [if_neg z]
      have zp : 0 < o a b p := by omega
      -- the new side
      have new : ∀ q, S q → 0 ≤ o b p q := fun q hq => by
        rcases O.tot q b with qb | rfl | bq
        · rw [O.cyc q b p]
          rcases O.tot q a with qa | rfl | aq
          · obtain ⟨s1, s2, s3, s4, s5, s6, p1, p2, p3, p4, p5, p6, i1, i2, i3, i4⟩ := O.four qa ab bp
            have := eL q hq
            rw [O.cyc q a b] at this
            exact sgn_nn p4 p2 p6 i4 (by omega) this
          · omega
          · obtain ⟨s1, s2, s3, s4, s5, s6, p1, p2, p3, p4, p5, p6, i1, i2, i3, i4⟩ := O.four aq qb bp
            have := eL q hq
            have w := O.sw a b q
            refine sgn_nn (P := o a b p) (Q := -o a q b) p2 p4 p6 ?_ (by omega) (by omega)
            rw [Int.neg_mul]; omega
        · rw [O.z3]; exact Int.le_refl _
        · exact K b rfl q hq bq
      refine ⟨⟨fun x hx => ?_, ?_, fun q hq => ?_, fun u v h q hq => ?_, fun c b' a' h => ?_⟩, rfl⟩
      · rcases List.mem_cons.mp hx with rfl | hx
        · exact .inr rfl
        · exact .inl (C.mem x hx)
      · rw [List.pairwise_cons]
        exact ⟨fun x hx => hp x (C.mem x hx), C.des⟩
      · rw [List.getLast?_cons_cons]
        rcases hq with hq | rfl
        · exact C.low q hq
        · obtain ⟨m, h1, h2⟩ := C.low b hb
          refine ⟨m, h1, .inr ?_⟩
          rcases h2 with rfl | h2
          · exact bp
          · exact O.tr h2 bp
      · simp only [sidesR, List.mem_cons, Prod.mk.injEq] at h
        rcases h with ⟨rfl, rfl⟩ | h
        · rcases hq with hq | rfl
          · exact new q hq
          · rw [O.z2]; exact Int.le_refl _
        · have h' : (u, v) ∈ sidesR (b :: a :: r) := by simp only [sidesR, List.mem_cons, Prod.mk.injEq]; exact h
          rcases hq with hq | rfl
          · exact C.left u v h' q hq
          · rcases h with ⟨rfl, rfl⟩ | h
            · omega
            · obtain ⟨m1, m2, uv, _⟩ := sidesR_mem dd.2 h
              have vb := dd.1 v m2
              have sv := C.mem v (List.mem_cons_of_mem _ m2)
              obtain ⟨s1, s2, s3, s4, s5, s6, p1, p2, p3, p4, p5, p6, i1, i2, i3, i4⟩ := O.four uv vb bp
              have n1 := new v sv
              rw [O.cyc v b q] at n1
              exact sgn_nn p4 p1 p5 i3 n1 (C.left u v h' b hb)
      · rcases List.infix_cons_iff.mp h with h | h
        · simp only [List.cons_prefix_cons] at h
          obtain ⟨rfl, rfl, rfl, _⟩ := h
          exact zp
        · exact C.conv c b' a' h
def chainR (o : α → α → α → Int) (ps : List α) : List α := ps.foldl (fun st p => push o p st) []
theorem chain_step (ps : List α) (p : α) : chainR o (ps ++ [p]) = push o p (chainR o ps) := by unfold chainR; rw [List.foldl_append]; rfl
theorem chain_ok {R : α → α → Prop} (O : Ori R o) : ∀ (ps : List α), ps ≠ [] → ps.Pairwise R → Chn R o (· ∈ ps) (chainR o ps) ∧ (chainR o ps).head? = ps.getLast? ∧ (chainR o ps).getLast? = ps.head? := by
  intro ps
  generalize hn : ps.length = n
  induction n generalizing ps with
  | zero => intro n; rw [List.length_eq_zero_iff] at hn; exact absurd hn n
  | succ n ih =>
    intro ne hp
    obtain ⟨qs, p, rfl⟩ : ∃ qs p, ps = qs ++ [p] := ⟨ps.dropLast, ps.getLast ne, (List.dropLast_concat_getLast ne).symm⟩
    rw [chain_step]
    rw [List.pairwise_append] at hp
    cases qs with
    | nil =>
      show Chn R o _ [p] ∧ _
      refine ⟨⟨fun x hx => by simpa using hx, by simp, fun q hq => ⟨p, rfl, .inl (by simpa using hq)⟩, fun u v h => by simp [sidesR] at h, fun c b a h => absurd h.length_le (by simp)⟩, rfl, rfl⟩
    | cons q0 qs =>
      obtain ⟨C, h1, h2⟩ := ih (q0 :: qs) (by simp at hn ⊢; omega) (by simp) hp.1
      have hq : ∀ q, q ∈ q0 :: qs → R q p := fun q hq => hp.2.2 q hq p (by simp)
      have stne : chainR o (q0 :: qs) ≠ [] := fun z => by rw [z] at h2; simp at h2
      have top : ∀ b, (chainR o (q0 :: qs)).head? = some b → ∀ q, q ∈ q0 :: qs → R b q → 0 ≤ o b p q := fun b hb q hq bq => by
        exfalso
        rw [h1] at hb
        have e := List.getLast?_eq_some_iff.mp hb
        obtain ⟨ys, e⟩ := e
        have pw := hp.1
        rw [e, List.pairwise_append] at pw
        rw [e] at hq
        rcases List.mem_append.mp hq with y | y
        · exact O.ir b (O.tr bq (pw.2.2 q y b (by simp)))
        · simp at y; subst y; exact O.ir _ bq
      obtain ⟨C', h3⟩ := push_ok O hq stne C top
      refine ⟨⟨fun x hx => ?_, C'.des, fun q hq => ?_, fun u v h q hq => ?_, C'.conv⟩, ?_, ?_⟩
      · rcases C'.mem x hx with y | y
        · exact List.mem_append.mpr (.inl y)
        · exact List.mem_append.mpr (.inr (by simp [y]))
      · refine C'.low q ?_
        rcases List.mem_append.mp hq with y | y
        · exact .inl y
        · exact .inr (by simpa using y)
      · refine C'.left u v h q ?_
        rcases List.mem_append.mp hq with y | y
        · exact .inl y
        · exact .inr (by simpa using y)
      · rw [h3, List.getLast?_append]; rfl
      · obtain ⟨m, e1, e2⟩ := C'.low q0 (.inl (by simp))
        rw [e1]
        have hm : m ∈ push o p (chainR o (q0 :: qs)) := List.mem_of_getLast? e1
        rcases e2 with rfl | e2
        · simp
        · exfalso
          rcases C'.mem m hm with y | rfl
          · rcases List.mem_cons.mp y with rfl | y
            · exact O.ir _ e2
            · exact O.ir _ (O.tr e2 ((List.pairwise_cons.mp hp.1).1 m y))
          · exact O.ir _ (O.tr e2 (hq q0 (by simp)))
end
end PH

namespace PH
open PySem PySem.Spec L2
section
variable {α : Type}
def nx (xs : List α) : List (α × α) := xs.zip (xs.drop 1)
theorem nx_cons (x y : α) (xs : List α) : nx (x :: y :: xs) = (x, y) :: nx (y :: xs) := rfl
theorem nx_app : ∀ (xs : List α) (l : α) (zs : List α), nx (xs ++ l :: zs) = nx (xs ++ [l]) ++ nx (l :: zs)
  | [], l, zs => by simp [nx]
  | [x], l, zs => by simp [nx]
  | x :: y :: xs, l, zs => by
    have := nx_app (y :: xs) l zs
    simp only [List.cons_append] at this ⊢
    rw [nx_cons, nx_cons, this]; rfl
theorem nx_rev {o : α → α → α → Int} : ∀ (st : List α) (u v : α), (u, v) ∈ nx st.reverse ↔ (u, v) ∈ sidesR st
  | [], u, v => by simp [nx, sidesR]
  | [x], u, v => by simp [nx, sidesR]
  | b :: a :: r, u, v => by
    have ih := nx_rev (o := o) (a :: r) u v
    rw [List.reverse_cons, List.reverse_cons, List.append_assoc]
    show (u, v) ∈ nx (r.reverse ++ a :: [b]) ↔ _
    rw [nx_app, List.mem_append]
    rw [List.reverse_cons] at ih
    rw [ih]
    simp only [sidesR, List.mem_cons]
    simp only [nx, List.drop_succ_cons, List.drop_zero, List.zip_cons_cons, List.zip_nil_right, List.mem_cons, List.not_mem_nil, or_false]
    exact or_comm
theorem Ori.flip {R : α → α → Prop} {o : α → α → α → Int} (O : Ori R o) : Ori (fun a b => R b a) o where
  cyc := O.cyc
  anti := O.anti
  tr h1 h2 := O.tr h2 h1
  ir := O.ir
  tot a b := by rcases O.tot a b with h | h | h; exact .inr (.inr h); exact .inr (.inl h); exact .inl h
  four := by
    intro a b c d h1 h2 h3
    have r : ∀ a b c, o c b a = -o a b c := fun a b c => by have h1 := O.anti b c a; have h2 := O.cyc a b c; omega
    obtain ⟨ab, ac, ad, bc, bd, cd, p1, p2, p3, p4, p5, p6, i1, i2, i3, i4⟩ := O.four h3 h2 h1
    refine ⟨cd, bd, ad, bc, ac, ab, p6, p5, p3, p4, p2, p1, ?_, ?_, ?_, ?_⟩
    · rw [r a b d, r a b c, r a c d] at i2
      simp only [Int.neg_mul] at i2; omega
    · rw [r a c d, r a b d, r b c d] at i1
      simp only [Int.neg_mul] at i1; omega
    · rw [r a b d, r a b c, r b c d] at i4
      simp only [Int.neg_mul] at i4; omega
    · rw [r a c d, r a b c, r b c d] at i3
      simp only [Int.neg_mul] at i3; omega
def chainL (o : α → α → α → Int) (ps : List α) : List α := (chainR o ps).reverse
def hullL (o : α → α → α → Int) (ps : List α) : List α := (chainL o ps).dropLast ++ (chainL o ps.reverse).dropLast
structure Hull (R : α → α → Prop) (o : α → α → α → Int) (S : List α) (H : List α) : Prop where
  mem : ∀ x ∈ H, x ∈ S
  left : ∀ m, H.head? = some m → ∀ u v, (u, v) ∈ nx (H ++ [m]) → ∀ q ∈ S, 0 ≤ o u v q
  two : ∀ a b, H = [a, b] → R a b ∧ ∀ q ∈ S, (q = a ∨ R a q) ∧ (q = b ∨ R q b)
  len : 2 ≤ H.length
theorem hull_ok {R : α → α → Prop} {o : α → α → α → Int} (O : Ori R o) {ps : List α} (hl : 2 ≤ ps.length) (hp : ps.Pairwise R) : Hull R o ps (hullL o ps) := by
  have ne : ps ≠ [] := fun z => by rw [z] at hl; simp at hl
  have ne' : ps.reverse ≠ [] := fun z => ne (List.reverse_eq_nil_iff.mp z)
  obtain ⟨C, h1, h2⟩ := chain_ok O ps ne hp
  obtain ⟨C', h1', h2'⟩ := chain_ok O.flip ps.reverse ne' (List.pairwise_reverse.mpr hp)
  obtain ⟨m, hm⟩ : ∃ m, ps.head? = some m := by cases ps with | nil => exact absurd rfl ne | cons a b => exact ⟨a, rfl⟩
  obtain ⟨M, hM⟩ : ∃ m, ps.getLast? = some m := ⟨_, List.getLast?_eq_getLast ne⟩
  rw [List.getLast?_reverse, hm] at h1'
  rw [List.head?_reverse, hM] at h2'
  rw [hM] at h1; rw [hm] at h2
  have Lh : (chainL o ps).head? = some m := by unfold chainL; rw [List.head?_reverse]; exact h2
  have Ll : (chainL o ps).getLast? = some M := by unfold chainL; rw [List.getLast?_reverse]; exact h1
  have Uh : (chainL o ps.reverse).head? = some M := by unfold chainL; rw [List.head?_reverse]; exact h2'
  have Ul : (chainL o ps.reverse).getLast? = some m := by unfold chainL; rw [List.getLast?_reverse]; exact h1'
  have mM : R m M := by
    cases ps with
    | nil => exact absurd rfl ne
    | cons a b =>
      simp at hm; subst hm
      cases b with
      | nil => simp at hl
      | cons b c =>
        rw [List.getLast?_cons_cons] at hM
        exact (List.pairwise_cons.mp hp).1 M (List.mem_of_getLast? hM)
  have nmM : m ≠ M := fun z => O.ir M (z ▸ mM)
  have mn : ∀ q ∈ ps, q = m ∨ R m q := fun q hq => by
    obtain ⟨m', e, h⟩ := C.low q hq
    rw [h2] at e; cases e; exact h
  have mx : ∀ q ∈ ps, q = M ∨ R q M := fun q hq => by
    obtain ⟨m', e, h⟩ := C'.low q (List.mem_reverse.mpr hq)
    rw [h2'] at e; cases e; exact h
  obtain ⟨L, hL⟩ := List.getLast?_eq_some_iff.mp Ll
  obtain ⟨U, hU⟩ := List.getLast?_eq_some_iff.mp Ul
  have eH : hullL o ps = L ++ U := by unfold hullL; rw [hL, hU, List.dropLast_concat, List.dropLast_concat]
  -- the first ones
  obtain ⟨L', rfl⟩ : ∃ L', L = m :: L' := by
    cases L with
    | nil => rw [hL] at Lh; simp at Lh; exact absurd Lh.symm nmM
    | cons a b => rw [hL] at Lh; simp at Lh; exact ⟨b, by rw [Lh]⟩
  obtain ⟨U', rfl⟩ : ∃ U', U = M :: U' := by
    cases U with
    | nil => rw [hU] at Uh; simp at Uh; exact absurd Uh nmM
    | cons a b => rw [hU] at Uh; simp at Uh; exact ⟨b, by rw [Uh]⟩
  rw [eH]
  refine ⟨fun x hx => ?_, fun m' hm' u v h q hq => ?_, fun a b e => ?_, by simp; omega⟩
  · rcases List.mem_append.mp hx with y | y
    · refine C.mem x (List.mem_reverse.mp ?_)
      show x ∈ chainL o ps
      rw [hL]; exact List.mem_append.mpr (.inl y)
    · refine List.mem_reverse.mp (C'.mem x (List.mem_reverse.mp ?_))
      show x ∈ chainL o ps.reverse
      rw [hU]; exact List.mem_append.mpr (.inl y)
  · simp at hm'; subst hm'
    have e : (m :: L') ++ (M :: U') ++ [m] = (m :: L') ++ M :: (U' ++ [m]) := by simp
    rw [e, nx_app, List.mem_append] at h
    rcases h with h | h
    · refine C.left u v ((nx_rev (o := o) _ u v).mp ?_) q hq
      show (u, v) ∈ nx (chainL o ps)
      rw [hL]; exact h
    · refine C'.left u v ((nx_rev (o := o) _ u v).mp ?_) q (List.mem_reverse.mpr hq)
      show (u, v) ∈ nx (chainL o ps.reverse)
      rw [hU]; exact h
  · have : L'.length + U'.length = 0 := by
      have := congrArg List.length e
      simp at this; omega
    have l0 : L' = [] := List.length_eq_zero_iff.mp (by omega)
    have u0 : U' = [] := List.length_eq_zero_iff.mp (by omega)
    subst l0; subst u0
    simp at e
    obtain ⟨rfl, rfl⟩ := e
    exact ⟨mM, fun q hq => ⟨mn q hq, mx q hq⟩⟩
end
structure Pt where
  x : Int
  y : Int
  d : Int
  pos : 0 < d
  cop : g3 x y d = 1
deriving DecidableEq
theorem Pt.ext' {p q : Pt} (h1 : p.x = q.x) (h2 : p.y = q.y) (h3 : p.d = q.d) : p = q := by
  cases p; cases q; simp at h1 h2 h3; subst h1; subst h2; subst h3; rfl
namespace Pt
def lt (p q : Pt) : Bool := lessP p.x p.y p.d q.x q.y q.d
def o (p q r : Pt) : Int := detP p.x p.y p.d q.x q.y q.d r.x r.y r.d
def sx (p q : Pt) : Int := q.x * p.d - p.x * q.d
def sy (p q : Pt) : Int := q.y * p.d - p.y * q.d
theorem lt_iff (p q : Pt) : lt p q = true ↔ 0 < sx p q ∨ (sx p q = 0 ∧ 0 < sy p q) := by
  unfold lt lessP sx sy
  rw [decide_eq_true_iff]
  constructor <;> rintro (h | h) <;> omega
theorem cop_of {p q : Pt} (h1 : sx p q = 0) (h2 : sy p q = 0) : p = q := by
  unfold sx sy at *
  obtain ⟨e1, e2, e3⟩ := place_uniq p.pos q.pos p.cop q.cop (show p.x * q.d = q.x * p.d by omega) (show p.y * q.d = q.y * p.d by omega)
  exact Pt.ext' e1 e2 e3
theorem sx_tr (a b c : Pt) : sx a c * b.d = sx a b * c.d + sx b c * a.d := by unfold sx; grind
theorem sy_tr (a b c : Pt) : sy a c * b.d = sy a b * c.d + sy b c * a.d := by unfold sy; grind
theorem x1 (a b c d : Pt) : o a b d * sx a c = o a c d * sx a b + o a b c * sx a d := by unfold o detP sx; grind
theorem x2 (a b c d : Pt) : o a c d * sx b d = o b c d * sx a d + o a b d * sx c d := by unfold o detP sx; grind
theorem x3 (a b c d : Pt) : o a b d * sx b c = o b c d * sx a b + o a b c * sx b d := by unfold o detP sx; grind
theorem x4 (a b c d : Pt) : o a c d * sx b c = o b c d * sx a c + o a b c * sx c d := by unfold o detP sx; grind
theorem y1 (a b c d : Pt) : o a b d * sy a c = o a c d * sy a b + o a b c * sy a d := by unfold o detP sy; grind
theorem y2 (a b c d : Pt) : o a c d * sy b d = o b c d * sy a d + o a b d * sy c d := by unfold o detP sy; grind
theorem y3 (a b c d : Pt) : o a b d * sy b c = o b c d * sy a b + o a b c * sy b d := by unfold o detP sy; grind
theorem y4 (a b c d : Pt) : o a c d * sy b c = o b c d * sy a c + o a b c * sy c d := by unfold o detP sy; grind
end Pt
end PH

namespace PH
open PySem PySem.Spec L2
namespace Pt
theorem shear {N X Y : Int} (hN : Y.natAbs < N) (h : 0 < X ∨ (X = 0 ∧ 0 < Y)) : 0 < N * X + Y := by
  rcases h with h | ⟨h, h'⟩
  · have : N * 1 ≤ N * X := Int.mul_le_mul_of_nonneg_left (by omega) (by omega)
    omega
  · rw [h, Int.mul_zero]; omega
theorem comb {D P Q N X Y X1 Y1 X2 Y2 : Int} (e1 : D * X = P * X1 + Q * X2) (e2 : D * Y = P * Y1 + Q * Y2) : D * (N * X + Y) = P * (N * X1 + Y1) + Q * (N * X2 + Y2) := by
  have a1 : D * (N * X + Y) = N * (D * X) + D * Y := by grind
  have a2 : P * (N * X1 + Y1) + Q * (N * X2 + Y2) = N * (P * X1 + Q * X2) + (P * Y1 + Q * Y2) := by grind
  rw [a1, a2, e1, e2]
theorem mul_pos' {a b : Int} (hb : 0 < b) : 0 < a * b ↔ 0 < a := by
  constructor
  · intro h
    exact Int.lt_of_mul_lt_mul_right (a := b) (by omega) (by omega)
  · exact fun h => Int.mul_pos h hb
theorem tr' {a b c : Pt} (h1 : lt a b = true) (h2 : lt b c = true) : lt a c = true := by
  rw [lt_iff] at *
  have ex := sx_tr a b c
  have ey := sy_tr a b c
  have pa := a.pos; have pb := b.pos; have pc := c.pos
  rcases h1 with h1 | ⟨h1, h1'⟩
  · left
    rw [← mul_pos' pb, ex]
    have := Int.mul_pos h1 pc
    rcases h2 with h2 | ⟨h2, _⟩
    · have := Int.mul_pos h2 pa; omega
    · rw [h2, Int.zero_mul]; omega
  · rcases h2 with h2 | ⟨h2, h2'⟩
    · left
      rw [← mul_pos' pb, ex, h1, Int.zero_mul]
      have := Int.mul_pos h2 pa; omega
    · right
      constructor
      · rw [h1, h2, Int.zero_mul, Int.zero_mul] at ex
        rcases Int.mul_eq_zero.mp ex with z | z
        · exact z
        · omega
      · rw [← mul_pos' pb, ey]
        have := Int.mul_pos h1' pc; have := Int.mul_pos h2' pa; omega
theorem sx_neg (a b : Pt) : sx b a = -sx a b := by unfold sx; omega
theorem sy_neg (a b : Pt) : sy b a = -sy a b := by unfold sy; omega
theorem ori : Ori (fun p q : Pt => lt p q = true) o where
  cyc a b c := det_cyc a.x a.y a.d b.x b.y b.d c.x c.y c.d
  anti a b c := det_swap a.x a.y a.d b.x b.y b.d c.x c.y c.d
  tr := tr'
  ir a := by rw [lt_iff]; unfold sx sy; omega
  tot a b := by
    have n1 := sx_neg a b
    have n2 := sy_neg a b
    by_cases h1 : sx a b = 0
    · by_cases h2 : sy a b = 0
      · exact .inr (.inl (cop_of h1 h2))
      · by_cases h3 : 0 < sy a b
        · exact .inl ((lt_iff a b).mpr (.inr ⟨h1, h3⟩))
        · exact .inr (.inr ((lt_iff b a).mpr (.inr ⟨by omega, by omega⟩)))
    · by_cases h3 : 0 < sx a b
      · exact .inl ((lt_iff a b).mpr (.inl h3))
      · exact .inr (.inr ((lt_iff b a).mpr (.inl (by omega))))
  four := by
    intro a b c d h1 h2 h3
    have ac := tr' h1 h2
    have bd := tr' h2 h3
    have ad := tr' ac h3
    rw [lt_iff] at h1 h2 h3 ac bd ad
    obtain ⟨N, hN⟩ : ∃ N : Int, N = 1 + (sy a b).natAbs + (sy a c).natAbs + (sy a d).natAbs + (sy b c).natAbs + (sy b d).natAbs + (sy c d).natAbs := ⟨_, rfl⟩
    exact ⟨N * sx a b + sy a b, N * sx a c + sy a c, N * sx a d + sy a d, N * sx b c + sy b c, N * sx b d + sy b d, N * sx c d + sy c d, shear (by omega) h1, shear (by omega) ac, shear (by omega) ad, shear (by omega) h2, shear (by omega) bd, shear (by omega) h3,
      comb (x1 a b c d) (y1 a b c d), comb (x2 a b c d) (y2 a b c d), comb (x3 a b c d) (y3 a b c d), comb (x4 a b c d) (y4 a b c d)⟩
end Pt
end PH

namespace PH
open PySem PySem.Spec L2
abbrev pD (p : Pt) : D := pl p.x p.y p.d
def PB (k : Nat) (p : Pt) : Prop := Bd k p.x ∧ Bd k p.y ∧ Bd k p.d
theorem PB.mono {j k : Nat} {p : Pt} (h : PB j p) (l : j ≤ k) : PB k p := ⟨h.1.mono l, h.2.1.mono l, h.2.2.mono l⟩
def PBd (j k : Nat) (p : Pt) : Prop := Bd j p.x ∧ Bd j p.y ∧ Bd k p.d
theorem PBd.pb {j k : Nat} {p : Pt} (h : PBd j k p) (l : k ≤ j) : PB j p := ⟨h.1, h.2.1, h.2.2.mono l⟩
theorem PBd.mono {j k j' k' : Nat} {p : Pt} (h : PBd j k p) (l : j ≤ j') (l' : k ≤ k') : PBd j' k' p := ⟨h.1.mono l, h.2.1.mono l, h.2.2.mono l'⟩
theorem eqv_pD (p q : Pt) : PyData.eqv (pD p) (pD q) = decide (p = q) := by
  rw [eqv_pp]
  by_cases e : p = q
  · subst e; simp
  · rw [decide_eq_false e]
    by_cases e1 : p.x = q.x
    · by_cases e2 : p.y = q.y
      · rw [decide_eq_true e1, decide_eq_true e2, decide_eq_false fun e3 => e (Pt.ext' e1 e2 e3)]; rfl
      · rw [decide_eq_true e1, decide_eq_false e2]; rfl
    · rw [decide_eq_false e1]; rfl
theorem lay_pt (p : Pt) : (pD p).canLay0 = true ∧ (pD p).depth ≤ 5 := ⟨by simp [PyData.canLay0, PyData.canLayAll0], by simp [PyData.depth, PyData.depthAll]⟩
theorem sh_pts (xs : List Pt) : SeqAt.shaped (.list (xs.map pD)) = true := by
  obtain ⟨h1, h2⟩ := lay_map pD lay_pt xs
  have e1 : (PyData.list (xs.map pD)).canLay0 = true := by simpa [PyData.canLay0] using h1
  have e2 : (PyData.list (xs.map pD)).depth ≤ 64 := by simp only [PyData.depth]; omega
  unfold SeqAt.shaped
  rw [e1, decide_eq_true e2]; rfl
theorem any_pD {xs : List Pt} {u : Pt} : ((xs.map pD).any fun z => PyData.eqv z (pD u)) = decide (u ∈ xs) := by
  induction xs with
  | nil => rfl
  | cons x xs ih =>
    rw [List.map_cons, List.any_cons, ih, eqv_pD]
    by_cases e : x = u
    · subst e; simp
    · rw [decide_eq_false e, Bool.false_or]
      by_cases h : u ∈ xs
      · rw [decide_eq_true h, decide_eq_true (List.mem_cons_of_mem _ h)]
      · rw [decide_eq_false h, decide_eq_false fun z => (List.mem_cons.mp z).elim (fun y => e y.symm) h]
theorem dIn_pD {neg : Bool} {xs : List Pt} {u : Pt} {Q : D → Prop} (h1 : u ∈ xs → Q (.bool (!neg))) (h2 : u ∉ xs → Q (.bool neg)) : dIn neg (pD u) (.list (xs.map pD)) Q := by
  refine ⟨sh_iii, sh_pts xs, ?_⟩
  rw [any_pD]
  by_cases h : u ∈ xs
  · rw [decide_eq_true h]; have := h1 h; cases neg <;> exact this
  · rw [decide_eq_false h]; have := h2 h; cases neg <;> exact this
theorem step_c {p q : Pt} {k : Nat} (hp : PB k p) (hq : PB k q) (hk : k ≤ 1000) {Q : D → Prop} (h : Q (.tuple [.int (Pt.sx p q), .int (Pt.sy p q)])) : spPl2 (fun _ _ _ _ _ _ => True) (fun a b c d e g => .tuple [.int (stepX a c d g), .int (stepX b c e g)]) [pD p, pD q] Q :=
  ⟨p.x, p.y, p.d, q.x, q.y, q.d, k, rfl, trivial, hp.1, hp.2.1, hp.2.2, hq.1, hq.2.1, hq.2.2, hk, h⟩
theorem first_c {p q : Pt} {k : Nat} (hp : PB k p) (hq : PB k q) (hk : k ≤ 1000) {Q : D → Prop} (h : Q (.bool (Pt.lt p q))) : spPl2 (fun _ _ _ _ _ _ => True) (fun a b c d e g => .bool (lessP a b c d e g)) [pD p, pD q] Q :=
  ⟨p.x, p.y, p.d, q.x, q.y, q.d, k, rfl, trivial, hp.1, hp.2.1, hp.2.2, hq.1, hq.2.1, hq.2.2, hk, h⟩
def spTurnP : DSp := fun ds Q => ∃ (p q r : Pt) (k : Nat), ds = [pD p, pD q, pD r] ∧ PB k p ∧ PB k q ∧ PB k r ∧ k ≤ 1000 ∧ Q (.int (Int.sign (Pt.o p q r)))
theorem turn_c {p q r : Pt} {k : Nat} (hp : PB k p) (hq : PB k q) (hr : PB k r) (hk : k ≤ 1000) {Q : D → Prop} (h : Q (.int (Int.sign (Pt.o p q r)))) : spTurnP [pD p, pD q, pD r] Q := ⟨p, q, r, k, rfl, hp, hq, hr, hk, h⟩
theorem turn_id (p q r : Pt) : Pt.sx p q * Pt.sy p r - Pt.sy p q * Pt.sx p r = p.d * Pt.o p q r := by unfold Pt.sx Pt.sy Pt.o detP; grind
theorem sign_turn (p q r : Pt) : Int.sign (Pt.sx p q * Pt.sy p r - Pt.sy p q * Pt.sx p r) = Int.sign (Pt.o p q r) := by
  rw [turn_id, Int.sign_mul, Int.sign_eq_one_of_pos p.pos, Int.one_mul]
def PsOk (n : Nat) (ds : List D) (ps : List Pt) : Prop := ds = [.list (ps.map pD)] ∧ (∃ k, k ≤ 1000 ∧ ∀ p ∈ ps, PB k p) ∧ ps.length ≤ n
def spPlaces : DSp := fun ds Q => ∃ ps : List Pt, PsOk 1000 ds ps ∧ Q (.list ((ordT Pt.lt ps).map pD))
def spChain : DSp := fun ds Q => ∃ ps : List Pt, PsOk 1000 ds ps ∧ Q (.list ((chainL Pt.o ps).dropLast.map pD))
def hullP (ps : List Pt) : List Pt := if (ordT Pt.lt ps).length < 2 then ordT Pt.lt ps else hullL Pt.o (ordT Pt.lt ps)
def spHull : DSp := fun ds Q => ∃ ps : List Pt, PsOk 1000 ds ps ∧ Q (.tuple ((hullP ps).map pD))
theorem Pt.ltT : ∀ x y z : Pt, lt x y = true → lt y z = true → lt x z = true := fun _ _ _ => tr'
theorem Pt.ltO (x y : Pt) (h : x ≠ y) : lt y x = !lt x y := by
  have no : ∀ a b, lt a b = true → lt b a = false := fun a b h => by
    cases e : lt b a with
    | false => rfl
    | true => exact absurd (tr' h e) (by have := ori.ir a; simpa using this)
  rcases ori.tot x y with e | e | e
  · rw [e, no _ _ e]; rfl
  · exact absurd e h
  · rw [e, no _ _ e]; rfl
theorem pord_srt (ps : List Pt) : (ordT Pt.lt ps).Pairwise (fun p q => Pt.lt p q = true) := (ord_ok Pt.ltT Pt.ltO ps).1
theorem pord_mem (ps : List Pt) (x : Pt) : x ∈ ordT Pt.lt ps ↔ x ∈ ps := (ord_ok Pt.ltT Pt.ltO ps).2.1 x
theorem pord_len (ps : List Pt) : (ordT Pt.lt ps).length ≤ ps.length := (ord_ok Pt.ltT Pt.ltO ps).2.2
theorem push_len {α : Type} (o : α → α → α → Int) (p : α) : ∀ st : List α, (push o p st).length ≤ st.length + 1
  | [] => by simp [push]
  | [b] => by simp [push]
  | b :: a :: r => by
    simp only [push]
    split
    · have := push_len o p (a :: r)
      simp only [List.length_cons] at this ⊢; omega
    · simp
theorem chain_len {α : Type} (o : α → α → α → Int) (ps : List α) : (chainR o ps).length ≤ ps.length := by
  have : ∀ (ps st : List α), (ps.foldl (fun st p => push o p st) st).length ≤ ps.length + st.length := fun ps => by
    induction ps with
    | nil => intro st; simp
    | cons p ps ih =>
      intro st
      have := push_len o p st
      have := ih (push o p st)
      simp only [List.foldl_cons, List.length_cons]; omega
  have z := this ps []
  rw [List.length_nil, Nat.add_zero] at z
  exact z
def PlateOk (H : List Pt) : Prop := (∃ a, H = [a]) ∨ ∃ S, Hull (fun p q => Pt.lt p q = true) Pt.o S H ∧ ∀ x ∈ H, x ∈ S
theorem plate_ok {ps : List Pt} (h : ps ≠ []) : PlateOk (hullP ps) ∧ (∀ x ∈ hullP ps, x ∈ ps) ∧ (hullP ps).length ≤ 2 * ps.length := by
  have m := pord_mem ps
  have l := pord_len ps
  have s := pord_srt ps
  unfold hullP
  split
  · rename_i hl
    refine ⟨.inl ?_, fun x hx => (m x).mp hx, by omega⟩
    match e : ordT Pt.lt ps with
    | [] =>
      exfalso
      obtain ⟨x, hx⟩ := List.exists_mem_of_ne_nil _ h
      have := (m x).mpr hx
      rw [e] at this; simp at this
    | [a] => exact ⟨a, rfl⟩
    | a :: b :: r => rw [e] at hl; simp at hl; omega
  · rename_i hl
    have H := hull_ok Pt.ori (by omega) s
    refine ⟨.inr ⟨_, H, H.mem⟩, fun x hx => (m x).mp (H.mem x hx), ?_⟩
    unfold hullL chainL
    rw [List.length_append, List.length_dropLast, List.length_dropLast, List.length_reverse, List.length_reverse]
    have := chain_len Pt.o (ordT Pt.lt ps)
    have := chain_len Pt.o (ordT Pt.lt ps).reverse
    rw [List.length_reverse] at this
    omega
def spPool : DSp := fun ds Q => ∃ n w : Int, ds = [SRC, .int n, .int w] ∧ 1 ≤ n ∧ n ≤ 100 ∧ 0 ≤ w ∧ w ≤ 4 ∧ ∀ ps : List Pt, ps.length = n.toNat → (∀ p ∈ ps, PBd 4 2 p) → Q (.list (ps.map pD))
def hasB (H : List Pt) (p : Pt) : Bool := match H with
  | [a] => decide (a = p)
  | [a, b] => decide (Pt.o a b p = 0) && (!Pt.lt p a && !Pt.lt b p)
  | H => (nx (H ++ H.take 1)).all fun e => decide (0 ≤ Pt.o e.1 e.2 p)
def MixOf (H : List Pt) (p : Pt) : Prop := ∀ A B C : Int, (∀ c ∈ H, 0 ≤ A * c.x + B * c.y + C * c.d) → 0 ≤ A * p.x + B * p.y + C * p.d
theorem PlateOk.ne {H : List Pt} (h : PlateOk H) : H ≠ [] := by
  rcases h with ⟨a, rfl⟩ | ⟨S, h, _⟩
  · simp
  · intro z; have := h.len; rw [z] at this; simp at this
theorem atI_m1 {α : Type} (xs : List α) (a : α) : L2.atI (xs ++ [a]) (-1) = some a := L2.atI_last xs a
theorem atI_m2 {α : Type} (xs : List α) (a b : α) : L2.atI (xs ++ [a, b]) (-2) = some a := by
  have hl : (xs ++ [a, b]).length = xs.length + 2 := by simp
  unfold L2.atI L2.ixN
  rw [hl, if_neg (by decide)]
  rw [if_pos (by omega)]
  show (xs ++ [a, b])[((-2 : Int) + ((xs.length + 2 : Nat) : Int)).toNat]? = some a
  rw [show ((-2 : Int) + ((xs.length + 2 : Nat) : Int)).toNat = xs.length by omega]
  simp
theorem cut_init {α : Type} (f : α → D) (xs : List α) : cutD (xs.map f) none (some (-1)) = xs.dropLast.map f := by
  unfold cutD
  rw [HT.sIx_none, List.drop_zero, List.length_map, Nat.sub_zero, List.dropLast_eq_take, List.map_take]
  congr 1
  show (if (-1 : Int) < 0 then ((-1 : Int) + (xs.length : Int)).toNat else min (-1 : Int).toNat xs.length) = _
  rw [if_pos (by decide)]; omega
end PH
namespace PH
theorem push_mem {α : Type} {o : α → α → α → Int} : ∀ (p : α) (st : List α) {x : α}, x ∈ push o p st → x = p ∨ x ∈ st
  | p, [], x, h => by simpa [push] using h
  | p, [b], x, h => by simpa [push] using h
  | p, b :: a :: r, x, h => by
    simp only [push] at h
    split at h
    · rcases push_mem p (a :: r) h with y | y
      · exact .inl y
      · exact .inr (List.mem_cons_of_mem _ y)
    · exact List.mem_cons.mp h
end PH
namespace PH
open PySem PySem.Spec L2
theorem nx_mem {α : Type} {xs : List α} {u v : α} (h : (u, v) ∈ nx (xs ++ xs.take 1)) : u ∈ xs ∧ v ∈ xs := by
  unfold nx at h
  have := List.of_mem_zip h
  have t : ∀ x, x ∈ xs ++ xs.take 1 → x ∈ xs := fun x hx => (List.mem_append.mp hx).elim id List.mem_of_mem_take
  exact ⟨t _ this.1, t _ (List.mem_of_mem_drop this.2)⟩
theorem hasB_2 (a b p : Pt) : hasB [a, b] p = (decide (Pt.o a b p = 0) && (!Pt.lt p a && !Pt.lt b p)) := rfl
theorem hasB_3 (a b c : Pt) (r : List Pt) (p : Pt) : hasB (a :: b :: c :: r) p = (nx ((a :: b :: c :: r) ++ (a :: b :: c :: r).take 1)).all fun e => decide (0 ≤ Pt.o e.1 e.2 p) := rfl
theorem hasB_fin3 (a b c : Pt) (r : List Pt) (p : Pt) (h : ∀ e ∈ nx ((a :: b :: c :: r) ++ (a :: b :: c :: r).take 1), 0 ≤ Pt.o e.1 e.2 p) : hasB (a :: b :: c :: r) p = true := by
  rw [hasB_3, List.all_eq_true]
  exact fun e he => decide_eq_true (h e he)
end PH
namespace PH
theorem cut_to {α : Type} (f : α → D) (xs : List α) (n : Nat) : cutD (xs.map f) none (some (n : Int)) = (xs.take n).map f := by
  unfold cutD
  rw [HT.sIx_none, List.drop_zero, Nat.sub_zero, HT.sIx_nat, List.length_map, List.map_take]
  by_cases h : n ≤ xs.length
  · rw [Nat.min_eq_left h]
  · rw [Nat.min_eq_right (by omega), List.take_of_length_le (by rw [List.length_map]; omega), List.take_of_length_le (by rw [List.length_map]; omega)]
end PH

namespace PH
open PySem PySem.Spec L2
def O1 : Pt := ⟨0, 0, 1, by decide, by decide⟩
theorem PlateOk.two {a b : Pt} (h : PlateOk [a, b]) : Pt.lt a b = true := by
  rcases h with ⟨c, h⟩ | ⟨S, h, _⟩
  · cases h
  · exact (h.two a b rfl).1
end PH
namespace PH
open PySem PySem.Spec L2
theorem bools_map {α : Type} (t : α → Bool) (xs : List α) : boolsD (xs.map fun x => PyData.bool (t x)) = some (xs.map t) := by
  induction xs with
  | nil => rfl
  | cons x xs ih => simp [boolsD, ih]
theorem any_map {α : Type} {t : α → Bool} {xs : List α} {Q : D → Prop} (h : Q (.bool (xs.any t))) : dAny [.list (xs.map fun x => PyData.bool (t x))] Q := by
  unfold dAny
  dsimp only
  rw [bools_map]
  dsimp only
  rw [List.any_map]; exact h
end PH
namespace PH
open PySem PySem.Spec L2
end PH

namespace PH
open PySem PySem.Spec L2
def oA (a b : Pt) : Int := a.y * b.d - a.d * b.y
def oB (a b : Pt) : Int := a.d * b.x - a.x * b.d
def oC (a b : Pt) : Int := a.x * b.y - a.y * b.x
theorem o_lin (a b q : Pt) : oA a b * q.x + oB a b * q.y + oC a b * q.d = Pt.o a b q := by unfold oA oB oC Pt.o detP; grind
theorem o_linN (a b q : Pt) : (-oA a b) * q.x + (-oB a b) * q.y + (-oC a b) * q.d = -Pt.o a b q := by rw [← o_lin]; grind
def up (N : Int) (a q : Pt) : Int := N * Pt.sx a q + Pt.sy a q
theorem up_lin (N : Int) (a q : Pt) : (N * a.d) * q.x + a.d * q.y + (-(N * a.x + a.y)) * q.d = up N a q := by unfold up Pt.sx Pt.sy; grind
theorem dn_lin (N : Int) (b q : Pt) : (-(N * b.d)) * q.x + (-b.d) * q.y + (N * b.x + b.y) * q.d = up N q b := by unfold up Pt.sx Pt.sy; grind
theorem up_self (N : Int) (a : Pt) : up N a a = 0 := by unfold up Pt.sx Pt.sy; grind
theorem up_anti (N : Int) (a b : Pt) : up N b a = -up N a b := by unfold up Pt.sx Pt.sy; grind
theorem up_pos {N : Int} {a b : Pt} (h : Pt.lt a b = true) (hN : (Pt.sy a b).natAbs < N) : 0 < up N a b := Pt.shear hN ((Pt.lt_iff a b).mp h)
theorem sx_lin (a q : Pt) : a.d * q.x + 0 * q.y + (-a.x) * q.d = Pt.sx a q := by unfold Pt.sx; grind
theorem sx_linN (a q : Pt) : (-a.d) * q.x + 0 * q.y + a.x * q.d = -Pt.sx a q := by unfold Pt.sx; grind
theorem sy_lin (a q : Pt) : 0 * q.x + a.d * q.y + (-a.y) * q.d = Pt.sy a q := by unfold Pt.sy; grind
theorem sy_linN (a q : Pt) : 0 * q.x + (-a.d) * q.y + a.y * q.d = -Pt.sy a q := by unfold Pt.sy; grind
theorem s_self (a : Pt) : Pt.sx a a = 0 ∧ Pt.sy a a = 0 := by unfold Pt.sx Pt.sy; omega
theorem has_lin {H : List Pt} (P : PlateOk H) {p : Pt} (h : ∀ A B C : Int, (∀ c ∈ H, 0 ≤ A * c.x + B * c.y + C * c.d) → 0 ≤ A * p.x + B * p.y + C * p.d) : hasB H p = true := by
  rcases P with ⟨a, rfl⟩ | ⟨S, P, hS⟩
  · obtain ⟨s1, s2⟩ := s_self a
    have h1 := h _ _ _ (fun c hc => by simp at hc; subst hc; rw [sx_lin, s1]; exact Int.le_refl _)
    have h2 := h _ _ _ (fun c hc => by simp at hc; subst hc; rw [sx_linN, s1]; exact Int.le_refl _)
    have h3 := h _ _ _ (fun c hc => by simp at hc; subst hc; rw [sy_lin, s2]; exact Int.le_refl _)
    have h4 := h _ _ _ (fun c hc => by simp at hc; subst hc; rw [sy_linN, s2]; exact Int.le_refl _)
    rw [sx_lin] at h1; rw [sx_linN] at h2; rw [sy_lin] at h3; rw [sy_linN] at h4
    exact decide_eq_true (Pt.cop_of (by omega) (by omega))
  · match H, P, hS, h with
    | [], P, _, _ => exact absurd P.len (by simp)
    | [a], P, _, _ => exact absurd P.len (by simp)
    | [a, b], P, hS, h =>
      have ab := (P.two a b rfl).1
      have z2 := Pt.ori.z2 a b
      have z3 := Pt.ori.z3 a b
      have h1 := h (oA a b) (oB a b) (oC a b) (fun c hc => by
        rw [o_lin]; simp at hc; rcases hc with rfl | rfl <;> omega)
      have h2 := h (-oA a b) (-oB a b) (-oC a b) (fun c hc => by
        rw [o_linN]; simp at hc; rcases hc with rfl | rfl <;> omega)
      rw [o_lin] at h1; rw [o_linN] at h2
      obtain ⟨N, hN⟩ : ∃ N : Int, N = 1 + (Pt.sy a b).natAbs + (Pt.sy p a).natAbs + (Pt.sy b p).natAbs := ⟨_, rfl⟩
      have pos := up_pos (N := N) ab (by omega)
      have h3 := h _ _ _ (fun c hc => by
        rw [up_lin N a]; simp at hc
        rcases hc with rfl | rfl
        · rw [up_self]; exact Int.le_refl _
        · omega)
      have h4 := h _ _ _ (fun c hc => by
        rw [dn_lin N b]; simp at hc
        rcases hc with rfl | rfl
        · omega
        · rw [up_self]; exact Int.le_refl _)
      rw [up_lin] at h3; rw [dn_lin] at h4
      rw [hasB_2, decide_eq_true (by omega)]
      cases e1 : Pt.lt p a with
      | true =>
        have := up_pos (N := N) e1 (by omega)
        rw [up_anti] at this; omega
      | false =>
        cases e2 : Pt.lt b p with
        | true =>
          have := up_pos (N := N) e2 (by omega)
          rw [up_anti] at this; omega
        | false => rfl
    | a :: b :: c :: r, P, hS, h =>
      refine hasB_fin3 a b c r p fun e he => ?_
      have := h (oA e.1 e.2) (oB e.1 e.2) (oC e.1 e.2) (fun q hq => by
        rw [o_lin]
        exact P.left a rfl e.1 e.2 he q (hS q hq))
      rw [o_lin] at this; exact this
theorem has_mix {H : List Pt} (P : PlateOk H) {p : Pt} (h : MixOf H p) : hasB H p = true := has_lin P h
end PH
namespace PH
open PySem PySem.Spec L2
end PH

namespace PH
end PH

namespace PH
open PySem PySem.Spec L2
section
variable {α : Type} {R : α → α → Prop} {o : α → α → α → Int}
theorem sidesR_split : ∀ {st : List α} {u v : α}, (u, v) ∈ sidesR st → ∃ X Y, st = X ++ v :: u :: Y
  | [], _, _, h => by simp [sidesR] at h
  | [_], _, _, h => by simp [sidesR] at h
  | b :: a :: r, u, v, h => by
    simp only [sidesR, List.mem_cons, Prod.mk.injEq] at h
    rcases h with ⟨rfl, rfl⟩ | h
    · exact ⟨[], r, rfl⟩
    · obtain ⟨X, Y, e⟩ := sidesR_split h
      exact ⟨b :: X, Y, by rw [e]; rfl⟩
theorem sidesR_of : ∀ (X : List α) (v u : α) (Y : List α), (u, v) ∈ sidesR (X ++ v :: u :: Y)
  | [], v, u, Y => by simp [sidesR]
  | [x], v, u, Y => by simp [sidesR]
  | x :: y :: X, v, u, Y => by
    have := sidesR_of (y :: X) v u Y
    simp only [List.cons_append, sidesR, List.mem_cons] at this ⊢
    exact .inr this
theorem flat_in (O : Ori R o) {S : α → Prop} {st : List α} (C : Chn R o S st) (top : ∀ M, st.head? = some M → ∀ q, S q → q = M ∨ R q M) {u v q : α} (h : (u, v) ∈ sidesR st) (hq : S q) (z : o u v q = 0) : (q = u ∨ R u q) ∧ (q = v ∨ R q v) := by
  obtain ⟨X, Y, e⟩ := sidesR_split h
  have asym : ∀ {a b : α}, R a b → R b a → False := fun h1 h2 => O.ir _ (O.tr h1 h2)
  have des := C.des
  rw [e] at des
  have duv : R u v := by
    have := (List.pairwise_append.mp des).2.1
    exact (List.pairwise_cons.mp this).1 u (by simp)
  constructor
  · rcases O.tot u q with k | k | k
    · exact .inr k
    · exact .inl k.symm
    · exfalso
      cases Y with
      | nil =>
        obtain ⟨m, h1, h2⟩ := C.low q hq
        rw [e] at h1
        have h1 : u = m := by simpa using h1
        subst h1
        rcases h2 with rfl | h2
        · exact O.ir _ k
        · exact asym k h2
      | cons t Y =>
        have c1 : 0 < o t u v := C.conv v u t ⟨X, Y, by rw [e]; simp⟩
        have c2 : 0 ≤ o t u q := C.left t u (by rw [e]; have := sidesR_of (X ++ [v]) u t Y; simpa using this) q hq
        have dtu : R t u := by
          have := (List.pairwise_append.mp des).2.1
          exact (List.pairwise_cons.mp (List.pairwise_cons.mp this).2).1 t (by simp)
        rcases O.tot q t with g | g | g
        · obtain ⟨s1, s2, s3, s4, s5, s6, p1, p2, p3, p4, p5, p6, i1, i2, i3, i4⟩ := O.four g dtu duv
          have a1 := O.cyc q u v
          have a2 := O.cyc q t u
          rw [a2] at c2
          rw [a1] at z
          rw [z, Int.zero_mul] at i4
          have := Int.mul_pos c1 p2
          have := Int.mul_nonneg c2 (show 0 ≤ s6 by omega)
          omega
        · subst g
          have a1 := O.cyc q u v
          omega
        · obtain ⟨s1, s2, s3, s4, s5, s6, p1, p2, p3, p4, p5, p6, i1, i2, i3, i4⟩ := O.four g k duv
          have a1 := O.cyc q u v
          have a2 := O.sw t q u
          rw [a1] at z
          rw [z, Int.zero_mul] at i4
          have := Int.mul_pos c1 p4
          have := Int.mul_nonneg c2 (show 0 ≤ s6 by omega)
          have a3 : o t q u * s6 = -(o t u q * s6) := by rw [← Int.neg_mul, a2, Int.neg_neg]
          omega
  · rcases O.tot q v with k | k | k
    · exact .inr k
    · exact .inl k
    · exfalso
      rcases List.eq_nil_or_concat X with rfl | ⟨X', w, rfl⟩
      · have := top v (by rw [e]; rfl) q hq
        rcases this with rfl | this
        · exact O.ir _ k
        · exact asym k this
      · have c1 : 0 < o u v w := C.conv w v u ⟨X', Y, by rw [e]; simp⟩
        have c2 : 0 ≤ o v w q := C.left v w (by rw [e]; have := sidesR_of X' w v (u :: Y); simpa using this) q hq
        have dvw : R v w := (List.pairwise_append.mp des).2.2 w (by simp) v (by simp)
        rcases O.tot w q with g | g | g
        · obtain ⟨s1, s2, s3, s4, s5, s6, p1, p2, p3, p4, p5, p6, i1, i2, i3, i4⟩ := O.four duv dvw g
          rw [z, Int.zero_mul] at i3
          have := Int.mul_pos c1 p5
          have := Int.mul_nonneg c2 (show 0 ≤ s1 by omega)
          omega
        · subst g; omega
        · obtain ⟨s1, s2, s3, s4, s5, s6, p1, p2, p3, p4, p5, p6, i1, i2, i3, i4⟩ := O.four duv k g
          rw [z, Int.zero_mul] at i3
          have a2 := O.sw v q w
          have a3 : o v q w * s1 = -(o v w q * s1) := by rw [← Int.neg_mul, a2, Int.neg_neg]
          have := Int.mul_pos c1 p4
          have := Int.mul_nonneg c2 (show 0 ≤ s1 by omega)
          omega
theorem line_in (O : Ori R o) {u v r s : α} (ur : R u r) (rv : R r v) (rs : R r s) (z : o u v r = 0) (h1 : 0 ≤ o s r u) (h2 : 0 ≤ o s r v) : o s r u = 0 := by
  have z' : o u r v = 0 := by have := O.sw u v r; omega
  rcases O.tot v s with g | g | g
  · obtain ⟨s1, s2, s3, s4, s5, s6, p1, p2, p3, p4, p5, p6, i1, i2, i3, i4⟩ := O.four ur rv g
    have e1 : o u r s = -o s r u := by have := O.cyc u r s; have := O.anti s r u; omega
    have e2 : o r v s = o s r v := O.cyc s r v
    rw [z', Int.zero_mul, e1, e2] at i3
    have := Int.mul_nonneg h2 (show 0 ≤ s1 by omega)
    rw [Int.neg_mul] at i3
    rcases Int.lt_or_eq_of_le h1 with k | k
    · have := Int.mul_pos k p4; omega
    · exact k.symm
  · subst g
    have := O.cyc v r u; have := O.cyc u v r; have := O.sw u v r; have := O.cyc r u v; omega
  · obtain ⟨s1, s2, s3, s4, s5, s6, p1, p2, p3, p4, p5, p6, i1, i2, i3, i4⟩ := O.four ur rs g
    have e1 : o u r s = -o s r u := by have := O.cyc u r s; have := O.anti s r u; omega
    have e2 : o r s v = -o s r v := O.anti s r v
    rw [z', Int.zero_mul, e1, e2, Int.neg_mul, Int.neg_mul] at i3
    have := Int.mul_nonneg h2 (show 0 ≤ s1 by omega)
    rcases Int.lt_or_eq_of_le h1 with k | k
    · have := Int.mul_pos k p5; omega
    · exact k.symm
theorem strict_in (O : Ori R o) {S : α → Prop} {st st' : List α} (C : Chn R o S st) (C' : Chn (fun a b => R b a) o S st') (top : ∀ M, st.head? = some M → ∀ q, S q → q = M ∨ R q M) (top' : ∀ M, st'.head? = some M → ∀ q, S q → q = M ∨ R M q)
    {u v r : α} (h : (u, v) ∈ sidesR st) (hr : r ∈ st ∨ r ∈ st') (z : o u v r = 0) : r = u ∨ r = v := by
  have asym : ∀ {a b : α}, R a b → R b a → False := fun h1 h2 => O.ir _ (O.tr h1 h2)
  have sr : S r := hr.elim (C.mem r) (C'.mem r)
  obtain ⟨f1, f2⟩ := flat_in O C top h sr z
  obtain ⟨X, Y, e⟩ := sidesR_split h
  rcases f1 with f1 | f1
  · exact .inl f1
  rcases f2 with f2 | f2
  · exact .inr f2
  exfalso
  rcases hr with hr | hr
  · have des := C.des
    rw [e] at des hr
    obtain ⟨d1, d2, d3⟩ := List.pairwise_append.mp des
    simp only [List.mem_append, List.mem_cons] at hr
    rcases hr with hr | rfl | rfl | hr
    · exact asym f2 (d3 r hr v (by simp))
    · exact O.ir _ f2
    · exact O.ir _ f1
    · exact asym f1 ((List.pairwise_cons.mp (List.pairwise_cons.mp d2).2).1 r hr)
  · have su : S u := C.mem u (by rw [e]; simp)
    have sv : S v := C.mem v (by rw [e]; simp)
    obtain ⟨A, B, e'⟩ := List.append_of_mem hr
    cases B with
    | nil =>
      obtain ⟨m, h1, h2⟩ := C'.low v sv
      rw [e'] at h1
      have h1 : r = m := by simpa using h1
      subst h1
      rcases h2 with rfl | h2
      · exact O.ir _ f2
      · exact asym f2 h2
    | cons s B =>
      have hs : (s, r) ∈ sidesR st' := by rw [e']; exact sidesR_of A r s B
      have des := C'.des
      rw [e'] at des
      have rs : R r s := (List.pairwise_cons.mp (List.pairwise_append.mp des).2.1).1 s (by simp)
      have z2 := line_in O f1 f2 rs z (C'.left s r hs u su) (C'.left s r hs v sv)
      obtain ⟨_, g⟩ := flat_in O.flip C' top' hs su z2
      rcases g with rfl | g
      · exact O.ir _ f1
      · exact asym f1 g
structure Strict (o : α → α → α → Int) (H : List α) : Prop where
  nd : H.Nodup
  two : ∀ u v, (u, v) ∈ nx (H ++ H.take 1) → 2 ≤ H.length → u ≠ v
  st : ∀ u v, (u, v) ∈ nx (H ++ H.take 1) → 2 ≤ H.length → ∀ r ∈ H, o u v r = 0 → r = u ∨ r = v
theorem hull_strict (O : Ori R o) {ps : List α} (hl : 2 ≤ ps.length) (hp : ps.Pairwise R) : Strict o (hullL o ps) := by
  have ne : ps ≠ [] := fun z => by rw [z] at hl; simp at hl
  have ne' : ps.reverse ≠ [] := fun z => ne (List.reverse_eq_nil_iff.mp z)
  have asym : ∀ {a b : α}, R a b → R b a → False := fun h1 h2 => O.ir _ (O.tr h1 h2)
  obtain ⟨C, h1, h2⟩ := chain_ok O ps ne hp
  obtain ⟨C', h1', h2'⟩ := chain_ok O.flip ps.reverse ne' (List.pairwise_reverse.mpr hp)
  obtain ⟨m, hm⟩ : ∃ m, ps.head? = some m := by cases ps with | nil => exact absurd rfl ne | cons a b => exact ⟨a, rfl⟩
  obtain ⟨M, hM⟩ : ∃ m, ps.getLast? = some m := ⟨_, List.getLast?_eq_getLast ne⟩
  rw [List.getLast?_reverse, hm] at h1'
  rw [List.head?_reverse, hM] at h2'
  rw [hM] at h1; rw [hm] at h2
  have C2 : Chn (fun a b => R b a) o (· ∈ ps) (chainR o ps.reverse) := ⟨fun x hx => List.mem_reverse.mp (C'.mem x hx), C'.des, fun q hq => C'.low q (List.mem_reverse.mpr hq), fun u v h q hq => C'.left u v h q (List.mem_reverse.mpr hq), C'.conv⟩
  have mn : ∀ q ∈ ps, q = m ∨ R m q := fun q hq => by
    obtain ⟨m', e, h⟩ := C.low q hq
    rw [h2] at e; cases e; exact h
  have mx : ∀ q ∈ ps, q = M ∨ R q M := fun q hq => by
    obtain ⟨m', e, h⟩ := C2.low q hq
    rw [h2'] at e; cases e; exact h
  have top : ∀ N, (chainR o ps).head? = some N → ∀ q, q ∈ ps → q = N ∨ R q N := fun N e q hq => by rw [h1] at e; cases e; exact mx q hq
  have top' : ∀ N, (chainR o ps.reverse).head? = some N → ∀ q, q ∈ ps → q = N ∨ R N q := fun N e q hq => by rw [h1'] at e; cases e; exact mn q hq
  have Ll : (chainL o ps).getLast? = some M := by unfold chainL; rw [List.getLast?_reverse]; exact h1
  have Ul : (chainL o ps.reverse).getLast? = some m := by unfold chainL; rw [List.getLast?_reverse]; exact h1'
  have Lh : (chainL o ps).head? = some m := by unfold chainL; rw [List.head?_reverse]; exact h2
  have Uh : (chainL o ps.reverse).head? = some M := by unfold chainL; rw [List.head?_reverse]; exact h2'
  obtain ⟨L, hL⟩ := List.getLast?_eq_some_iff.mp Ll
  obtain ⟨U, hU⟩ := List.getLast?_eq_some_iff.mp Ul
  have eH : hullL o ps = L ++ U := by unfold hullL; rw [hL, hU, List.dropLast_concat, List.dropLast_concat]
  have eR : chainR o ps = M :: L.reverse := by
    have : (chainL o ps).reverse = chainR o ps := by unfold chainL; rw [List.reverse_reverse]
    rw [← this, hL]; simp
  have eR' : chainR o ps.reverse = m :: U.reverse := by
    have : (chainL o ps.reverse).reverse = chainR o ps.reverse := by unfold chainL; rw [List.reverse_reverse]
    rw [← this, hU]; simp
  have mM : m ≠ M := by
    cases ps with
    | nil => exact absurd rfl ne
    | cons a b =>
      simp at hm; subst hm
      cases b with
      | nil => simp at hl
      | cons b c =>
        rw [List.getLast?_cons_cons] at hM
        have := (List.pairwise_cons.mp hp).1 M (List.mem_of_getLast? hM)
        exact fun z => O.ir _ (z ▸ this)
  obtain ⟨L', rfl⟩ : ∃ L', L = m :: L' := by
    cases L with
    | nil => rw [hL] at Lh; simp at Lh; exact absurd Lh.symm mM
    | cons a b => rw [hL] at Lh; simp at Lh; exact ⟨b, by rw [Lh]⟩
  obtain ⟨U', rfl⟩ : ∃ U', U = M :: U' := by
    cases U with
    | nil => rw [hU] at Uh; simp at Uh; exact absurd Uh mM
    | cons a b => rw [hU] at Uh; simp at Uh; exact ⟨b, by rw [Uh]⟩
  have inH : ∀ r ∈ hullL o ps, r ∈ chainR o ps ∨ r ∈ chainR o ps.reverse := fun r hr => by
    rw [eH] at hr
    rw [eR, eR']
    rcases List.mem_append.mp hr with y | y
    · exact .inl (List.mem_cons_of_mem _ (List.mem_reverse.mpr y))
    · exact .inr (List.mem_cons_of_mem _ (List.mem_reverse.mpr y))
  have sides : ∀ u v, (u, v) ∈ nx (hullL o ps ++ (hullL o ps).take 1) → (u, v) ∈ sidesR (chainR o ps) ∨ (u, v) ∈ sidesR (chainR o ps.reverse) := fun u v h => by
    rw [eH] at h
    have e : (m :: L') ++ (M :: U') ++ ((m :: L') ++ (M :: U')).take 1 = (m :: L') ++ M :: (U' ++ [m]) := by simp
    rw [e, nx_app, List.mem_append] at h
    rcases h with h | h
    · left
      refine (nx_rev (o := o) _ u v).mp ?_
      show (u, v) ∈ nx (chainL o ps)
      rw [hL]; exact h
    · right
      refine (nx_rev (o := o) _ u v).mp ?_
      show (u, v) ∈ nx (chainL o ps.reverse)
      rw [hU]; exact h
  have nd1 : (chainR o ps).Nodup := C.des.imp fun {a b} h => fun z => O.ir _ (z ▸ h)
  have nd2 : (chainR o ps.reverse).Nodup := C2.des.imp fun {a b} h => fun z => O.ir _ (z ▸ h)
  refine ⟨?_, fun u v h _ => ?_, fun u v h _ r hr z => ?_⟩
  · rw [eH, List.nodup_append]
    refine ⟨?_, ?_, fun x hx y hy e => ?_⟩
    · rw [eR] at nd1
      have := (List.nodup_cons.mp nd1).2
      exact (List.reverse_perm _).nodup_iff.mp this
    · rw [eR'] at nd2
      have := (List.nodup_cons.mp nd2).2
      exact (List.reverse_perm _).nodup_iff.mp this
    · subst e
      have x1 : x ∈ chainR o ps := by rw [eR]; exact List.mem_cons_of_mem _ (List.mem_reverse.mpr hx)
      have x2 : x ∈ chainR o ps.reverse := by rw [eR']; exact List.mem_cons_of_mem _ (List.mem_reverse.mpr hy)
      have xM : x ≠ M := fun z => by
        rw [eR] at nd1
        exact (List.nodup_cons.mp nd1).1 (z ▸ List.mem_reverse.mpr hx)
      have xm : x ≠ m := fun z => by
        rw [eR'] at nd2
        exact (List.nodup_cons.mp nd2).1 (z ▸ List.mem_reverse.mpr hy)
      obtain ⟨X, Y, e1⟩ := List.append_of_mem x1
      obtain ⟨A, B, e2⟩ := List.append_of_mem x2
      cases Y with
      | nil => rw [e1] at h2; exact xm (by simpa using h2)
      | cons u Y =>
        cases B with
        | nil => rw [e2] at h2'; exact xM (by simpa using h2')
        | cons s B =>
          have s1 : (u, x) ∈ sidesR (chainR o ps) := by rw [e1]; exact sidesR_of X x u Y
          have s2 : (s, x) ∈ sidesR (chainR o ps.reverse) := by rw [e2]; exact sidesR_of A x s B
          have mu := C.mem u (by rw [e1]; simp)
          have ms := C2.mem s (by rw [e2]; simp)
          have g1 := C.left u x s1 s ms
          have g2 := C2.left s x s2 u mu
          have g3 : o s x u = -o u x s := by have := O.cyc s x u; have := O.anti u x s; omega
          have g4 : o u x s = 0 := by omega
          obtain ⟨_, f⟩ := flat_in O C top s1 ms g4
          have des := C2.des
          rw [e2] at des
          have xs : R x s := (List.pairwise_cons.mp (List.pairwise_append.mp des).2.1).1 s (by simp)
          rcases f with f | f
          · exact O.ir _ (f ▸ xs)
          · exact asym xs f
  · rcases sides u v h with h | h
    · have := (sidesR_mem C.des h).2.2.1
      exact fun z => O.ir _ (z ▸ this)
    · have := (sidesR_mem (R := fun a b => R b a) C2.des h).2.2.1
      exact fun z => O.ir _ (z ▸ this)
  · rcases sides u v h with h | h
    · exact strict_in O C C2 top top' h (inH r hr) z
    · exact strict_in O.flip C2 C top' top h ((inH r hr).elim .inr .inl) z
end
end PH

namespace PH
open PySem PySem.Spec L2
def PlateS (H : List Pt) : Prop := PlateOk H ∧ Strict Pt.o H
theorem plate_okS {ps : List Pt} (h : ps ≠ []) : PlateS (hullP ps) := by
  refine ⟨(plate_ok h).1, ?_⟩
  unfold hullP
  split
  · rename_i hl
    match e : ordT Pt.lt ps, hl with
    | [], _ => exact ⟨by simp, fun u v _ h => by simp at h, fun u v _ h => by simp at h⟩
    | [a], _ => exact ⟨by simp, fun u v _ h => by simp at h, fun u v _ h => by simp at h⟩
    | a :: b :: r, hl => simp at hl; omega
  · rename_i hl
    exact hull_strict Pt.ori (by omega) (pord_srt ps)
theorem PlateS.ne {H : List Pt} (h : PlateS H) : H ≠ [] := h.1.ne
structure Vd where
  a : Int
  b : Int
  cop : Int.gcd a b = 1
deriving DecidableEq
theorem Vd.ext' {u v : Vd} (h1 : u.a = v.a) (h2 : u.b = v.b) : u = v := by
  cases u; cases v; simp at h1 h2; subst h1; subst h2; rfl
theorem Vd.ne (u : Vd) : ¬ (u.a = 0 ∧ u.b = 0) := fun ⟨h1, h2⟩ => by have := u.cop; rw [h1, h2] at this; simp at this
abbrev vD (u : Vd) : D := fr u.a u.b
def VB (k : Nat) (u : Vd) : Prop := Bd k u.a ∧ Bd k u.b
theorem VB.mono {j k : Nat} {u : Vd} (h : VB j u) (l : j ≤ k) : VB k u := ⟨h.1.mono l, h.2.mono l⟩
theorem vd_of {a b : Int} {k : Nat} (h : ¬ (a = 0 ∧ b = 0)) (ha : Bd k a) (hb : Bd k b) : ∃ u : Vd, dirv a b = vD u ∧ VB k u ∧ ∃ g : Int, 0 < g ∧ a = u.a * g ∧ b = u.b * g := by
  obtain ⟨u, v, e, g, h1, h2⟩ := dirv_spec h
  have e' := e
  unfold dirv at e'
  simp only [PyData.tuple.injEq, List.cons.injEq, PyData.int.injEq, and_true] at e'
  refine ⟨⟨u, v, g⟩, e, ⟨e'.1 ▸ bd_fdiv, e'.2 ▸ bd_fdiv⟩, _, ?_, h1, h2⟩
  have := g2_pos h; omega
theorem mkF_pos {p q : Int} (h : 0 < q) : 0 < q.fdiv (gs p q) ∧ Int.gcd (p.fdiv (gs p q)) (q.fdiv (gs p q)) = 1 ∧ p.fdiv (gs p q) * q = p * q.fdiv (gs p q) := by
  obtain ⟨u, v, e, h1, h2, h3, h4⟩ := frac_spec (p := p) (show q ≠ 0 by omega)
  obtain ⟨c, _⟩ := frac_cross (show q ≠ 0 by omega) e
  unfold frac at e
  simp only [PyData.tuple.injEq, List.cons.injEq, PyData.int.injEq, and_true] at e
  rw [e.1, e.2]
  exact ⟨h1, h2, c.symm⟩
def mkF (p q : Int) (h : 0 < q) : Fq := ⟨p.fdiv (gs p q), q.fdiv (gs p q), (mkF_pos h).1, (mkF_pos h).2.1⟩
def hq (u : Vd) (p : Pt) : Fq := mkF (u.a * p.x + u.b * p.y) p.d p.pos
end PH

namespace PH
open PySem PySem.Spec L2
theorem s_ne {u v : Pt} (h : u ≠ v) : ¬ (Pt.sx u v = 0 ∧ Pt.sy u v = 0) := fun z => h (Pt.cop_of z.1 z.2)
theorem s_bd {u v : Pt} {k : Nat} (hu : PB k u) (hv : PB k v) : Bd (2 * k + 1) (Pt.sx u v) ∧ Bd (2 * k + 1) (Pt.sy u v) :=
  ⟨(bd_sub2 (@bd_mul _ _ _ _ hv.1 hu.2.2) (@bd_mul _ _ _ _ hu.1 hv.2.2)).mono (by omega), (bd_sub2 (@bd_mul _ _ _ _ hv.2.1 hu.2.2) (@bd_mul _ _ _ _ hu.2.1 hv.2.2)).mono (by omega)⟩
theorem bd_z {k : Nat} {x : Int} (h : Bd k x) : Bd k (0 - x) := ⟨by have := h.h; omega⟩
def sidesL (H : List Pt) : List (Pt × Pt) := if H.length = 1 then [] else nx (H ++ H.take 1)
theorem sidesL_mem {H : List Pt} (h : PlateS H) {u v : Pt} (e : (u, v) ∈ sidesL H) : u ∈ H ∧ v ∈ H ∧ u ≠ v ∧ (u, v) ∈ nx (H ++ H.take 1) ∧ 2 ≤ H.length := by
  unfold sidesL at e
  split at e
  · simp at e
  · rename_i n1
    have ne := List.length_pos_iff.mpr h.ne
    obtain ⟨m1, m2⟩ := nx_mem e
    exact ⟨m1, m2, h.2.two u v e (by omega), e, by omega⟩
theorem sides_left {H : List Pt} (h : PlateS H) {u v : Pt} (e : (u, v) ∈ sidesL H) {r : Pt} (hr : r ∈ H) : 0 ≤ Pt.o u v r := by
  obtain ⟨m1, m2, ne, e2, l2⟩ := sidesL_mem h e
  rcases h.1 with ⟨a, rfl⟩ | ⟨S, hS, hm⟩
  · simp at l2
  · have h0 : ∃ m, H.head? = some m ∧ H.take 1 = [m] := by
      cases H with
      | nil => simp at m1
      | cons a r => exact ⟨a, rfl, rfl⟩
    obtain ⟨m, hm1, hm2⟩ := h0
    rw [hm2] at e2
    exact hS.left m hm1 u v e2 r (hm r hr)
theorem dNe_pD {p q : Pt} {Q : D → Prop} (h : Q (.bool (!decide (p = q)))) : dNe (pD p) (pD q) Q := by
  refine ⟨sh_iii, sh_iii, ?_⟩
  rw [eqv_pD]; exact h
end PH

namespace PH
open PySem PySem.Spec L2
structure Plt (H : List Pt) : Prop where
  ne : H ≠ []
  st : Strict Pt.o H
  left : ∀ u v, (u, v) ∈ nx (H ++ H.take 1) → 2 ≤ H.length → ∀ r ∈ H, 0 ≤ Pt.o u v r
theorem PlateS.plt {H : List Pt} (h : PlateS H) : Plt H := ⟨h.ne, h.2, fun u v e l r hr => sides_left h (u := u) (v := v) (by unfold sidesL; rw [if_neg (by omega)]; exact e) hr⟩
end PH

namespace PH
open PySem PySem.Spec L2
def negV (u : Vd) : Vd := ⟨-u.a, -u.b, by rw [Int.neg_gcd, Int.gcd_neg]; exact u.cop⟩
theorem VB.neg {k : Nat} {u : Vd} (h : VB k u) : VB k (negV u) := ⟨@bd_neg _ _ h.1, @bd_neg _ _ h.2⟩
theorem isdr_vd {k : Nat} {d : D} (h : IsDr k d) : ∃ u : Vd, d = vD u ∧ VB k u := let ⟨a, b, e, g, h1, h2⟩ := h; ⟨⟨a, b, g⟩, e, h1, h2⟩
theorem vd_isdr {k : Nat} {u : Vd} (h : VB k u) : IsDr k (vD u) := ⟨u.a, u.b, rfl, u.cop, h.1, h.2⟩
abbrev hfD (u : Vd) (q : Pt) : D := halfv (u.a * q.d) (u.b * q.d) (u.a * q.x + u.b * q.y)
theorem ok_pt {k : Nat} (hk : k ≤ 900) (p : Pt) (h : PB k p) : tame (pD p) ∧ (pD p).bulk ≤ 100 ∧ (pD p).depth ≤ 5 ∧ (pD p).hasDict = false := by
  refine ⟨⟨(h.1.mono hk).h, (h.2.1.mono hk).h, (h.2.2.mono hk).h, trivial⟩, ?_, ?_, ?_⟩
  · simp [PyData.bulk, PyData.bulkAll]
  · simp [PyData.depth, PyData.depthAll]
  · simp [PyData.hasDict, PyData.hasDictAll]
def spMet : DSp := fun ds Q => ∃ (H : List Pt) (A B C : Int) (k : Nat), ds = [.tuple (H.map pD), pl A B C] ∧ (∀ x ∈ H, PB k x) ∧ Bd k A ∧ Bd k B ∧ Bd k C ∧ k ≤ 1000 ∧ H.length ≤ 1000 ∧ Q (.bool (H.any fun p => decide (0 ≤ excess A B C p.x p.y p.d)))
def spHfD : DSp := fun ds Q => ∃ (u : Vd) (q : Pt) (k : Nat), ds = [vD u, pD q] ∧ VB k u ∧ PB k q ∧ k ≤ 900 ∧ Q (hfD u q)
end PH

namespace PH
open PySem PySem.Spec L2
theorem fl_lt {a b c d g : Int} (hb : 0 < b) (hd : 0 < d) (gb : b ≤ g) (gd : d ≤ g) (h : a * d < c * b) : a * (g * g) / b < c * (g * g) / d := by
  have n1 : a * (g * g) / b * b ≤ a * (g * g) := Int.ediv_mul_le _ (by omega)
  have bd : b * d ≤ g * g := Int.mul_le_mul gb gd (by omega) (by omega)
  generalize hn : a * (g * g) / b = n at *
  have hg : 0 ≤ g * g := Int.mul_nonneg (by omega) (by omega)
  rw [Int.lt_iff_add_one_le, Int.le_ediv_iff_mul_le hd]
  refine Int.le_of_mul_le_mul_right (a := b) ?_ hb
  have e1 : (n + 1) * d * b = n * b * d + b * d := by grind
  have e2 : n * b * d ≤ a * (g * g) * d := Int.mul_le_mul_of_nonneg_right n1 (by omega)
  have e3 : a * (g * g) * d + g * g ≤ c * (g * g) * b := by
    have : (g * g) * (a * d + 1) ≤ (g * g) * (c * b) := Int.mul_le_mul_of_nonneg_left (by omega) hg
    have w1 : a * (g * g) * d = (g * g) * (a * d) := by grind
    have w2 : c * (g * g) * b = (g * g) * (c * b) := by grind
    rw [w1, w2]
    rw [Int.mul_add] at this
    omega
  omega
theorem fl_eq {a b c d g : Int} (hb : 0 < b) (hd : 0 < d) (h : a * d = c * b) : a * (g * g) / b = c * (g * g) / d := by
  have e1 : a * (g * g) / b = a * (g * g) * d / (b * d) := (Int.mul_ediv_mul_of_pos_left _ _ hd).symm
  have e2 : c * (g * g) / d = c * (g * g) * b / (d * b) := (Int.mul_ediv_mul_of_pos_left _ _ hb).symm
  rw [e1, e2, Int.mul_comm d b]
  congr 1
  grind
theorem fl_lt_iff {a b c d g : Int} (hb : 0 < b) (hd : 0 < d) (gb : b ≤ g) (gd : d ≤ g) : a * (g * g) / b < c * (g * g) / d ↔ a * d < c * b := by
  refine ⟨fun h => ?_, fl_lt hb hd gb gd⟩
  rcases Int.lt_trichotomy (a * d) (c * b) with z | z | z
  · exact z
  · rw [fl_eq hb hd z] at h; omega
  · have := fl_lt (g := g) hd hb gd gb z; omega
def keyP (f : Int) : D → D
  | .tuple [.int x, .int y, .int d] => .tuple [.int (x * f / d), .int (y * f / d)]
  | _ => .none
def leP (p q : Pt) : Bool := !Pt.lt q p
theorem key_le {g : Int} {p q : Pt} (hp : p.d ≤ g) (hq : q.d ≤ g) : PySem.W.dataLe false (keyP (g * g)) (pD p) (pD q) = leP p q := by
  have e := congrFun (congrFun (PySem.W.dataLe_ii (fun p : Pt => p.x * (g * g) / p.d) (fun p : Pt => p.y * (g * g) / p.d)) p) q
  have e' : PySem.W.dataLe false (keyP (g * g)) (pD p) (pD q) = decide (p.x * (g * g) / p.d < q.x * (g * g) / q.d ∨ (p.x * (g * g) / p.d = q.x * (g * g) / q.d ∧ p.y * (g * g) / p.d ≤ q.y * (g * g) / q.d)) := e
  rw [e']
  have x1 := fl_lt_iff (a := p.x) (c := q.x) p.pos q.pos hp hq
  have x2 := fl_lt_iff (a := q.x) (c := p.x) q.pos p.pos hq hp
  have y2 := fl_lt_iff (a := q.y) (c := p.y) q.pos p.pos hq hp
  have hl := Pt.lt_iff q p
  unfold Pt.sx Pt.sy at hl
  unfold leP
  cases z : Pt.lt q p with
  | true =>
    have := hl.mp z
    rw [Bool.not_true, decide_eq_false_iff_not]
    omega
  | false =>
    have : ¬ (0 < p.x * q.d - q.x * p.d ∨ (p.x * q.d - q.x * p.d = 0 ∧ 0 < p.y * q.d - q.y * p.d)) := fun w => by rw [hl.mpr w] at z; cases z
    rw [Bool.not_false, decide_eq_true_iff]
    omega
theorem leP_tr (a b c : Pt) (h1 : leP a b = true) (h2 : leP b c = true) : leP a c = true := by
  unfold leP at *
  rw [Bool.not_eq_true'] at *
  cases z : Pt.lt c a with
  | false => rfl
  | true =>
    rcases Pt.ori.tot a b with w | w | w
    · rw [Pt.tr' z w] at h2; cases h2
    · subst w; rw [z] at h2; cases h2
    · rw [w] at h1; cases h1
theorem leP_tot (a b : Pt) : (leP a b || leP b a) = true := by
  unfold leP
  cases z : Pt.lt b a with
  | false => rfl
  | true =>
    cases w : Pt.lt a b with
    | false => rfl
    | true => exact absurd (Pt.tr' z w) (Pt.ori.ir b)
def ascL (ps : List Pt) : List Pt := ps.mergeSort leP
theorem asc_data {g : Int} {ps : List Pt} (h : ∀ p ∈ ps, p.d ≤ g) : (ps.map pD).mergeSort (PySem.W.dataLe false (keyP (g * g))) = (ascL ps).map pD :=
  (List.map_mergeSort fun a ha b hb => (key_le (h a ha) (h b hb)).symm).symm
theorem asc_mem {ps : List Pt} {p : Pt} : p ∈ ascL ps ↔ p ∈ ps := (List.mergeSort_perm ps leP).mem_iff
theorem asc_len (ps : List Pt) : (ascL ps).length = ps.length := (List.mergeSort_perm ps leP).length_eq
theorem asc_srt (ps : List Pt) : (ascL ps).Pairwise fun a b => leP a b = true := List.pairwise_mergeSort leP_tr leP_tot ps
theorem maxI_ge {d : Int} : ∀ {ns : List Int} {n : Int}, n ∈ ns → n ≤ maxI d ns
  | x :: xs, n, h => by
    have key : ∀ (ys : List Int) (a : Int), a ≤ ys.foldl max a ∧ ∀ y ∈ ys, y ≤ ys.foldl max a := by
      intro ys
      induction ys with
      | nil => intro a; exact ⟨Int.le_refl _, fun _ h => by cases h⟩
      | cons y ys ih =>
        intro a
        obtain ⟨h1, h2⟩ := ih (max a y)
        refine ⟨by simp only [List.foldl_cons]; omega, fun z hz => ?_⟩
        simp only [List.foldl_cons]
        rcases List.mem_cons.mp hz with rfl | hz
        · omega
        · exact h2 z hz
    obtain ⟨h1, h2⟩ := key xs x
    rcases List.mem_cons.mp h with rfl | h
    · exact h1
    · exact h2 n h
theorem maxI_mem {d : Int} : ∀ {ns : List Int}, ns ≠ [] → maxI d ns ∈ ns
  | [], h => absurd rfl h
  | x :: xs, _ => by
    have key : ∀ (ys : List Int) (a : Int), ys.foldl max a = a ∨ ys.foldl max a ∈ ys := by
      intro ys
      induction ys with
      | nil => intro a; exact .inl rfl
      | cons y ys ih =>
        intro a
        simp only [List.foldl_cons, List.mem_cons]
        rcases ih (max a y) with h | h
        · rw [h]
          rcases Int.le_total a y with w | w
          · right; left; omega
          · left; omega
        · exact .inr (.inr h)
    show xs.foldl max x ∈ _
    rcases key xs x with h | h
    · rw [h]; simp
    · simp [h]
def onceF : Option Pt → List Pt → List Pt
  | _, [] => []
  | l, p :: r => if l = some p then onceF (some p) r else p :: onceF (some p) r
def onceL (row : List Pt) : List Pt := onceF none row
theorem onceF_app (q p : Pt) : ∀ (l : Option Pt) (xs : List Pt), onceF l (xs ++ [q, p]) = onceF l (xs ++ [q]) ++ (if q = p then [] else [p])
  | l, [] => by
    simp only [List.nil_append, onceF]
    by_cases h : q = p
    · subst h; simp
    · have h' : ¬ some q = some p := fun z => h (Option.some.inj z)
      rw [if_neg h', if_neg h]
      by_cases hl : l = some q <;> simp [hl]
  | l, x :: xs => by
    simp only [List.cons_append, onceF]
    rw [onceF_app q p (some x) xs]
    split <;> simp
theorem once_mem : ∀ {row : List Pt} {l : Option Pt} {p : Pt}, p ∈ row → p ∈ onceF l row ∨ l = some p
  | x :: r, l, p, h => by
    simp only [onceF]
    rcases List.mem_cons.mp h with rfl | h
    · by_cases z : l = some p
      · exact .inr z
      · rw [if_neg z]; exact .inl (by simp)
    · have := once_mem (l := some x) h
      split
      · rename_i z
        rcases this with w | w
        · exact .inl w
        · exact .inr (by rw [z, w])
      · rcases this with w | w
        · exact .inl (by simp [w])
        · exact .inl (by rw [Option.some.inj w]; simp)
theorem once_sub : ∀ {row : List Pt} {l : Option Pt} {p : Pt}, p ∈ onceF l row → p ∈ row
  | x :: r, l, p, h => by
    simp only [onceF] at h
    split at h
    · exact List.mem_cons_of_mem _ (once_sub h)
    · rcases List.mem_cons.mp h with rfl | h
      · simp
      · exact List.mem_cons_of_mem _ (once_sub h)
theorem once_srt : ∀ {row : List Pt} {l : Option Pt}, row.Pairwise (fun a b => leP a b = true) → (∀ q, l = some q → ∀ p ∈ row, leP q p = true) → Srt Pt.lt (onceF l row) ∧ ∀ q, l = some q → ∀ p ∈ onceF l row, Pt.lt q p = true
  | [], l, _, _ => ⟨List.Pairwise.nil, fun _ _ p h => by cases h⟩
  | x :: r, l, hp, hl => by
    have hp' := List.pairwise_cons.mp hp
    obtain ⟨i1, i2⟩ := once_srt (row := r) (l := some x) hp'.2 (fun q e p h => by cases e; exact hp'.1 p h)
    simp only [onceF]
    have up : ∀ q, l = some q → q ≠ x → Pt.lt q x = true := fun q e ne => by
      have := hl q e x (by simp)
      unfold leP at this
      rw [Bool.not_eq_true'] at this
      rcases Pt.ori.tot q x with w | w | w
      · exact w
      · exact absurd w ne
      · rw [w] at this; cases this
    split
    · rename_i z
      refine ⟨i1, fun q e p h => ?_⟩
      obtain rfl : x = q := Option.some.inj (z.symm.trans e)
      exact i2 x rfl p h
    · rename_i z
      refine ⟨List.pairwise_cons.mpr ⟨fun p h => i2 x rfl p h, i1⟩, fun q e p h => ?_⟩
      have qx := up q e fun w => z (by rw [e, w])
      rcases List.mem_cons.mp h with rfl | h
      · exact qx
      · exact Pt.tr' qx (i2 x rfl p h)
theorem srt_uniq : ∀ {xs ys : List Pt}, Srt Pt.lt xs → Srt Pt.lt ys → (∀ p, p ∈ xs ↔ p ∈ ys) → xs = ys
  | [], [], _, _, _ => rfl
  | [], y :: ys, _, _, h => absurd ((h y).mpr (by simp)) (by simp)
  | x :: xs, [], _, _, h => absurd ((h x).mp (by simp)) (by simp)
  | x :: xs, y :: ys, h1, h2, h => by
    have p1 := List.pairwise_cons.mp h1
    have p2 := List.pairwise_cons.mp h2
    have e : x = y := by
      rcases List.mem_cons.mp ((h x).mp (by simp)) with w | w
      · exact w
      · rcases List.mem_cons.mp ((h y).mpr (by simp)) with w' | w'
        · exact w'.symm
        · exact absurd (Pt.tr' (p1.1 y w') (p2.1 x w)) (Pt.ori.ir x)
    subst e
    rw [srt_uniq p1.2 p2.2 fun p => ?_]
    have hp := h p
    simp only [List.mem_cons] at hp
    constructor
    · intro m
      rcases hp.mp (.inr m) with w | w
      · subst w; exact absurd (p1.1 _ m) (Pt.ori.ir _)
      · exact w
    · intro m
      rcases hp.mpr (.inr m) with w | w
      · subst w; exact absurd (p2.1 _ m) (Pt.ori.ir _)
      · exact w
theorem once_mem_iff {ps : List Pt} {p : Pt} : p ∈ onceL (ascL ps) ↔ p ∈ ps := by
  refine ⟨fun h => asc_mem.mp (once_sub h), fun h => ?_⟩
  rcases once_mem (l := none) (asc_mem.mpr h) with w | w
  · exact w
  · cases w
end PH

namespace PH
open PySem PySem.Spec L2
theorem once_eq (ps : List Pt) : onceL (ascL ps) = ordT Pt.lt ps :=
  srt_uniq (once_srt (asc_srt ps) fun q e => by cases e).1 (pord_srt ps) fun p => by rw [once_mem_iff, pord_mem]
def PsS (b : Bool) (n : Nat) (ds : List D) (ps : List Pt) : Prop := ds = [seqD b (ps.map pD)] ∧ (∃ k, k ≤ 1000 ∧ ∀ p ∈ ps, PB k p) ∧ ps.length ≤ n
def fineP (ps : List Pt) : Int := maxI 1 (ps.map Pt.d) * maxI 1 (ps.map Pt.d)
def spKey : DSp := fun ds Q => ∃ (p : Pt) (f : Int) (k : Nat), ds = [pD p, .int f] ∧ PB k p ∧ Bd (2 * k + 2) f ∧ k ≤ 1000 ∧ Q (keyP f (pD p))
def spAsc : DSp := fun ds Q => ∃ (b : Bool) (ps : List Pt), PsS b 1000 ds ps ∧ Q (.list ((ascL ps).map pD))
def spLeft : DSp := fun ds Q => ∃ ps : List Pt, PsOk 1000 ds ps ∧ Q (.list ((chainL Pt.o ps).map pD))
def spHullX : DSpX := fun ds Q Ed => (∃ (b : Bool) (ps : List Pt), PsS b 1000 ds ps ∧ ps ≠ [] ∧ Q (.tuple ((hullP ps).map pD))) ∨ ((∃ b, ds = [seqD b []]) ∧ Ed "NoPlaces")
theorem fine_bd {k : Nat} {ps : List Pt} (h : ∀ p ∈ ps, PB k p) : Bd (k + 1) (maxI 1 (ps.map Pt.d)) := by
  by_cases e : ps = []
  · subst e
    exact (show Bd 1 (maxI 1 []) from ⟨by decide⟩).mono (by omega)
  · have := maxI_mem (d := 1) (ns := ps.map Pt.d) (by simpa using e)
    obtain ⟨p, hp, e2⟩ := List.mem_map.mp this
    rw [← e2]
    exact (h p hp).2.2.mono (by omega)
theorem fine_ge {ps : List Pt} : ∀ p ∈ ps, p.d ≤ maxI 1 (ps.map Pt.d) := fun p hp => maxI_ge (List.mem_map_of_mem hp)
theorem asc_key {ps : List Pt} : (ps.map pD).mergeSort (PySem.W.dataLe false (keyP (fineP ps))) = (ascL ps).map pD := asc_data fine_ge
theorem dItS_m {b : Bool} {m : DE} {σd : DSt} {xs : List D} {R : List D → Prop} (hm : ∀ Q : D → Prop, Q (seqD b xs) → m σd Q) (h : R xs) : dItS m σd R := by
  cases b with
  | true => exact .inl (hm _ h)
  | false => exact .inr (hm _ h)
theorem keys_ok {f : Int} (ps : List Pt) : PySem.W.AllAlike ((ps.map pD).map (keyP f)) ∧ PySem.W.Sortable ((ps.map pD).map (keyP f)) ∧ ∀ x ∈ ps.map pD, noS (keyP f x) = true ∧ (keyP f x).depth ≤ 60 := by
  refine ⟨?_, .inl ?_, ?_⟩
  · rintro d hd d' hd'
    simp only [List.map_map, List.mem_map, Function.comp] at hd hd'
    obtain ⟨p, _, rfl⟩ := hd
    obtain ⟨q, _, rfl⟩ := hd'
    simp [keyP, PySem.W.alike, PySem.W.alikeAll]
  · rintro d hd
    simp only [List.map_map, List.mem_map, Function.comp] at hd
    obtain ⟨p, _, rfl⟩ := hd
    exact ⟨_, _, rfl⟩
  · rintro d hd
    obtain ⟨p, _, rfl⟩ := List.mem_map.mp hd
    simp [keyP, noS, noSs, PyData.depth, PyData.depthAll]
theorem dSort_seq {b : Bool} {m me : DE} {js : List Nat} {σd : DSt} {es : List D} {Q : List D → Prop} (hm : ∀ R : D → Prop, R (seqD b es) → m σd R) (h : sKey js me σd es Q) : dSortK m js me σd Q := hm _ (by cases b <;> exact h)
def newAt (R : List Pt) (i : Nat) (x : Pt) : Prop := i = 0 ∨ R[i - 1]? ≠ some x
theorem once_step {R : List Pt} {i : Nat} {x : Pt} (h : R[i]? = some x) : (newAt R i x → onceL (R.take (i + 1)) = onceL (R.take i) ++ [x]) ∧ (¬ newAt R i x → onceL (R.take (i + 1)) = onceL (R.take i)) := by
  have hi : i < R.length := (List.getElem?_eq_some_iff.mp h).1
  have e1 : R.take (i + 1) = R.take i ++ [x] := by rw [List.take_add_one, h]; rfl
  cases i with
  | zero =>
    rw [e1]
    refine ⟨fun _ => by simp [onceL, onceF], fun n => absurd (.inl rfl) n⟩
  | succ j =>
    have hj : R[j]? = some R[j] := List.getElem?_eq_getElem (by omega)
    have e2 : R.take (j + 1) = R.take j ++ [R[j]] := by rw [List.take_add_one, hj]; rfl
    have e3 : R.take (j + 1 + 1) = R.take j ++ [R[j], x] := by rw [e1, e2, List.append_assoc]; rfl
    rw [e3, e2]
    have := onceF_app R[j] x none (R.take j)
    unfold onceL
    rw [this]
    unfold newAt
    rw [show j + 1 - 1 = j from rfl, hj]
    refine ⟨fun n => ?_, fun n => ?_⟩
    · rw [if_neg]
      rcases n with n | n
      · omega
      · exact fun z => n (by rw [z])
    · rw [if_pos, List.append_nil]
      by_cases z : R[j] = x
      · exact z
      · exact absurd (.inr fun w => z (Option.some.inj w)) n
theorem dLcc_once {mi : DA} {g : DG} {mt : DT} {me : DE} {vs : List Nat} {σd : DSt} {Q : List D → Prop} (R : List Pt) (hi : ∀ P : List D → Prop, P (enumD (R.map pD)) → mi σd P) (hl : R.length ≤ 1000000)
    (h : ∀ (i : Nat) (x : Pt), R[i]? = some x → ∀ (Q1 : D → Prop) (Q0 : Prop), (newAt R i x → Q1 (pD x)) → (¬ newAt R i x → Q0) → g (.tuple [.int (i : Int), pD x]) (dwipe (clean σd) vs) fun σ2 => mt σ2 fun b => if b = true then me σ2 Q1 else Q0)
    (hq : Q ((onceL R).map pD)) : dLcc mi g mt me vs σd Q := by
  refine hi _ ⟨by rw [enumD_len, List.length_map]; exact hl, fun i acc => acc = (onceL (R.take i)).map pD, by simp [onceL, onceF], fun i y acc hy _ w => ?_, fun acc w => ?_⟩
  · have hi : i < R.length := by
      have := (List.getElem?_eq_some_iff.mp hy).1
      rwa [enumD_len, List.length_map] at this
    have hx : R[i]? = some R[i] := List.getElem?_eq_getElem hi
    have hy' := enumD_get (xs := R.map pD) (i := i) (x := pD R[i]) (by rw [List.getElem?_map, hx]; rfl)
    rw [hy] at hy'
    cases hy'
    obtain ⟨s1, s2⟩ := once_step hx
    subst w
    refine h i R[i] hx _ _ (fun n => ?_) (fun n => ?_)
    · show (onceL (R.take i)).map pD ++ [pD R[i]] = (onceL (R.take (i + 1))).map pD
      rw [s1 n, List.map_append]; rfl
    · show (onceL (R.take i)).map pD = (onceL (R.take (i + 1))).map pD
      rw [s2 n]
  · rw [enumD_len, List.length_map, List.take_length] at w
    rw [w]; exact hq
def spAny : DSp := fun ds Q => ∃ (b : Bool) (xs : List D), ds = [SRC, seqD b xs] ∧ xs.length ≤ 1000 ∧ ∀ ys : List D, ys.Perm xs → Q (.list ys)
theorem erase_perm : ∀ {rest : List D} {n : Nat} {d : D}, rest[n]? = some d → (d :: rest.eraseIdx n).Perm rest
  | x :: r, 0, d, h => by
    simp at h; subst h
    exact List.Perm.refl _
  | x :: r, n + 1, d, h => by
    have := erase_perm (rest := r) (n := n) (by simpa using h)
    exact (List.Perm.swap x d (r.eraseIdx n)).trans (this.cons x)
theorem any_step {xs acc rest : List D} {n : Nat} {d : D} (h : (acc ++ rest).Perm xs) (hd : rest[n]? = some d) : ((acc ++ [d]) ++ rest.eraseIdx n).Perm xs := by
  have p := erase_perm hd
  rw [List.append_assoc]
  exact ((p.append_left acc)).trans h
end PH

namespace PH
open PySem PySem.Spec L2
open PyProof.Rows (envOfC AllBare IntsAre)
section
variable {X : Cx} {Wx : WX}
end
end PH

namespace PH
section
variable {α : Type}
structure Up (R : α → α → Prop) (o : α → α → α → Int) (S : α → Prop) (c : List α) : Prop where
  sub : ∀ x ∈ c, S x
  asc : c.Pairwise R
  left : ∀ u v, (u, v) ∈ nx c → ∀ q, S q → 0 ≤ o u v q
  conv : ∀ a b d, [a, b, d] <:+: c → 0 < o a b d
  top : ∀ q, S q → ∃ m, c.getLast? = some m ∧ (q = m ∨ R q m)
variable {R : α → α → Prop} {o : α → α → α → Int} {S : α → Prop}
theorem Up.tail {a b : α} {r : List α} (U : Up R o S (a :: b :: r)) : Up R o S (b :: r) :=
  ⟨fun x hx => U.sub x (List.mem_cons_of_mem _ hx), (List.pairwise_cons.mp U.asc).2, fun u v h => U.left u v (by rw [nx_cons]; exact List.mem_cons_of_mem _ h), fun x y d h => U.conv x y d (h.trans (List.infix_cons (List.infix_refl _))), fun q hq => by
    obtain ⟨m, h1, h2⟩ := U.top q hq
    rw [List.getLast?_cons_cons] at h1
    exact ⟨m, h1, h2⟩⟩
theorem ray_no (O : Ori R o) {a b p n : α} (ab : R a b) (bp : R b p) (bn : R b n) (h0 : o a b p = 0) (hn : 0 < o a b n) (hl : 0 ≤ o b n p) : False := by
  rcases O.tot n p with np | rfl | pn
  · obtain ⟨s1, s2, s3, s4, s5, s6, p1, p2, p3, p4, p5, p6, i1, i2, i3, i4⟩ := O.four ab bn np
    -- a < b < n < p
    have w1 := Int.mul_pos hn p5
    have w2 := Int.mul_nonneg hl (show (0 : Int) ≤ s1 by omega)
    rw [h0, Int.zero_mul] at i3
    omega
  · omega
  · obtain ⟨s1, s2, s3, s4, s5, s6, p1, p2, p3, p4, p5, p6, i1, i2, i3, i4⟩ := O.four ab bp pn
    -- a < b < p < n
    have hs : o b n p = -o b p n := O.sw b p n
    have w1 := Int.mul_pos hn p4
    have w2 := Int.mul_nonneg (show 0 ≤ -o b p n by omega) (show (0 : Int) ≤ s1 by omega)
    rw [h0, Int.zero_mul, Int.add_zero] at i3
    rw [Int.neg_mul] at w2
    omega
theorem up_uniq (O : Ori R o) : ∀ (a : α) (r1 r2 : List α), Up R o S (a :: r1) → Up R o S (a :: r2) → r1 = r2
  | a, [], [], _, _ => rfl
  | a, [], b :: r, U1, U2 => by
    exfalso
    have ab := (List.pairwise_cons.mp U2.asc).1 b (by simp)
    obtain ⟨m, h1, h2⟩ := U1.top b (U2.sub b (by simp))
    simp at h1; subst h1
    rcases h2 with rfl | h2
    · exact O.ir _ ab
    · exact O.ir _ (O.tr ab h2)
  | a, b :: r, [], U1, U2 => by
    exfalso
    have ab := (List.pairwise_cons.mp U1.asc).1 b (by simp)
    obtain ⟨m, h1, h2⟩ := U2.top b (U1.sub b (by simp))
    simp at h1; subst h1
    rcases h2 with rfl | h2
    · exact O.ir _ ab
    · exact O.ir _ (O.tr ab h2)
  | a, b1 :: r1, b2 :: r2, U1, U2 => by
    have key : ∀ {b1 b2 : α} {r1 r2 : List α}, Up R o S (a :: b1 :: r1) → Up R o S (a :: b2 :: r2) → ¬ R b1 b2 := by
      intro b1 b2 r1 r2 U1 U2 h
      have ab := (List.pairwise_cons.mp U1.asc).1 b1 (by simp)
      have l1 := U1.left a b1 (by rw [nx_cons]; simp) b2 (U2.sub b2 (by simp))
      have l2 := U2.left a b2 (by rw [nx_cons]; simp) b1 (U1.sub b1 (by simp))
      rw [O.sw] at l2
      have h0 : o a b1 b2 = 0 := by omega
      cases r1 with
      | nil =>
        obtain ⟨m, h1, h2⟩ := U1.top b2 (U2.sub b2 (by simp))
        simp at h1; subst h1
        rcases h2 with rfl | h2
        · exact O.ir _ h
        · exact O.ir _ (O.tr h h2)
      | cons n r1 =>
        have bn := (List.pairwise_cons.mp (List.pairwise_cons.mp U1.asc).2).1 n (by simp)
        have hn := U1.conv a b1 n ⟨[], r1, by simp⟩
        have hl := U1.left b1 n (by rw [nx_cons, nx_cons]; simp) b2 (U2.sub b2 (by simp))
        exact ray_no O ab h bn h0 hn hl
    have e : b1 = b2 := by
      rcases O.tot b1 b2 with h | h | h
      · exact absurd h (key U1 U2)
      · exact h
      · exact absurd h (key U2 U1)
    subst e
    rw [up_uniq O b1 r1 r2 U1.tail U2.tail]
theorem up_of (O : Ori R o) {ps : List α} (h : ps ≠ []) (hp : ps.Pairwise R) : Up R o (· ∈ ps) (chainL o ps) := by
  obtain ⟨C, h1, h2⟩ := chain_ok O ps h hp
  unfold chainL
  refine ⟨fun x hx => C.mem x (List.mem_reverse.mp hx), List.pairwise_reverse.mpr C.des, fun u v hu q hq => C.left u v ((nx_rev (o := o) _ u v).mp hu) q hq, fun a b d hi => C.conv d b a ?_, fun q hq => ?_⟩
  · have := List.reverse_infix.mpr hi
    simpa using this
  · rw [List.getLast?_reverse, h1]
    obtain ⟨ys, m, rfl⟩ : ∃ ys m, ps = ys ++ [m] := ⟨ps.dropLast, ps.getLast h, (List.dropLast_concat_getLast h).symm⟩
    refine ⟨m, by simp, ?_⟩
    rcases List.mem_append.mp hq with y | y
    · exact .inr ((List.pairwise_append.mp hp).2.2 q y m (by simp))
    · exact .inl (by simpa using y)
theorem chain_uniq (O : Ori R o) {ps c : List α} (hp : ps.Pairwise R) (U : Up R o (· ∈ ps) c) (hh : c.head? = ps.head?) : chainL o ps = c := by
  cases c with
  | nil =>
    cases ps with
    | nil => rfl
    | cons p r => simp at hh
  | cons a r =>
    have hne : ps ≠ [] := fun z => by rw [z] at hh; simp at hh
    have V := up_of O hne hp
    obtain ⟨C, h1, h2⟩ := chain_ok O ps hne hp
    have h3 : (chainL o ps).head? = some a := by
      unfold chainL
      rw [List.head?_reverse, h2, ← hh]; rfl
    cases e : chainL o ps with
    | nil => rw [e] at h3; simp at h3
    | cons b s =>
      rw [e] at h3 V
      simp at h3
      subst h3
      rw [up_uniq O b s r V U]
end
end PH

namespace PH
section
variable {α : Type} {R : α → α → Prop} {o : α → α → α → Int}
theorem head_low (O : Ori R o) {qs : List α} (hq : qs.Pairwise R) {m : α} (hm : m ∈ qs) (low : ∀ q ∈ qs, q = m ∨ R m q) : qs.head? = some m := by
  cases qs with
  | nil => cases hm
  | cons a r =>
    rcases List.mem_cons.mp hm with rfl | h
    · rfl
    · have h1 := (List.pairwise_cons.mp hq).1 m h
      rcases low a (by simp) with rfl | h2
      · rfl
      · exact absurd (O.tr h1 h2) (O.ir a)
theorem chain_ends (O : Ori R o) {ps : List α} (h : ps ≠ []) (hp : ps.Pairwise R) : (chainL o ps).head? = ps.head? ∧ (chainL o ps).getLast? = ps.getLast? := by
  obtain ⟨C, h1, h2⟩ := chain_ok O ps h hp
  unfold chainL
  exact ⟨by rw [List.head?_reverse, h2], by rw [List.getLast?_reverse, h1]⟩
theorem chain_same (O : Ori R o) {ps qs : List α} (h : ps ≠ []) (hp : ps.Pairwise R) (hq : qs.Pairwise R) (sub : ∀ x ∈ chainL o ps, x ∈ qs) (left : ∀ u v, (u, v) ∈ nx (chainL o ps) → ∀ q ∈ qs, 0 ≤ o u v q)
    (low : ∀ m, ps.head? = some m → ∀ q ∈ qs, q = m ∨ R m q) (top : ∀ m, ps.getLast? = some m → ∀ q ∈ qs, q = m ∨ R q m) : chainL o qs = chainL o ps := by
  have U := up_of O h hp
  obtain ⟨e1, e2⟩ := chain_ends O h hp
  obtain ⟨m, hm⟩ : ∃ m, ps.head? = some m := by cases ps with | nil => exact absurd rfl h | cons a b => exact ⟨a, rfl⟩
  obtain ⟨M, hM⟩ : ∃ m, ps.getLast? = some m := ⟨_, List.getLast?_eq_getLast h⟩
  refine chain_uniq O hq ⟨sub, U.asc, left, U.conv, fun q hq' => ⟨M, by rw [e2, hM], top M hM q hq'⟩⟩ ?_
  rw [e1, hm]
  exact (head_low O hq (sub m (List.mem_of_head? (by rw [e1, hm]))) (low m hm)).symm
structure Both (R : α → α → Prop) (o : α → α → α → Int) (ps qs : List α) : Prop where
  sub : ∀ x, (x ∈ chainL o ps ∨ x ∈ chainL o ps.reverse) → x ∈ qs
  left : ∀ u v, ((u, v) ∈ nx (chainL o ps) ∨ (u, v) ∈ nx (chainL o ps.reverse)) → ∀ q ∈ qs, 0 ≤ o u v q
  low : ∀ m, ps.head? = some m → ∀ q ∈ qs, q = m ∨ R m q
  top : ∀ m, ps.getLast? = some m → ∀ q ∈ qs, q = m ∨ R q m
theorem hull_same (O : Ori R o) {ps qs : List α} (h : ps ≠ []) (hp : ps.Pairwise R) (hq : qs.Pairwise R) (B : Both R o ps qs) : hullL o qs = hullL o ps := by
  have e1 := chain_same O h hp hq (fun x hx => B.sub x (.inl hx)) (fun u v hu => B.left u v (.inl hu)) B.low B.top
  have e2 := chain_same (R := fun a b => R b a) (ps := ps.reverse) (qs := qs.reverse) O.flip (fun z => h (List.reverse_eq_nil_iff.mp z)) (List.pairwise_reverse.mpr hp) (List.pairwise_reverse.mpr hq)
    (fun x hx => List.mem_reverse.mpr (B.sub x (.inr hx))) (fun u v hu q hq' => B.left u v (.inr hu) q (List.mem_reverse.mp hq'))
    (fun m hm q hq' => B.top m (by rwa [List.head?_reverse] at hm) q (List.mem_reverse.mp hq')) (fun m hm q hq' => B.low m (by rwa [List.getLast?_reverse] at hm) q (List.mem_reverse.mp hq'))
  unfold hullL
  rw [e1, e2]
theorem chain_in_hull (O : Ori R o) {ps : List α} (hl : 2 ≤ ps.length) (hp : ps.Pairwise R) {x : α} (hx : x ∈ chainL o ps ∨ x ∈ chainL o ps.reverse) : x ∈ hullL o ps := by
  have ne : ps ≠ [] := fun z => by rw [z] at hl; simp at hl
  have ne' : ps.reverse ≠ [] := fun z => ne (List.reverse_eq_nil_iff.mp z)
  obtain ⟨a1, a2⟩ := chain_ends O ne hp
  obtain ⟨b1, b2⟩ := chain_ends O.flip ne' (List.pairwise_reverse.mpr hp)
  rw [List.head?_reverse] at b1
  rw [List.getLast?_reverse] at b2
  -- first and last one differ, so that both chains have two at least
  have hne : ps.head? ≠ ps.getLast? := by
    match ps, hl, hp with
    | p :: q :: r, _, hp =>
      intro z
      rw [List.getLast?_cons_cons] at z
      simp only [List.head?_cons] at z
      have := (List.pairwise_cons.mp hp).1 p (List.mem_of_getLast? z.symm)
      exact O.ir _ this
  have two : ∀ c : List α, c.head? ≠ c.getLast? → ∀ x ∈ c, x ∈ c.dropLast ∨ c.getLast? = some x := fun c _ x hx => by
    by_cases z : c = []
    · rw [z] at hx; cases hx
    · have e := List.dropLast_concat_getLast z
      rw [← e] at hx
      rcases List.mem_append.mp hx with y | y
      · exact .inl y
      · right
        rw [List.getLast?_eq_getLast z]
        simp at y
        rw [y]
  have hd : ∀ c : List α, c.head? ≠ c.getLast? → ∀ x, c.head? = some x → x ∈ c.dropLast := fun c hc x hx => by
    match c, hc, hx with
    | [a], hc, _ => exact absurd rfl hc
    | a :: b :: r, _, hx =>
      simp at hx; subst hx
      simp [List.dropLast]
  have n1 : (chainL o ps).head? ≠ (chainL o ps).getLast? := by rw [a1, a2]; exact hne
  have n2 : (chainL o ps.reverse).head? ≠ (chainL o ps.reverse).getLast? := by rw [b1, b2]; exact fun z => hne z.symm
  unfold hullL
  rw [List.mem_append]
  rcases hx with hx | hx
  · rcases two _ n1 x hx with y | y
    · exact .inl y
    · exact .inr (hd _ n2 x (by rw [b1, ← a2]; exact y))
  · rcases two _ n2 x hx with y | y
    · exact .inr y
    · exact .inl (hd _ n1 x (by rw [a1, ← b2]; exact y))
theorem nx_dropLast {c : List α} {M : α} (h : c.getLast? = some M) : c = c.dropLast ++ [M] := by
  have z : c ≠ [] := fun w => by rw [w] at h; simp at h
  rw [List.getLast?_eq_getLast z] at h
  rw [← Option.some.inj h]
  exact (List.dropLast_concat_getLast z).symm
theorem sides_hull (O : Ori R o) {ps : List α} (hl : 2 ≤ ps.length) (hp : ps.Pairwise R) {u v : α} (h : (u, v) ∈ nx (chainL o ps) ∨ (u, v) ∈ nx (chainL o ps.reverse)) : (u, v) ∈ nx (hullL o ps ++ (hullL o ps).take 1) := by
  have ne : ps ≠ [] := fun z => by rw [z] at hl; simp at hl
  have ne' : ps.reverse ≠ [] := fun z => ne (List.reverse_eq_nil_iff.mp z)
  obtain ⟨a1, a2⟩ := chain_ends O ne hp
  obtain ⟨b1, b2⟩ := chain_ends O.flip ne' (List.pairwise_reverse.mpr hp)
  rw [List.head?_reverse] at b1
  rw [List.getLast?_reverse] at b2
  obtain ⟨m, hm⟩ : ∃ m, ps.head? = some m := by cases ps with | nil => exact absurd rfl ne | cons a b => exact ⟨a, rfl⟩
  obtain ⟨M, hM⟩ : ∃ m, ps.getLast? = some m := ⟨_, List.getLast?_eq_getLast ne⟩
  rw [hm] at a1 b2; rw [hM] at a2 b1
  have e1 := nx_dropLast a2
  have e2 := nx_dropLast b2
  have mi : ∀ x, (x ∈ chainL o ps ∨ x ∈ chainL o ps.reverse) → x ∈ hullL o ps := fun x hx => chain_in_hull O hl hp hx
  have hne : m ≠ M := fun z => by
    match ps, hl, hp, hm, hM with
    | p :: q :: r, _, hp, hm, hM =>
      rw [List.getLast?_cons_cons] at hM
      simp at hm
      have := (List.pairwise_cons.mp hp).1 M (List.mem_of_getLast? hM)
      rw [hm, z] at this
      exact O.ir _ this
  unfold hullL
  generalize hL : (chainL o ps).dropLast = L at e1
  generalize hU : (chainL o ps.reverse).dropLast = U at e2
  rw [e1] at a1; rw [e2] at b1
  obtain ⟨L', rfl⟩ : ∃ L', L = m :: L' := by
    cases L with
    | nil => simp at a1; exact absurd a1.symm hne
    | cons a L' => simp at a1; exact ⟨L', by rw [a1]⟩
  obtain ⟨U', rfl⟩ : ∃ U', U = M :: U' := by
    cases U with
    | nil => simp at b1; exact absurd b1 hne
    | cons a U' => simp at b1; exact ⟨U', by rw [b1]⟩
  have et : ((m :: L') ++ (M :: U')).take 1 = [m] := by simp
  rw [et, List.append_assoc]
  have ex : nx ((m :: L') ++ ((M :: U') ++ [m])) = nx ((m :: L') ++ [M]) ++ nx ((M :: U') ++ [m]) := by
    have := nx_app (m :: L') M (U' ++ [m])
    simpa using this
  rw [ex, List.mem_append, ← e1, ← e2]
  exact h
end
end PH

namespace PH
section
variable {α : Type} {R : α → α → Prop} {o : α → α → α → Int}
end
theorem ordT_same {ps qs : List Pt} (h : ∀ p, p ∈ ps ↔ p ∈ qs) : ordT Pt.lt ps = ordT Pt.lt qs :=
  srt_uniq (pord_srt ps) (pord_srt qs) fun p => by rw [pord_mem, pord_mem, h]
theorem hullP_same {ps qs : List Pt} (h : ∀ p, p ∈ ps ↔ p ∈ qs) : hullP ps = hullP qs := by unfold hullP; rw [ordT_same h]
theorem ne_two {xs : List Pt} {a b : Pt} (ha : a ∈ xs) (hb : b ∈ xs) (h : a ≠ b) : 2 ≤ xs.length := by
  match xs, ha, hb with
  | [x], ha, hb => simp at ha hb; exact absurd (ha.trans hb.symm) h
  | x :: y :: r, _, _ => simp
theorem low_of {E : List Pt} (hp : E.Pairwise fun p q => Pt.lt p q = true) {m q : Pt} (hm : E.head? = some m) (hq : q ∈ E) : q = m ∨ Pt.lt m q = true := by
  cases E with
  | nil => cases hq
  | cons a r =>
    simp at hm; subst hm
    rcases List.mem_cons.mp hq with h | h
    · exact .inl h
    · exact .inr ((List.pairwise_cons.mp hp).1 q h)
theorem top_of {E : List Pt} (hp : E.Pairwise fun p q => Pt.lt p q = true) {m q : Pt} (hm : E.getLast? = some m) (hq : q ∈ E) : q = m ∨ Pt.lt q m = true := by
  have z : E ≠ [] := fun w => by rw [w] at hm; simp at hm
  have e := List.dropLast_concat_getLast z
  rw [List.getLast?_eq_getLast z] at hm
  have e' := Option.some.inj hm
  rw [e'] at e
  rw [← e] at hp hq
  rcases List.mem_append.mp hq with y | y
  · exact .inr ((List.pairwise_append.mp hp).2.2 q y m (by simp))
  · exact .inl (by simpa using y)
theorem hull_more {ps qs : List Pt} (hl : 2 ≤ (ordT Pt.lt ps).length) (sub : ∀ x ∈ hullP ps, x ∈ qs) (left : ∀ u v, (u, v) ∈ nx (hullP ps ++ (hullP ps).take 1) → ∀ q ∈ qs, 0 ≤ Pt.o u v q)
    (low : ∀ m, (ordT Pt.lt ps).head? = some m → ∀ q ∈ qs, q = m ∨ Pt.lt m q = true) (top : ∀ m, (ordT Pt.lt ps).getLast? = some m → ∀ q ∈ qs, q = m ∨ Pt.lt q m = true) : hullP qs = hullP ps := by
  have hp := pord_srt ps
  have ne : ordT Pt.lt ps ≠ [] := fun z => by rw [z] at hl; simp at hl
  have eP : hullP ps = hullL Pt.o (ordT Pt.lt ps) := by unfold hullP; rw [if_neg (by omega)]
  rw [eP] at sub left
  have S := hull_same Pt.ori ne hp (pord_srt qs) ⟨fun x hx => (pord_mem qs x).mpr (sub x (chain_in_hull Pt.ori hl hp hx)), fun u v h q hq => left u v (sides_hull Pt.ori hl hp h) q ((pord_mem qs q).mp hq),
    fun m hm q hq => low m hm q ((pord_mem qs q).mp hq), fun m hm q hq => top m hm q ((pord_mem qs q).mp hq)⟩
  have hH := hull_ok Pt.ori hl hp
  have st := hull_strict Pt.ori hl hp
  have two : 2 ≤ (ordT Pt.lt qs).length := by
    match e : hullL Pt.o (ordT Pt.lt ps), hH.len, st.nd with
    | a :: b :: r, _, nd =>
      rw [e] at sub
      refine ne_two ((pord_mem qs a).mpr (sub a (by simp))) ((pord_mem qs b).mpr (sub b (by simp))) fun z => ?_
      rw [z] at nd; simp at nd
  rw [eP]
  unfold hullP
  rw [if_neg (by omega)]
  exact S
theorem hull_left {ps : List Pt} (hl : 2 ≤ (ordT Pt.lt ps).length) : ∀ u v, (u, v) ∈ nx (hullP ps ++ (hullP ps).take 1) → ∀ q ∈ ps, 0 ≤ Pt.o u v q := by
  intro u v h q hq
  have eP : hullP ps = hullL Pt.o (ordT Pt.lt ps) := by unfold hullP; rw [if_neg (by omega)]
  have hH := hull_ok Pt.ori hl (pord_srt ps)
  rw [eP] at h
  cases e : hullL Pt.o (ordT Pt.lt ps) with
  | nil => have := hH.len; rw [e] at this; simp at this
  | cons m r =>
    refine hH.left m (by rw [e]; rfl) u v ?_ q ((pord_mem ps q).mpr hq)
    rw [e] at h ⊢
    simpa using h
theorem ord_one {ps : List Pt} (h : ps ≠ []) (hl : ¬ 2 ≤ (ordT Pt.lt ps).length) : ∃ a, hullP ps = [a] ∧ ∀ p, p ∈ ps ↔ p = a := by
  have m := pord_mem ps
  match e : ordT Pt.lt ps, hl with
  | [], _ =>
    exfalso
    obtain ⟨x, hx⟩ := List.exists_mem_of_ne_nil _ h
    have := (m x).mpr hx
    rw [e] at this; cases this
  | [a], _ =>
    refine ⟨a, by unfold hullP; rw [e]; rfl, fun p => ?_⟩
    rw [← m, e]; simp
  | a :: b :: r, hl => exact absurd (by simp) hl
theorem hull_hull {ps : List Pt} (h : ps ≠ []) : hullP (hullP ps) = hullP ps := by
  by_cases hl : 2 ≤ (ordT Pt.lt ps).length
  · have sub := (plate_ok h).2.1
    have hp := pord_srt ps
    exact hull_more hl (fun x hx => hx) (fun u v hu q hq => hull_left hl u v hu q (sub q hq)) (fun m hm q hq => low_of hp hm ((pord_mem ps q).mpr (sub q hq))) fun m hm q hq => top_of hp hm ((pord_mem ps q).mpr (sub q hq))
  · obtain ⟨a, e, _⟩ := ord_one h hl
    rw [e]; rfl
theorem lt_no {a p : Pt} (h : p = a ∨ Pt.lt a p = true) : Pt.lt p a = false := by
  cases z : Pt.lt p a with
  | false => rfl
  | true =>
    rcases h with rfl | h
    · exact absurd z (Pt.ori.ir _)
    · exact absurd (Pt.tr' h z) (Pt.ori.ir _)
end PH

namespace PH
open PySem PySem.Spec L2
theorem sh_ptsT (xs : List Pt) : SeqAt.shaped (.tuple (xs.map pD)) = true := by
  obtain ⟨h1, h2⟩ := lay_map pD lay_pt xs
  have e1 : (PyData.tuple (xs.map pD)).canLay0 = true := by simpa [PyData.canLay0] using h1
  have e2 : (PyData.tuple (xs.map pD)).depth ≤ 64 := by simp only [PyData.depth]; omega
  unfold SeqAt.shaped
  rw [e1, decide_eq_true e2]; rfl
theorem dFor_last {mi : DA} {g : DG} {mb : DS} {Dd : DEnds} {σd : DSt} (h : dSeq (dFor mi g mb) dNext Dd σd) : dFor mi g mb Dd σd := h
end PH

namespace PH
def lin (A B C : Int) (p : Pt) : Int := A * p.x + B * p.y + C * p.d
theorem lin_x {u v x : Pt} (h : Pt.o u v x = 0) (A B C : Int) : lin A B C x * Pt.sx u v = lin A B C u * Pt.sx x v + lin A B C v * Pt.sx u x := by
  unfold Pt.o detP at h
  unfold lin Pt.sx
  have e : x.y * (v.x * u.d - u.x * v.d) = u.y * (v.x * x.d - x.x * v.d) + v.y * (x.x * u.d - u.x * x.d) := by grind
  have e2 : B * (x.y * (v.x * u.d - u.x * v.d)) = B * (u.y * (v.x * x.d - x.x * v.d) + v.y * (x.x * u.d - u.x * x.d)) := by rw [e]
  grind
theorem lin_y {u v x : Pt} (h : Pt.o u v x = 0) (A B C : Int) : lin A B C x * Pt.sy u v = lin A B C u * Pt.sy x v + lin A B C v * Pt.sy u x := by
  unfold Pt.o detP at h
  unfold lin Pt.sy
  have e : x.x * (v.y * u.d - u.y * v.d) = u.x * (v.y * x.d - x.y * v.d) + v.x * (x.y * u.d - u.y * x.d) := by grind
  have e2 : A * (x.x * (v.y * u.d - u.y * v.d)) = A * (u.x * (v.y * x.d - x.y * v.d) + v.x * (x.y * u.d - u.y * x.d)) := by rw [e]
  grind
theorem sx_ge {p q : Pt} (h : Pt.lt p q = true) : 0 ≤ Pt.sx p q ∧ (Pt.sx p q = 0 → 0 < Pt.sy p q) := by
  rcases (Pt.lt_iff p q).mp h with z | ⟨z, y⟩
  · exact ⟨by omega, fun w => by omega⟩
  · exact ⟨by omega, fun _ => y⟩
theorem seg_lin {u x v : Pt} (h1 : Pt.lt u x = true) (h2 : Pt.lt x v = true) (h0 : Pt.o u v x = 0) : ∃ k α β : Int, 0 < k ∧ 0 < α ∧ 0 < β ∧ ∀ A B C, lin A B C x * k = lin A B C u * α + lin A B C v * β := by
  obtain ⟨a1, a2⟩ := sx_ge h1
  obtain ⟨b1, b2⟩ := sx_ge h2
  obtain ⟨c1, c2⟩ := sx_ge (Pt.tr' h1 h2)
  -- the lengths add up
  have ex := lin_x h0 0 0 1
  have ey := lin_y h0 0 0 1
  have e1 : ∀ p : Pt, lin 0 0 1 p = p.d := fun p => by unfold lin; omega
  rw [e1, e1, e1] at ex ey
  have pu := u.pos; have pv := v.pos; have px := x.pos
  by_cases z : Pt.sx u v = 0
  · -- one above another
    rw [z, Int.mul_zero] at ex
    have w1 := Int.mul_nonneg (show 0 ≤ u.d by omega) b1
    have w2 := Int.mul_nonneg (show 0 ≤ v.d by omega) a1
    have y1 : Pt.sx x v = 0 := by
      rcases Int.mul_eq_zero.mp (show u.d * Pt.sx x v = 0 by omega) with q | q
      · omega
      · exact q
    have y2 : Pt.sx u x = 0 := by
      rcases Int.mul_eq_zero.mp (show v.d * Pt.sx u x = 0 by omega) with q | q
      · omega
      · exact q
    exact ⟨Pt.sy u v, Pt.sy x v, Pt.sy u x, c2 z, b2 y1, a2 y2, lin_y h0⟩
  · have kp : 0 < Pt.sx u v := by omega
    refine ⟨Pt.sx u v, Pt.sx x v, Pt.sx u x, kp, ?_, ?_, lin_x h0⟩
    · rcases Int.lt_or_eq_of_le b1 with q | q
      · exact q
      · exfalso
        -- x and v above one another: then u too
        have hb := b2 q.symm
        have l2 := lin_x h0 0 1 0
        have e2 : ∀ p : Pt, lin 0 1 0 p = p.y := fun p => by unfold lin; omega
        rw [e2, e2, e2, ← q, Int.mul_zero, Int.zero_add] at l2
        rw [← q, Int.mul_zero, Int.zero_add] at ex
        -- x.d k = v.d s, x.y k = v.y s
        have : Pt.sy x v * Pt.sx u v = 0 := by
          unfold Pt.sy
          have g1 : (v.y * x.d - x.y * v.d) * Pt.sx u v = v.y * (x.d * Pt.sx u v) - v.d * (x.y * Pt.sx u v) := by grind
          rw [g1, ex, l2]
          grind
        rcases Int.mul_eq_zero.mp this with w | w <;> omega
    · rcases Int.lt_or_eq_of_le a1 with q | q
      · exact q
      · exfalso
        have ha := a2 q.symm
        have l2 := lin_x h0 0 1 0
        have e2 : ∀ p : Pt, lin 0 1 0 p = p.y := fun p => by unfold lin; omega
        rw [e2, e2, e2, ← q, Int.mul_zero, Int.add_zero] at l2
        rw [← q, Int.mul_zero, Int.add_zero] at ex
        have : Pt.sy u x * Pt.sx u v = 0 := by
          unfold Pt.sy
          have g1 : (x.y * u.d - u.y * x.d) * Pt.sx u v = u.d * (x.y * Pt.sx u v) - u.y * (x.d * Pt.sx u v) := by grind
          rw [g1, ex, l2]
          grind
        rcases Int.mul_eq_zero.mp this with w | w <;> omega
structure Poly (H : List Pt) : Prop where
  nd : H.Nodup
  len : 3 ≤ H.length
  pos : ∀ u v, (u, v) ∈ nx (H ++ H.take 1) → u ≠ v ∧ ∀ r ∈ H, r ≠ u → r ≠ v → 0 < Pt.o u v r
theorem hull_poly {ps : List Pt} (hl : 2 ≤ (ordT Pt.lt ps).length) (h3 : 3 ≤ (hullP ps).length) : Poly (hullP ps) := by
  have st := hull_strict Pt.ori hl (pord_srt ps)
  have eP : hullP ps = hullL Pt.o (ordT Pt.lt ps) := by unfold hullP; rw [if_neg (by omega)]
  rw [← eP] at st
  have ne : ps ≠ [] := fun z => by subst z; simp [ordT] at hl
  have sub := (plate_ok ne).2.1
  refine ⟨st.nd, h3, fun u v h => ⟨st.two u v h (by omega), fun r hr h1 h2 => ?_⟩⟩
  rcases Int.lt_or_eq_of_le (hull_left hl u v h r (sub r hr)) with w | w
  · exact w
  · exact ((st.st u v h (by omega) r hr w.symm).elim h1 h2).elim
end PH

namespace PH
theorem hull_two {u v : Pt} (h : u ≠ v) : hullP [u, v] = if Pt.lt u v = true then [u, v] else [v, u] := by
  have key : ∀ {a b : Pt}, Pt.lt a b = true → hullP [a, b] = [a, b] := fun {a b} h => by
    have nb : Pt.lt b a = false := lt_no (.inr h)
    have ne : b ≠ a := fun e => by subst e; exact Pt.ori.ir _ h
    have eo : ordT Pt.lt [a, b] = [a, b] := srt_uniq (pord_srt _) (List.pairwise_cons.mpr ⟨fun p hp => by simp at hp; subst hp; exact h, by simp⟩) fun p => by rw [pord_mem]
    unfold hullP
    rw [eo, if_neg (by simp)]
    rfl
  rcases Pt.ori.tot u v with w | w | w
  · rw [if_pos w]; exact key w
  · exact absurd w h
  · rw [if_neg (by rw [lt_no (.inr w)]; decide)]
    rw [← key w]
    exact hullP_same fun p => by simp [or_comm]
section
variable {α : Type}
end
def inB (H : List Pt) (x : Pt) : Bool := (nx (H ++ H.take 1)).all fun e => decide (0 < Pt.o e.1 e.2 x)
end PH

namespace PH
open PySem PySem.Spec L2
def PlateX (H : List Pt) : Prop := ∃ ps : List Pt, ps ≠ [] ∧ H = hullP ps
theorem PlateX.ok {H : List Pt} (h : PlateX H) : PlateOk H := by obtain ⟨ps, ne, rfl⟩ := h; exact (plate_ok ne).1
theorem PlateX.ne {H : List Pt} (h : PlateX H) : H ≠ [] := h.ok.ne
theorem PlateX.self {H : List Pt} (h : PlateX H) : hullP H = H := by obtain ⟨ps, ne, rfl⟩ := h; exact hull_hull ne
theorem PlateX.poly {H : List Pt} (h : PlateX H) (l : 3 ≤ H.length) : Poly H := by
  obtain ⟨ps, ne, rfl⟩ := h
  refine hull_poly ?_ l
  refine Classical.byContradiction fun n => ?_
  obtain ⟨a, e, _⟩ := ord_one ne n
  rw [e] at l; simp at l
theorem PlateX.two {a b : Pt} (h : PlateX [a, b]) : Pt.lt a b = true := h.ok.two
def spPlateW : DSp := fun ds Q => ∃ ps : List Pt, ds = [SRC, .list (ps.map pD)] ∧ ps ≠ [] ∧ ps.length ≤ 1000 ∧ (∀ p ∈ ps, PBd 24 2 p) ∧ ∀ H : List Pt, PlateX H → (∀ p ∈ H, PBd 24 2 p) → H.length ≤ 8 → Q (.tuple (H.map pD))
abbrev rowD (r : List Pt × Int) : D := .tuple [.tuple (r.1.map pD), .int r.2]
theorem all_map {α : Type} {t : α → Bool} {xs : List α} {Q : D → Prop} (h : Q (.bool (xs.all t))) : dAll [.list (xs.map fun x => PyData.bool (t x))] Q := by
  unfold dAll
  dsimp only
  rw [bools_map]
  dsimp only
  rw [List.all_map]
  exact h
theorem dIf_not {c : DT} {t e : DS} {Dd : DEnds} {σd : DSt} (hc : ∀ R : Bool → Prop, R false → c σd R) (he : e Dd σd) : dIf c t e Dd σd := hc _ (iteF he)
end PH

namespace PH
open PySem PySem.Spec L2
structure Okb (d : D) (b n : Nat) : Prop where
  tm : tame d
  bk : d.bulk ≤ b
  dp : d.depth ≤ n
  nd : d.hasDict = false
theorem okb_map {α : Type} (f : α → D) (b : α → Nat) (n : Nat) : ∀ xs : List α, (∀ x ∈ xs, Okb (f x) (b x) n) → tames (xs.map f) ∧ PyData.bulkAll (xs.map f) ≤ (xs.map fun x => b x + 1).sum ∧ PyData.depthAll (xs.map f) ≤ n ∧ PyData.hasDictAll (xs.map f) = false
  | [], _ => ⟨trivial, by simp [PyData.bulkAll], by simp [PyData.depthAll], by simp [PyData.hasDictAll]⟩
  | x :: xs, h => by
    obtain ⟨a1, a2, a3, a4⟩ := h x (by simp)
    obtain ⟨c1, c2, c3, c4⟩ := okb_map f b n xs fun y hy => h y (by simp [hy])
    refine ⟨?_, ?_, ?_, ?_⟩
    · simp only [List.map_cons, tames]; exact ⟨a1, c1⟩
    · simp only [List.map_cons, PyData.bulkAll, List.sum_cons]; omega
    · simp only [List.map_cons, PyData.depthAll]; omega
    · simp only [List.map_cons, PyData.hasDictAll, a4, c4, Bool.or_self]
theorem okb_pt {k : Nat} (hk : k ≤ 900) (p : Pt) (h : PB k p) : Okb (pD p) 6 5 := by
  obtain ⟨h1, _, h3, h4⟩ := ok_pt hk p h
  exact ⟨h1, by simp [PyData.bulk, PyData.bulkAll], h3, h4⟩
theorem sum_le {α : Type} (f : α → Nat) (c : Nat) : ∀ xs : List α, (∀ x ∈ xs, f x ≤ c) → (xs.map f).sum ≤ c * xs.length
  | [], _ => by simp
  | x :: xs, h => by
    have h1 := h x (by simp)
    have h2 := sum_le f c xs fun y hy => h y (by simp [hy])
    simp only [List.map_cons, List.sum_cons, List.length_cons, Nat.mul_add, Nat.mul_one]
    omega
theorem okb_row {k : Nat} (hk : k ≤ 900) (r : List Pt × Int) (h : ∀ p ∈ r.1, PB k p) (hr : Bd 900 r.2) : Okb (rowD r) (7 * r.1.length + 4) 9 := by
  obtain ⟨c1, c2, c3, c4⟩ := okb_map pD (fun _ => 6) 5 r.1 fun p hp => okb_pt hk p (h p hp)
  have s := sum_le (fun _ : Pt => 6 + 1) 7 r.1 fun _ _ => Nat.le_refl _
  refine ⟨?_, ?_, ?_, ?_⟩
  · exact ⟨c1, hr.h, trivial⟩
  · simp only [PyData.bulk, PyData.bulkAll]; omega
  · simp only [PyData.depth, PyData.depthAll]; omega
  · simp only [PyData.hasDict, PyData.hasDictAll, c4, Bool.or_self]
end PH

namespace PH
open PySem PySem.Spec L2
theorem tri_lin (A B C : Int) (a b c p : Pt) : lin A B C p * Pt.o a b c = lin A B C a * Pt.o b c p + lin A B C b * Pt.o c a p + lin A B C c * Pt.o a b p := by
  unfold lin Pt.o detP; grind
theorem MixOf.self {H : List Pt} {p : Pt} (h : p ∈ H) : MixOf H p := fun _ _ _ hc => hc p h
theorem MixOf.trans {G H : List Pt} {p : Pt} (h : MixOf G p) (hg : ∀ g ∈ G, MixOf H g) : MixOf H p := fun A B C hc => h A B C fun g gm => hg g gm A B C hc
theorem MixOf.sub {G H : List Pt} {p : Pt} (h : MixOf G p) (hg : ∀ g ∈ G, g ∈ H) : MixOf H p := h.trans fun g gm => .self (hg g gm)
theorem fan {A B C : Int} (g p : Pt) : ∀ (r : List Pt) (x : Pt), 0 ≤ Pt.o g x p → (r ≠ [] ∨ 0 < Pt.o g x p) → (∀ u v, (u, v) ∈ nx (x :: r ++ [g]) → 0 ≤ Pt.o u v p) →
    (∀ u v, (u, v) ∈ nx (x :: r) → 0 < Pt.o g u v) → (∀ c ∈ g :: x :: r, 0 ≤ lin A B C c) → 0 ≤ lin A B C p
  | [], x, h0, h1, hs, _, _ => by
    have s := hs x g (by simp [nx])
    have z : Pt.o x g p = -Pt.o g x p := Pt.ori.anti g x p
    rcases h1 with h1 | h1
    · exact absurd rfl h1
    · omega
  | y :: r, x, h0, h1, hs, ht, hc => by
    have s := hs x y (by simp [nx])
    have t := ht x y (by simp [nx])
    by_cases z : 0 < Pt.o g y p
    · refine fan g p r y (by omega) (.inr z) (fun u v h => hs u v ?_) (fun u v h => ht u v ?_) (fun c h => hc c ?_)
      · rw [List.cons_append, List.cons_append, nx_cons]; exact List.mem_cons_of_mem _ h
      · rw [nx_cons]; exact List.mem_cons_of_mem _ h
      · rcases List.mem_cons.mp h with rfl | h
        · simp
        · exact List.mem_cons_of_mem _ (List.mem_cons_of_mem _ h)
    · have e := tri_lin A B C g x y p
      have z2 : Pt.o y g p = -Pt.o g y p := Pt.ori.anti g y p
      have a1 := Int.mul_nonneg (hc g (by simp)) s
      have a2 := Int.mul_nonneg (hc x (by simp)) (show 0 ≤ Pt.o y g p by omega)
      have a3 := Int.mul_nonneg (hc y (by simp)) h0
      refine Int.le_of_mul_le_mul_right (a := Pt.o g x y) ?_ t
      rw [Int.zero_mul, e]
      omega
theorem poly_mix {H : List Pt} (P : Poly H) {p : Pt} (hp : ∀ u v, (u, v) ∈ nx (H ++ H.take 1) → 0 ≤ Pt.o u v p) : MixOf H p := by
  intro A B C hc
  match H, P, hp, hc with
  | g :: x :: y :: r, P, hp, hc =>
    have e : (g :: x :: y :: r) ++ (g :: x :: y :: r).take 1 = g :: x :: y :: r ++ [g] := by simp
    rw [e] at hp
    refine fan (A := A) (B := B) (C := C) g p (y :: r) x (hp g x (by simp [nx])) (.inl (by simp)) (fun u v h => hp u v ?_) (fun u v h => ?_) hc
    · rw [List.cons_append, List.cons_append, nx_cons]; exact List.mem_cons_of_mem _ h
    · have h' : (u, v) ∈ nx (g :: x :: y :: r ++ (g :: x :: y :: r).take 1) := by
        rw [e, List.cons_append, List.cons_append, nx_cons]
        refine List.mem_cons_of_mem _ ?_
        rw [show x :: (y :: r ++ [g]) = (x :: y :: r) ++ [g] by simp]
        have : ∀ (xs : List Pt) (z : Pt) (q : Pt × Pt), q ∈ nx xs → q ∈ nx (xs ++ [z]) := by
          intro xs z q
          induction xs with
          | nil => intro h; simp [nx] at h
          | cons a xs ih =>
            cases xs with
            | nil => intro h; simp [nx] at h
            | cons b xs =>
              intro h
              rw [nx_cons] at h
              rw [List.cons_append, List.cons_append, nx_cons]
              rcases List.mem_cons.mp h with h | h
              · rw [h]; simp
              · exact List.mem_cons_of_mem _ (ih h)
        exact this _ _ _ h
      obtain ⟨_, pos⟩ := P.pos u v h'
      have nd := P.nd
      rw [List.nodup_cons] at nd
      have m : u ∈ x :: y :: r ∧ v ∈ x :: y :: r := by
        have := List.of_mem_zip (show (u, v) ∈ (x :: y :: r).zip ((x :: y :: r).drop 1) from h)
        exact ⟨this.1, List.mem_of_mem_drop this.2⟩
      have := pos g (by simp) (fun z => nd.1 (by rw [z]; exact m.1)) (fun z => nd.1 (by rw [z]; exact m.2))
      rw [Pt.ori.cyc g u v] at this
      exact this
  | [], P, _, _ => have := P.len; simp at this
  | [_], P, _, _ => have := P.len; simp at this
  | [_, _], P, _, _ => have := P.len; simp at this
theorem PlateX.has {H : List Pt} (h : PlateX H) {p : Pt} : hasB H p = true ↔ MixOf H p := by
  refine ⟨fun hp => ?_, fun hp => has_mix h.ok hp⟩
  match H, h, hp with
  | [], h, _ => exact absurd rfl h.ne
  | [a], _, hp =>
    have e : a = p := of_decide_eq_true hp
    exact .self (by rw [e]; simp)
  | [a, b], h, hp =>
    rw [hasB_2] at hp
    simp only [Bool.and_eq_true, decide_eq_true_eq, Bool.not_eq_true'] at hp
    obtain ⟨h0, ha, hb⟩ := hp
    rcases Pt.ori.tot p a with z | z | z
    · rw [z] at ha; cases ha
    · exact .self (by rw [z]; simp)
    rcases Pt.ori.tot b p with y | y | y
    · rw [y] at hb; cases hb
    · exact .self (by rw [← y]; simp)
    obtain ⟨k, α, β, k0, a0, b0, e⟩ := seg_lin z y h0
    intro A B C hc
    have e := e A B C
    have c1 := Int.mul_nonneg (hc a (by simp)) (show 0 ≤ α by omega)
    have c2 := Int.mul_nonneg (hc b (by simp)) (show 0 ≤ β by omega)
    refine Int.le_of_mul_le_mul_right (a := k) ?_ k0
    rw [Int.zero_mul]
    show 0 ≤ lin A B C p * k
    rw [e]
    exact Int.add_nonneg c1 c2
  | a :: b :: c :: r, h, hp =>
    rw [hasB_3, List.all_eq_true] at hp
    exact poly_mix (h.poly (by simp)) fun u v huv => of_decide_eq_true (hp (u, v) (by simpa using huv))
theorem PlateX.of {ps : List Pt} (h : ps ≠ []) : PlateX (hullP ps) := ⟨ps, h, rfl⟩
end PH

namespace PH
open PySem PySem.Spec L2
def mkP (x y d : Int) : Pt := if h : d ≠ 0 then ⟨x.fdiv (gs3 x y d), y.fdiv (gs3 x y d), d.fdiv (gs3 x y d), by
    obtain ⟨u, v, w, e, h1, h2, _⟩ := plc_parts (x := x) (y := y) h
    have e' : PyData.tuple [.int (x.fdiv (gs3 x y d)), .int (y.fdiv (gs3 x y d)), .int (d.fdiv (gs3 x y d))] = .tuple [.int u, .int v, .int w] := e
    simp only [PyData.tuple.injEq, List.cons.injEq, PyData.int.injEq, and_true] at e'
    rw [e'.2.2]; exact h1, by
    obtain ⟨u, v, w, e, h1, h2, _⟩ := plc_parts (x := x) (y := y) h
    have e' : PyData.tuple [.int (x.fdiv (gs3 x y d)), .int (y.fdiv (gs3 x y d)), .int (d.fdiv (gs3 x y d))] = .tuple [.int u, .int v, .int w] := e
    simp only [PyData.tuple.injEq, List.cons.injEq, PyData.int.injEq, and_true] at e'
    rw [e'.1, e'.2.1, e'.2.2]; exact h2⟩ else O1
theorem mkP_D {x y d : Int} (h : d ≠ 0) : plc x y d = pD (mkP x y d) := by
  unfold mkP
  rw [dif_pos h]; rfl
theorem mkP_c {x y d : Int} (h : d ≠ 0) : (mkP x y d).x * d = x * (mkP x y d).d ∧ (mkP x y d).y * d = y * (mkP x y d).d := by
  have := plc_cross (x := x) (y := y) h (mkP_D (x := x) (y := y) h)
  exact ⟨this.1, this.2.1⟩
theorem pt_same {p q : Pt} {x y d : Int} (h : d ≠ 0) (h1 : p.x * d = x * p.d) (h2 : p.y * d = y * p.d) (h3 : q.x * d = x * q.d) (h4 : q.y * d = y * q.d) : p = q := by
  obtain ⟨a, b, c⟩ := place_uniq p.pos q.pos p.cop q.cop (show p.x * q.d = q.x * p.d from by
    refine Int.eq_of_mul_eq_mul_right h ?_
    grind) (show p.y * q.d = q.y * p.d from by
    refine Int.eq_of_mul_eq_mul_right h ?_
    grind)
  exact Pt.ext' a b c
theorem mkP_self (p : Pt) : mkP p.x p.y p.d = p := by
  have h : p.d ≠ 0 := by have := p.pos; omega
  obtain ⟨a, b⟩ := mkP_c (x := p.x) (y := p.y) h
  exact pt_same h a b rfl rfl
structure Hf where
  a : Int
  b : Int
  c : Int
  ne : ¬ (a = 0 ∧ b = 0)
abbrev heD (e : Hf) : D := pl e.a e.b e.c
def HB (k : Nat) (e : Hf) : Prop := Bd k e.a ∧ Bd k e.b ∧ Bd k e.c
theorem HB.mono {j k : Nat} {e : Hf} (h : HB j e) (l : j ≤ k) : HB k e := ⟨h.1.mono l, h.2.1.mono l, h.2.2.mono l⟩
def Hf.neg (e : Hf) : Hf := ⟨-e.a, -e.b, -e.c, fun h => e.ne ⟨by omega, by omega⟩⟩
theorem HB.neg {k : Nat} {e : Hf} (h : HB k e) : HB k e.neg := ⟨@bd_neg _ _ h.1, @bd_neg _ _ h.2.1, @bd_neg _ _ h.2.2⟩
def ex (e : Hf) (p : Pt) : Int := excess e.a e.b e.c p.x p.y p.d
end PH

namespace PH
open PySem PySem.Spec L2
end PH

namespace PH
open PySem PySem.Spec L2
end PH

namespace PH
open PySem PySem.Spec L2
section
variable {X : Cx} {Wx : WX} {pos : Pos}
end
end PH

namespace PH
open PySem PySem.Spec L2
theorem nodup_len : ∀ {xs ys : List Pt}, xs.Nodup → (∀ x ∈ xs, x ∈ ys) → xs.length ≤ ys.length
  | [], ys, _, _ => by simp
  | x :: xs, ys, nd, h => by
    rw [List.nodup_cons] at nd
    have hx := h x (by simp)
    have := nodup_len (xs := xs) (ys := ys.erase x) nd.2 fun z hz => by
      have ne : z ≠ x := fun e => nd.1 (by rw [← e]; exact hz)
      exact (List.mem_erase_of_ne ne).mpr (h z (List.mem_cons_of_mem _ hz))
    rw [List.length_erase_of_mem hx] at this
    have := List.length_pos_of_mem hx
    simp only [List.length_cons]; omega
theorem hull_len {ps : List Pt} (h : ps ≠ []) : (hullP ps).length ≤ ps.length := nodup_len (plate_okS h).2.nd (plate_ok h).2.1
end PH
namespace PH
end PH
namespace PH
open PySem PySem.Spec L2
theorem hf_he {u : Vd} {q : Pt} {k : Nat} (hu : VB k u) (hq' : PB k q) : ∃ e : Hf, hfD u q = heD e ∧ HB (2 * k + 1) e := by
  have q0 := q.pos
  have ne : ¬ (u.a * q.d = 0 ∧ u.b * q.d = 0) := mul_ne2 u.ne (by omega)
  have b1 : Bd (2 * k + 1) (u.a * q.d) := (@bd_mul _ _ _ _ hu.1 hq'.2.2).mono (by omega)
  have b2 : Bd (2 * k + 1) (u.b * q.d) := (@bd_mul _ _ _ _ hu.2 hq'.2.2).mono (by omega)
  have b3 : Bd (2 * k + 1) (u.a * q.x + u.b * q.y) := (bd_add2 (@bd_mul _ _ _ _ hu.1 hq'.1) (@bd_mul _ _ _ _ hu.2 hq'.2.1)).mono (by omega)
  obtain ⟨A, B, C, G, e, g0, h1, h2, h3, n2, _, c1, c2, c3⟩ := halfv_form ne b1 b2 b3
  exact ⟨⟨A, B, C, n2⟩, e, c1, c2, c3⟩
end PH
namespace PH
open PySem PySem.Spec L2
end PH

namespace PySem.W
open PySem PySem.Calls
end PySem.W
namespace PH
open PySem PySem.Spec L2
open PyProof.Rows (envOfC AllBare IntsAre)
section
variable {X : Cx} {a b e : Expr} {pos : Pos} {ma mb : DE} {m : DA}
end
end PH

namespace PH
open PySem PySem.Spec L2
structure Lm where
  a : Int
  b : Int
  c : Int
  d : Int
  e : Int
  f : Int
  n : Int
  pos : 0 < n
abbrev t7 (a b c d e f n : Int) : D := .tuple [.int a, .int b, .int c, .int d, .int e, .int f, .int n]
def ledP (m : Lm) (p : Pt) : Pt := mkP (m.a * p.x + m.b * p.y + m.e * p.d) (m.c * p.x + m.d * p.y + m.f * p.d) (m.n * p.d)
def idM : Lm := ⟨1, 0, 0, 1, 0, 0, 1, by decide⟩
theorem led_id (p : Pt) : ledP idM p = p := by
  have := mkP_self p
  unfold ledP idM
  simp only [Int.one_mul, Int.zero_mul, Int.add_zero, Int.zero_add]
  exact this
theorem map_id' (H : List Pt) : H.map (ledP idM) = H := by
  induction H with
  | nil => rfl
  | cons a r ih => rw [List.map_cons, led_id, ih]
end PH
namespace PH
open PySem PySem.Spec L2
end PH
namespace PH
open PySem PySem.Spec L2
end PH

namespace PH
open PySem PySem.Spec L2
end PH

namespace PH
open PySem PySem.Spec L2
theorem one_plate (a : Pt) : PlateX [a] := ⟨[a], by simp, by
  have h : hullP [a] = [a] := by
    have X := PlateX.of (ps := [a]) (by simp)
    have m := hull_len (ps := [a]) (by simp)
    have s := (plate_ok (ps := [a]) (by simp)).2.1
    have ne := X.ne
    match e : hullP [a], ne, m, s with
    | [x], _, _, s => rw [List.mem_singleton.mp (s x (by simp))]
    | x :: y :: r, _, m, _ => simp at m
    | [], ne, _, _ => exact absurd rfl ne
  exact h.symm⟩
end PH

namespace PH
open PySem PySem.Spec L2 RZ
section
variable {X : Cx} {pos : Pos} {m : DA}
end
end PH

namespace PH
open PySem PySem.Spec L2
end PH
namespace PH
open PySem PySem.Spec L2
theorem F2.left {α β : Type} {P : α → β → Prop} : ∀ {as : List α} {bs : List β}, F2 P as bs → ∀ b ∈ bs, ∃ a ∈ as, P a b
  | [], [], _, b, h => by cases h
  | a :: as, b :: bs, h, c, hc => by
    rcases List.mem_cons.mp hc with rfl | hc
    · exact ⟨a, by simp, h.1⟩
    · obtain ⟨x, hx, p⟩ := F2.left h.2 c hc
      exact ⟨x, List.mem_cons_of_mem _ hx, p⟩
  | [], b :: bs, h, _, _ => h.elim
  | a :: as, [], h, _, hc => by cases hc
theorem F2.right {α β : Type} {P : α → β → Prop} : ∀ {as : List α} {bs : List β}, F2 P as bs → ∀ a ∈ as, ∃ b ∈ bs, P a b
  | [], [], _, b, h => by cases h
  | a :: as, b :: bs, h, c, hc => by
    rcases List.mem_cons.mp hc with rfl | hc
    · exact ⟨b, by simp, h.1⟩
    · obtain ⟨x, hx, p⟩ := F2.right h.2 c hc
      exact ⟨x, List.mem_cons_of_mem _ hx, p⟩
  | [], b :: bs, h, _, hc => by cases hc
  | a :: as, [], h, _, _ => h.elim
theorem PlateX.S {H : List Pt} (h : PlateX H) : PlateS H := by obtain ⟨ps, ne, rfl⟩ := h; exact plate_okS ne
end PH
namespace PH
open PySem PySem.Spec L2
end PH
namespace PH
open PySem PySem.Spec L2
end PH
namespace PH
open PySem PySem.Spec L2
end PH

namespace HT
open PySem PySem.Spec PyProof.Rows L2
section
variable {prog : Program} {w : World} {A : Around} {E : Value → Shared → Prop} {s : Shared}
end
end HT
namespace PH
open PySem PySem.Spec PyProof.Rows L2
section
variable {X : Cx} {e : Expr} {ma : DE}
end
end PH

namespace PH
open PySem PySem.Spec L2
structure VOK (n : Nat) (d : D) : Prop where
  tm : tame d
  bk : d.bulk ≤ n
  dp : d.depth ≤ 20
  nl : d.hasDict = true → noL d = true
theorem VOK.mono {m n : Nat} {d : D} (h : VOK m d) (l : m ≤ n) : VOK n d := ⟨h.tm, Nat.le_trans h.bk l, h.dp, h.nl⟩
theorem VOK.rOk {n : Nat} {d : D} (h : VOK n d) (l : n ≤ 40000) : rOk d := rOk_of h.tm (Nat.le_trans h.bk l) (by have := h.dp; omega) h.nl
theorem bulk_len : ∀ xs : List D, xs.length ≤ PyData.bulkAll xs
  | [] => by simp
  | x :: xs => by
    have := bulk_len xs
    simp only [List.length_cons, PyData.bulkAll]; omega
theorem bulk_mem : ∀ {xs : List D} {x : D}, x ∈ xs → x.bulk ≤ PyData.bulkAll xs
  | y :: xs, x, h => by
    simp only [PyData.bulkAll]
    rcases List.mem_cons.mp h with rfl | h
    · omega
    · have := bulk_mem h; omega
theorem tames_mem : ∀ {xs : List D} {x : D}, tames xs → x ∈ xs → tame x
  | y :: xs, x, t, h => by
    obtain ⟨t1, t2⟩ : tame y ∧ tames xs := by simpa [tames] using t
    rcases List.mem_cons.mp h with rfl | h
    · exact t1
    · exact tames_mem t2 h
theorem VOK.tup {n : Nat} {xs : List D} (h : VOK n (.tuple xs)) : xs.length ≤ n ∧ ∀ x ∈ xs, tame x ∧ x.bulk ≤ n := by
  have b : PyData.bulkAll xs ≤ n := by have := h.bk; simpa [PyData.bulk] using this
  refine ⟨Nat.le_trans (bulk_len xs) b, fun x hx => ⟨tames_mem (by have := h.tm; simpa [tame] using this) hx, Nat.le_trans (bulk_mem hx) b⟩⟩
theorem bulk_tup {n : Nat} {x : D} (h : x.bulk ≤ n) (hn : n ≤ 1000) : tupLe 1000 x := by
  cases x with
  | tuple xs =>
    have : PyData.bulkAll xs ≤ n := by simpa [PyData.bulk] using h
    have := bulk_len xs
    show xs.length ≤ 1000
    omega
  | _ => trivial
theorem pb_tame {p : Pt} (h : tame (pD p)) : PB 900 p := by
  obtain ⟨h1, h2, h3, _⟩ := h
  exact ⟨⟨h1⟩, ⟨h2⟩, ⟨h3⟩⟩
theorem place_of {d : D} (h : isPlace d = true) : ∃ p : Pt, d = pD p := by
  unfold isPlace at h
  rw [Bool.and_eq_true] at h
  obtain ⟨p, q, r, rfl⟩ := areNum3.mp h.1
  have h2 := h.2
  simp only [Bool.and_eq_true, decide_eq_true_eq] at h2
  exact ⟨⟨p, q, r, h2.1, h2.2⟩, rfl⟩
theorem places_of : ∀ {xs : List D}, xs.all isPlace = true → ∃ ps : List Pt, xs = ps.map pD
  | [], _ => ⟨[], rfl⟩
  | x :: xs, h => by
    rw [List.all_cons, Bool.and_eq_true] at h
    obtain ⟨p, rfl⟩ := place_of h.1
    obtain ⟨ps, rfl⟩ := places_of h.2
    exact ⟨p :: ps, rfl⟩
def unP : D → Pt
  | .tuple [.int x, .int y, .int d] => mkP x y d
  | _ => O1
theorem unP_pD (p : Pt) : unP (pD p) = p := mkP_self p
theorem unP_map (ps : List Pt) : (ps.map pD).map unP = ps := by
  rw [List.map_map]
  have : (unP ∘ pD) = id := funext fun p => unP_pD p
  rw [this, List.map_id]
def isPlate (d : D) : Bool := match d with
  | .tuple xs => !xs.isEmpty && (xs.all isPlace && PyData.eqv (.tuple ((hullP (xs.map unP)).map pD)) (.tuple xs))
  | _ => false
def spIsPlateC : DSp := fun ds Q => ∃ d, ds = [d] ∧ VOK 900 d ∧ Q (.bool (isPlate d))
theorem VOK.mkD {n : Nat} {d : D} (t : tame d) (b : d.bulk ≤ n) (p : d.depth ≤ 20) (h : d.hasDict = false) : VOK n d := ⟨t, b, p, fun z => by rw [h] at z; cases z⟩
end PH
namespace PH
open PySem PySem.Spec L2
theorem tame_pt {k : Nat} (hk : k ≤ 900) {p : Pt} (h : PB k p) : tame (pD p) := (ok_pt hk p h).1
end PH

namespace PH
open PySem PySem.Spec L2
section
variable {X : Cx} {pos : Pos}
theorem walk_w {J : It} {n : Nat} {G : Hp → Prop} {Y : Nat → Hp → V → Hp → Prop} (w : Walk J n G Y) (Pv : Nat → Hp → Prop) {H0 : Hp} (h0 : Pv 0 H0) (hG : ∀ i H, i ≤ n → Pv i H → G H) {F : (Hp → Prop) → V → Hp → Prop}
    (step : ∀ i x H H', i < n → Pv i H → Y i H x H' → F (Pv (i + 1)) x H') {Qd : Hp → Prop} (hd : ∀ H, Pv n H → Qd H) :
    ∃ W : Nat → Nat → Hp → Prop, (∃ m, W 0 m H0) ∧ ∀ i m H, W i m H → (J.stop i H ∧ Qd H) ∨ (J.go i H ∧ ∃ Nx : Hp → Prop, (∀ H', Nx H' → ∃ m', m' < m ∧ W (i + 1) m' H') ∧ ∀ x H', J.yld i H x H' → F Nx x H') := by
  refine ⟨fun i m H => m = n - i ∧ i ≤ n ∧ Pv i H, ⟨n, rfl, Nat.zero_le _, h0⟩, ?_⟩
  rintro i m H ⟨rfl, hi, p⟩
  by_cases hlt : i < n
  · exact .inr ⟨w.goes i H hlt (hG i H hi p), Pv (i + 1), fun H' p' => ⟨n - (i + 1), by omega, rfl, hlt, p'⟩, fun x H' y => step i x H H' hlt p (w.yields i H x H' hlt (hG i H hi p) y)⟩
  · have e : i = n := by omega
    subst e
    exact .inl ⟨w.stops H (hG i H hi p), hd H p⟩
def dLcc2 (mi : DA) (g : DG) (mt : DT) (mi1 : DA) (g1 : DG) (mt1 : DT) (me : DE) (vs vs1 : List Nat) : DA := fun σd Q => mi σd fun ys => ∃ W : Nat → List D → Prop, W 0 [] ∧
  (∀ i y acc, ys[i]? = some y → W i acc → g y (dwipe (clean σd) vs) fun σ2 => mt σ2 fun b => if b = true then mi1 σ2 fun zs => ∃ W1 : Nat → List D → Prop, W1 0 acc ∧ (∀ j acc1, W1 j acc1 → acc1.length ≤ 1000000) ∧
    (∀ j z acc1, zs[j]? = some z → W1 j acc1 → g1 z (dwipe (clean σ2) vs1) fun σ3 => mt1 σ3 fun b => if b = true then me σ3 fun u => W1 (j + 1) (acc1 ++ [u]) else W1 (j + 1) acc1) ∧ ∀ acc1, W1 zs.length acc1 → W (i + 1) acc1
    else W (i + 1) acc) ∧ ∀ acc, W ys.length acc → Q acc
theorem ln_lc2 {wi wi1 : TI} {g g1 : TG} {tt tt1 : TT} {te : TE} {vs vs1 : List Nat} {mi mi1 : DA} {dg dg1 : DG} {mt mt1 : DT} {me : DE} (hi : LI wi mi) (hg : LG g dg) (sg : Sets g vs) (ht : LT tt mt) (hi1 : LI wi1 mi1) (hg1 : LG g1 dg1) (sg1 : Sets g1 vs1) (ht1 : LT tt1 mt1) (he : LE te me) :
    LN (tLc2 wi g tt wi1 g1 tt1 te vs vs1) (dLcc2 mi dg mt mi1 dg1 mt1 me vs vs1) := by
  intro S M H0 H σ σd Qd Q E hm k
  refine hi S M H0 H σ σd _ _ E hm fun ys J H1 q E1 k1 wk => ?_
  obtain ⟨G, Y, w, hG, hY⟩ := wk.ex
  obtain ⟨W, w0, wt, wd⟩ := q
  intro Dl hD
  have nown : ∀ a ds, Sl.own a ds ∈ σd → a ≠ Dl := fun a ds z y => by
    subst y
    obtain ⟨i, hi⟩ := List.getElem?_of_mem z
    obtain ⟨o, _, _, xs, e, _⟩ := E1.slot hi
    rw [hD] at e; cases e
  have nsrc : ∀ p c, S = some (p, c) → p ≠ Dl ∧ c ≠ Dl := fun p c e => by
    obtain ⟨_, _, _, ns, l, m, t, h1, h2⟩ := E1.src.go p c e
    exact ⟨ne_of_none h2 hD, ne_of_none h1 hD⟩
  have ne : ∀ p c, S = some (p, c) → Dl ≠ p ∧ Dl ≠ c := fun p c e => ⟨(nsrc p c e).1.symm, (nsrc p c e).2.symm⟩
  let M' : Addr → Prop := fun a => M a ∨ a = Dl
  have moS : ∀ a, MO M' σd a → MO M σd a ∨ a = Dl := fun a h => by
    rcases h with (h | h) | h
    · exact .inl (.inl h)
    · exact .inr h
    · exact .inl (.inr h)
  have moT : ∀ a, (MO M σd a ∨ a = Dl) → MO M' σd a := fun a h => by
    rcases h with (h | h) | h
    · exact .inl (.inl h)
    · exact .inr h
    · exact .inl (.inr h)
  have moDl : MO M' σd Dl := .inl (.inr rfl)
  -- what stands of the list made, over a heap
  let St : Hp → List D → Prop := fun H2 ds => ∃ acc : List V, H2 Dl = some (.lst acc) ∧ Dqs S (MO M' σd) H2 acc ds ∧ (∃ Hb, Ev S M' Hb H2 σ σd) ∧ KeepS S H1 H2
  have stn : ∀ {H2 ds}, St H2 ds → Stands (MO M σd) H1 H2 := fun {H2 ds} ⟨_, _, _, _, kk⟩ a o n e => kk a o e fun p c z => by
    obtain ⟨hp, hc, _⟩ := E1.src.go p c z
    exact ⟨fun y => n (.inl (y ▸ hp)), fun y => n (.inl (y ▸ hc))⟩
  have src5 : ∀ {Hb Hx Hy}, Ev S M' Hb Hx σ σd → SrcOk S (MO M' σd) Hy → SrcOk S M' Hy := fun E2 s => E2.src.at s
  have go5 : ∀ {Hx Hy ds}, St Hx ds → KeepS S Hx Hy → SrcOk S (MO M' σd) Hy → St Hy ds := fun {Hx Hy ds} ⟨acc, e, r, ⟨Hb, E2⟩, kk⟩ kx s => ⟨acc, kx.k _ _ e ne, E2.dqs kx r, ⟨_, E2.ext kx (src5 E2 s)⟩, kk.trans kx⟩
  have app : ∀ {Hx v z ds}, St Hx ds → Dq S (MO M' σd) Hx v z → ∃ acc, Hx Dl = some (.lst acc) ∧ acc.length = ds.length ∧ St (upd Hx Dl (.lst (acc ++ [v]))) (ds ++ [z]) := by
    intro Hx v z ds ⟨acc, e6, r6', ⟨Hb, E7⟩, kk⟩ rv
    have go : ∀ a o, ¬ MO M' σd a → Hx a = some o → ¬ MO M' σd a ∧ upd Hx Dl (.lst (acc ++ [v])) a = some o := fun a o n e => ⟨n, by rw [upd_ne (fun y : a = Dl => n (y ▸ moDl))]; exact e⟩
    refine ⟨acc, e6, r6'.length, acc ++ [v], upd_same, (r6'.append (.cons rv .nil)).go go, ⟨_, E7.remake (M' := M') (H2 := upd Hx Dl (.lst (acc ++ [v]))) go (fun a es y => ?_) ⟨fun p c e => ?_, tabs_upd E7.src.tab e6, fun a h => (E7.src.nt a h).upd⟩ (fun a h => ?_)⟩, ?_⟩
    · exact ⟨upd_ne (nown a es y), fun y' => y'.elim (E1.ownM y) (nown a es y)⟩
    · obtain ⟨h1, h2, h3, ns, l, m, t, h4, h5⟩ := E7.src.go p c e
      exact ⟨h1, h2, h3, ns, l, m, t, by rw [upd_ne (nsrc p c e).2]; exact h4, by rw [upd_ne (nsrc p c e).1]; exact h5⟩
    · by_cases y : a = Dl
      · rw [y, upd_same]; exact fun z => (nomatch z)
      · rw [upd_ne y]; exact E7.mt a h
    · exact fun a o e n => by rw [upd_ne (ne_of_none e hD)]; exact kk a o e n
  let Pv : Nat → Hp → Prop := fun i H2 => ∃ ds : List D, W i ds ∧ St H2 ds
  refine walk_w w Pv ?_ (fun i H2 _ ⟨ds, _, s⟩ => hG H2 (stn s)) (F := fun Nx x H' => g x (wipe σ vs) H' fun σ2 H2 => wipe σ2 vs = wipe σ vs ∧ tt σ2 H2 fun b H3 =>
    if b = true then wi1 σ2 H3 fun J1 H4 => ∃ W1 : Nat → Nat → Hp → Prop, (∃ m, W1 0 m H4) ∧ ∀ j k H, W1 j k H →
      (J1.stop j H ∧ Nx H) ∨ (J1.go j H ∧ ∃ Nx1 : Hp → Prop, (∀ H', Nx1 H' → ∃ k', k' < k ∧ W1 (j + 1) k' H') ∧ ∀ x H', J1.yld j H x H' → g1 x (wipe σ2 vs1) H' fun σ3 H5 => wipe σ3 vs1 = wipe σ2 vs1 ∧ tt1 σ3 H5 fun b H6 =>
        if b = true then te σ3 H6 fun y H7 => ∃ acc, H7 Dl = some (.lst acc) ∧ acc.length < sizeLine ∧ Nx1 (upd H7 Dl (.lst (acc ++ [y]))) else Nx1 H6)
    else Nx H3) ?_ ?_
  · refine ⟨[], w0, [], upd_same, .nil, ⟨_, E1.remake (M' := M') (H2 := upd H1 Dl (.lst [])) (fun a o n e => ?_) (fun a ds z => ?_) ⟨fun p c e => ?_, E1.src.tab.ext (Same.upd hD), fun a h => h.elim (fun h => (E1.src.nt a h).upd) fun h => by rw [h, upd_same]; exact True.intro⟩ (fun a h => ?_)⟩, .of (Same.upd hD)⟩
    · exact ⟨fun z => (moS a z).elim n fun y => ne_of_none e hD y, by rw [upd_ne (ne_of_none e hD)]; exact e⟩
    · exact ⟨upd_ne (nown a ds z), fun y => y.elim (E1.ownM z) (nown a ds z)⟩
    · obtain ⟨h1, h2, h3, ns, l, m, t, h4, h5⟩ := E1.src.go p c e
      exact ⟨.inl h1, .inl h2, h3, ns, l, m, t, by rw [upd_ne (nsrc p c e).2]; exact h4, by rw [upd_ne (nsrc p c e).1]; exact h5⟩
    · rcases h with h | h
      · by_cases y : a = Dl
        · rw [y, upd_same]; exact fun z => (nomatch z)
        · rw [upd_ne y]; exact E1.mt a h
      · rw [h, upd_same]; exact fun z => (nomatch z)
  · rintro i x H2 H3 hi' ⟨ds, wi', s2⟩ yy
    have stp := stn s2
    obtain ⟨sm, hd⟩ := hY i H2 x H3 hi' stp yy
    obtain ⟨acc, hacc, racc, ⟨Hb, E2⟩, kk⟩ := id s2
    have EC := (E2.clean.wipe vs)
    have EC3 := EC.same sm
    have mocl : ∀ a, MO (MO M' σd) (dwipe (clean σd) vs) a → MO M' σd a := fun a h => by
      rcases h with h | ⟨es, h⟩
      · exact h
      · exact absurd h dwipe_no
    obtain ⟨d, hd1, hd2⟩ := hd (MO (MO M' σd) (dwipe (clean σd) vs)) (fun a h => E2.mtO a (mocl a h)) fun a o n e z => by
      rcases moS a (mocl a z) with y | y
      · exact n y
      · exact ne_of_none e hD y
    have wt1 := wt i d ds hd1 wi'
    have s3 : St H3 ds := go5 s2 (.of sm) (E2.same sm).srcO
    refine sg x (wipe σ vs) H3 (fun σ2 Hx => Hx = H3 ∧ ∃ σd2, Ev S (MO M' σd) H2 H3 σ2 σd2 ∧ mt σd2 fun b => if b = true then mi1 σd2 fun zs => ∃ W1 : Nat → List D → Prop, W1 0 ds ∧ (∀ j acc1, W1 j acc1 → acc1.length ≤ 1000000) ∧
        (∀ j z acc1, zs[j]? = some z → W1 j acc1 → dg1 z (dwipe (PH.clean σd2) vs1) fun σ3 => mt1 σ3 fun b => if b = true then me σ3 fun u => W1 (j + 1) (acc1 ++ [u]) else W1 (j + 1) acc1) ∧ ∀ acc1, W1 zs.length acc1 → W (i + 1) acc1 else W (i + 1) ds) _
      (hg S (MO M' σd) H2 H3 _ _ x d _ _ EC3 hd2 wt1 fun σd2 σ2 q2 E4 => ⟨rfl, σd2, E4, q2⟩) ?_
    rintro σ2 Hx ⟨rfl, σd2, E4, q2⟩ hw
    refine ⟨hw.trans (wipe_wipe σ fun _ h => h), ht S (MO M' σd) H2 Hx σ2 σd2 _ _ E4 q2 fun b H5 q5 E5 k5 => ?_⟩
    have s5 : St H5 ds := go5 s3 k5 E5.src
    cases b with
    | false =>
      have q6 : W (i + 1) ds := by simpa using q5
      show Pv (i + 1) H5
      exact ⟨ds, q6, s5⟩
    | true =>
      have q6 := (show mi1 σd2 _ by simpa using q5)
      show wi1 σ2 H5 _
      refine hi1 S (MO M' σd) H2 H5 σ2 σd2 _ _ E5 q6 fun zs J1 H6 q7 E6 k6 wk1 => ?_
      obtain ⟨G1, Y1, w1, hG1, hY1⟩ := wk1.ex
      obtain ⟨W1, v0, vl, vt, vd⟩ := q7
      have s6 : St H6 ds := go5 s5 k6 E6.src
      -- σd2's own names: none in sight but hidden
      let P1 : Nat → Hp → Prop := fun j Hy => ∃ es : List D, W1 j es ∧ St Hy es ∧ (∃ Hb, Ev S (MO M' σd) Hb Hy σ2 σd2) ∧ Stands (MO (MO M' σd) σd2) H6 Hy
      refine walk_w w1 P1 ⟨ds, v0, s6, ⟨_, E6⟩, fun a o n e => .inl e⟩ (fun j Hy _ ⟨es, _, _, _, st⟩ => hG1 Hy st) (F := fun Nx1 x H' => g1 x (wipe σ2 vs1) H' fun σ3 H5 => wipe σ3 vs1 = wipe σ2 vs1 ∧ tt1 σ3 H5 fun b H6 =>
        if b = true then te σ3 H6 fun y H7 => ∃ acc, H7 Dl = some (.lst acc) ∧ acc.length < sizeLine ∧ Nx1 (upd H7 Dl (.lst (acc ++ [y]))) else Nx1 H6) ?_ ?_
      · rintro j x1 Hy Hz hj ⟨es, wj, sy, ⟨Hb1, Ey⟩, sty⟩ yy1
        obtain ⟨sm1, hd'⟩ := hY1 j Hy x1 Hz hj sty yy1
        have EC1 := (Ey.clean.wipe vs1)
        have EC13 := EC1.same sm1
        have mocl1 : ∀ a, MO (MO (MO M' σd) σd2) (dwipe (PH.clean σd2) vs1) a → MO (MO M' σd) σd2 a := fun a h => by
          rcases h with h | ⟨es, h⟩
          · exact h
          · exact absurd h dwipe_no
        obtain ⟨d1, hd11, hd12⟩ := hd' (MO (MO (MO M' σd) σd2) (dwipe (PH.clean σd2) vs1)) (fun a h => Ey.mtO a (mocl1 a h)) fun a o n e z => n (mocl1 a z)
        have vt1 := vt j d1 es hd11 wj
        have sz : St Hz es := go5 sy (.of sm1) (Ey.src.same sm1)
        have Ez := Ey.same sm1
        have stz : Stands (MO (MO M' σd) σd2) H6 Hz := fun a o n e => (sty a o n e).imp (sm1 a o) fun ⟨ps, ps', y1, y2⟩ => ⟨ps, ps', y1, sm1 _ _ y2⟩
        refine sg1 x1 (wipe σ2 vs1) Hz (fun σ3 Hx => Hx = Hz ∧ ∃ σd3, Ev S (MO (MO M' σd) σd2) Hy Hz σ3 σd3 ∧ mt1 σd3 fun b => if b = true then me σd3 fun u => W1 (j + 1) (es ++ [u]) else W1 (j + 1) es) _
          (hg1 S (MO (MO M' σd) σd2) Hy Hz _ _ x1 d1 _ _ EC13 hd12 vt1 fun σd3 σ3 q3 E8 => ⟨rfl, σd3, E8, q3⟩) ?_
        rintro σ3 Hx ⟨rfl, σd3, E8, q3⟩ hw1
        refine ⟨hw1.trans (wipe_wipe σ2 fun _ h => h), ht1 S (MO (MO M' σd) σd2) Hy Hx σ3 σd3 _ _ E8 q3 fun b H9 q9 E9 k9 => ?_⟩
        have srcM : ∀ {Hw}, SrcOk S (MO (MO M' σd) σd2) Hw → SrcOk S (MO M' σd) Hw := fun s => Ey.src.at s
        have s9 : St H9 es := go5 sz k9 (srcM E9.src)
        have e9 : Ev S (MO M' σd) Hb1 H9 σ2 σd2 := Ez.ext k9 (srcM E9.src)
        have keepSt : ∀ {Hu Hw}, Stands (MO (MO M' σd) σd2) H6 Hu → KeepS S Hu Hw → Stands (MO (MO M' σd) σd2) H6 Hw := fun {Hu Hw} st kx a o n e => by
          have nn : ∀ p c, S = some (p, c) → a ≠ p ∧ a ≠ c := fun p c z => by
            obtain ⟨hp, hc, _⟩ := E1.src.go p c z
            exact ⟨fun y => n (.inl (.inl (.inl (y ▸ hp)))), fun y => n (.inl (.inl (.inl (y ▸ hc))))⟩
          rcases st a o n e with y | ⟨ps, ps', y1, y2⟩
          · exact kx a o y nn
          · rcases kx a _ y2 nn with z | ⟨qs, qs', z1, z2⟩
            · exact .inr ⟨ps, ps', y1, z⟩
            · exact .inr ⟨ps, qs', y1, z2⟩
        cases b with
        | false =>
          have q6 : W1 (j + 1) es := by simpa using q9
          exact ⟨es, q6, s9, ⟨_, e9⟩, keepSt stz k9⟩
        | true =>
          have q6 : me σd3 fun u => W1 (j + 1) (es ++ [u]) := by simpa using q9
          show te σ3 H9 _
          refine he S (MO (MO M' σd) σd2) Hy H9 σ3 σd3 _ _ E9 q6 fun z v H10 q10 E10 k10 r10 => ?_
          have s10 : St H10 es := go5 s9 k10 (srcM E10.src)
          have rv : Dq S (MO M' σd) H10 v z := r10.go fun a o n e => ⟨fun y => n (.inl (.inl y)), e⟩
          obtain ⟨acc9, e11, l11, s11⟩ := app s10 rv
          have lim := vl j es wj
          have e10 : Ev S (MO M' σd) Hb1 H10 σ2 σd2 := e9.ext k10 (srcM E10.src)
          refine ⟨acc9, e11, by rw [l11, sizeLine_eq]; omega, es ++ [z], q10, s11, ?_, ?_⟩
          · -- the block's frame stays
            have mo2 : MO (MO M' σd) σd2 Dl := .inl moDl
            have n2 : ∀ a ds, Sl.own a ds ∈ σd2 → a ≠ Dl := fun a ds y y' => e10.ownM y (y' ▸ moDl)
            refine ⟨_, e10.remake (M' := MO M' σd) (H2 := upd H10 Dl (.lst (acc9 ++ [v]))) (fun a o n e => ⟨n, by rw [upd_ne (fun y : a = Dl => n (y ▸ mo2))]; exact e⟩) (fun a ds y => ⟨upd_ne (n2 a ds y), e10.ownM y⟩) ⟨fun p c e => ?_, tabs_upd e10.src.tab e11, fun a h => (e10.src.nt a h).upd⟩ (fun a h => ?_)⟩
            · obtain ⟨h1, h2, h3, ns, l, m, t, h4, h5⟩ := e10.src.go p c e
              exact ⟨h1, h2, h3, ns, l, m, t, by rw [upd_ne (nsrc p c e).2]; exact h4, by rw [upd_ne (nsrc p c e).1]; exact h5⟩
            · by_cases y : a = Dl
              · rw [y, upd_same]; exact fun z => (nomatch z)
              · rw [upd_ne y]; exact e10.mt a h
          · have st10 := keepSt (keepSt stz k9) k10
            intro a o n e
            have na : a ≠ Dl := fun y => n (.inl (y ▸ moDl))
            rw [upd_ne na]
            exact st10 a o n e
      · rintro Hy ⟨es, wj, sy, _, sty⟩
        exact ⟨es, vd es wj, sy⟩
  · rintro H2 ⟨ds, wi', acc, hacc, racc, ⟨Hb, E2⟩, kk⟩
    have src2 : SrcOk S M H2 := E1.src.at E2.src
    exact k ds Dl acc H2 (wd ds wi') (E1.ext kk src2) (k1.trans kk) (fresh_back E k1 hD E1.src) hacc (racc.go fun a o n e => ⟨fun z => n (moT a z), e⟩)
end
end PH
namespace PH
open PySem PySem.Spec L2
section
variable {X : Cx} {Wx : WX} {pos : Pos}
def tOfI (m : DA) : TI := fun σ H R => ∃ (S : Sr) (M : Addr → Prop) (H0 : Hp) (σd : DSt) (Qd : List D → Prop), Ev S M H0 H σ σd ∧ m σd Qd ∧ ∀ ys J H1, Qd ys → Ev S M H0 H1 σ σd → KeepS S H H1 → Wk S (MO M σd) H1 J ys → R J H1
theorem li_of {m : DA} : LI (tOfI m) m := fun S M H0 H σ σd Qd R E h k => ⟨S, M, H0, σd, Qd, E, h, fun ys J H1 a b c d => k ys J H1 a b c d⟩
theorem PDI.pi {tg e : Expr} {m : DA} (h : PDI X tg e m) : PI X tg e (tOfI m) := by
  obtain ⟨t, p, l⟩ := h
  exact ⟨fun pins s σ H R I ⟨S, M, H0, σd, Qd, E, q, k⟩ => p.run pins s σ H R I (l S M H0 H σ σd Qd R E q k)⟩
theorem pdn_lc2 {elt tg iter tg1 iter1 : Expr} {scope : Scope} {own : List (Str × Nat)} {vs1 : List Nat} {mi mi1 : DA} {g g1 : TG} {dg dg1 : DG} {me : DE} (hc : X.calm = true) (hN : X.N.Nodup) (hi : PDI X tg iter mi) (ok : blkC X.N X.env.scope scope own = true) (hv : ∀ i ∈ vs1, i ∈ own.map (·.2))
    (hg : ∀ (s : Shared) (H : Hp) (C : Addr) (cl : List (Str × Addr)) (fp : List Addr), PG (X.blk s H scope (compEnvC scope cl C X.env) fp) tg g) (lg : LG g dg) (sg : Sets g (own.map (·.2)))
    (hi1 : ∀ (s : Shared) (H : Hp) (C : Addr) (cl : List (Str × Addr)) (fp : List Addr), PDI (X.blk s H scope (compEnvC scope cl C X.env) fp) tg1 iter1 mi1)
    (hg1 : ∀ (s : Shared) (H : Hp) (C : Addr) (cl : List (Str × Addr)) (fp : List Addr), PG (X.blk s H scope (compEnvC scope cl C X.env) fp) tg1 g1) (lg1 : LG g1 dg1) (sg1 : Sets g1 vs1)
    (he : ∀ (s : Shared) (H : Hp) (C : Addr) (cl : List (Str × Addr)) (fp : List Addr), PD (X.blk s H scope (compEnvC scope cl C X.env) fp) elt me) (hs : ∀ x, foldedSetIterable iter X.env x = pure x := by intro _; rfl) (hs1 : ∀ env x, foldedSetIterable iter1 env x = pure x := by intro _ _; rfl) :
    PDN X (.ListComp elt [⟨tg, iter, [], 0⟩, ⟨tg1, iter1, [], 0⟩] scope pos) (dLcc2 mi dg dYes mi1 dg1 dYes me (own.map (·.2)) vs1) :=
  let ⟨_, h1, l1⟩ := hi; ⟨_, pe_lc2 hc hN h1 (blkOk_by ok) hv hg (fun _ _ _ _ _ => pts_nil) (fun s H C cl fp => (hi1 s H C cl fp).pi) hg1 (fun _ _ _ _ _ => pts_nil) (fun s H C cl fp => (he s H C cl fp).pe) hs hs1, ln_lc2 l1 lg sg lt_yes li_of lg1 sg1 lt_yes le_of⟩
def dIncI (i : Nat) (m : DE) : DS := fun Dd σd => ∃ a, σd[i]? = some (.val (.int a)) ∧ m σd fun y => match y with
  | .int b => Dd.nx (σd.set i (.val (.int (a + b))))
  | _ => False
theorem dLcc2_m {α β : Type} {mi mi1 : DA} {g g1 : DG} {me : DE} {vs vs1 : List Nat} {σd : DSt} {Q : List D → Prop} (xs : List α) (enc : α → D) (ys : α → List β) (enc1 : β → D) (f : α → β → D) (hi : ∀ R : List D → Prop, R (xs.map enc) → mi σd R)
    (hl : ((xs.map fun x => (ys x).length).sum) ≤ 1000000)
    (h : ∀ x ∈ xs, ∀ K : DSt → Prop, (∀ σ2, (∀ R : List D → Prop, R ((ys x).map enc1) → mi1 σ2 R) → (∀ y ∈ ys x, ∀ Q : D → Prop, Q (f x y) → g1 (enc1 y) (dwipe (clean σ2) vs1) fun σ3 => me σ3 Q) → K σ2) → g (enc x) (dwipe (clean σd) vs) K)
    (hq : Q (xs.map fun x => (ys x).map (f x)).flatten) : dLcc2 mi g dYes mi1 g1 dYes me vs vs1 σd Q := by
  have tot : ∀ n, ((xs.take n).map fun x => (ys x).map (f x)).flatten.length ≤ (xs.map fun x => (ys x).length).sum := by
    intro n
    have : ∀ l : List α, (l.map fun x => (ys x).map (f x)).flatten.length = (l.map fun x => (ys x).length).sum := by
      intro l
      induction l with
      | nil => rfl
      | cons a l ih => simp only [List.map_cons, List.flatten_cons, List.length_append, List.length_map, List.sum_cons, ih]
    rw [this]
    conv => rhs; rw [← List.take_append_drop n xs, List.map_append, List.sum_append]
    omega
  refine hi _ ⟨fun i acc => acc = ((xs.take i).map fun x => (ys x).map (f x)).flatten, by simp, fun i y acc hy w => ?_, fun acc w => ?_⟩
  · rw [List.getElem?_map] at hy
    obtain ⟨x, hx, rfl⟩ : ∃ x, xs[i]? = some x ∧ enc x = y := by
      cases hz : xs[i]? with
      | none => rw [hz] at hy; simp at hy
      | some x => rw [hz] at hy; simp at hy; exact ⟨x, rfl, hy⟩
    have mx := List.mem_of_getElem? hx
    have nxt : ((xs.take (i + 1)).map fun x => (ys x).map (f x)).flatten = ((xs.take i).map fun x => (ys x).map (f x)).flatten ++ (ys x).map (f x) := by
      rw [List.take_add_one, hx]; simp
    refine h x mx _ fun σ2 k1 k2 => ?_
    simp only [dYes, if_true]
    refine k1 _ ⟨fun j acc1 => acc1 = acc ++ ((ys x).take j).map (f x), by simp, fun j acc1 e => ?_, fun j z acc1 hz e => ?_, fun acc1 e => ?_⟩
    · rw [e, List.length_append, List.length_map, List.length_take, w]
      have := tot (i + 1)
      rw [nxt, List.length_append, List.length_map] at this
      omega
    · rw [List.getElem?_map] at hz
      obtain ⟨v, hv, rfl⟩ : ∃ v, (ys x)[j]? = some v ∧ enc1 v = z := by
        cases hq : (ys x)[j]? with
        | none => rw [hq] at hz; simp at hz
        | some v => rw [hq] at hz; simp at hz; exact ⟨v, rfl, hz⟩
      refine k2 v (List.mem_of_getElem? hv) _ ?_
      show acc1 ++ [f x v] = acc ++ ((ys x).take (j + 1)).map (f x)
      rw [e, List.take_add_one, hv]; simp
    · rw [e, w, List.length_map, List.take_length, nxt]
  · rw [w, List.length_map, List.take_length]; exact hq
end
end PH

namespace PH
open PySem PySem.Spec L2
end PH

namespace PH
open PySem PySem.Spec L2
abbrev Ve := Int × Int
def vx (u v : Ve) : Int := u.1 * v.2 - u.2 * v.1
def sv (p q : Pt) : Ve := (Pt.sx p q, Pt.sy p q)
theorem mp {a b : Int} (ha : 0 < a) (hb : 0 < b) : 0 < a * b := Int.mul_pos ha hb
theorem mn {a b : Int} (ha : a < 0) (hb : 0 < b) : a * b < 0 := Int.mul_neg_of_neg_of_pos ha hb
theorem m0 {a b : Int} (ha : 0 ≤ a) (hb : 0 ≤ b) : 0 ≤ a * b := Int.mul_nonneg ha hb
end PH

namespace PH
open PySem PySem.Spec L2
def cy (G : List Pt) (n : Nat) : Pt := G.getD (n % G.length) O1
def ed (G : List Pt) (n : Nat) : Ve := sv (cy G n) (cy G (n + 1))
end PH

namespace PH
open PySem PySem.Spec L2
end PH

namespace PH
open PySem PySem.Spec L2
theorem lt_irr (p : Pt) : Pt.lt p p = false := by have := Pt.ori.ir p; simpa using this
end PH

namespace PH
open PySem PySem.Spec L2
def negP (p : Pt) : Pt := ⟨-p.x, -p.y, p.d, p.pos, by have := p.cop; unfold g3 at *; rw [Int.natAbs_neg, Int.natAbs_neg]; exact this⟩
theorem neg_neg (p : Pt) : negP (negP p) = p := Pt.ext' (Int.neg_neg _) (Int.neg_neg _) rfl
def spAcross : DSp := fun ds Q => ∃ (ps : List Pt) (k : Nat), ds = [.list (ps.map pD)] ∧ (∀ x ∈ ps, PB k x) ∧ k ≤ 100 ∧ ps.length ≤ 20 ∧ ∀ ys : List D, (∀ y ∈ ys, IsDr (2 * k + 1) y) → ys.length ≤ 400 → Q (.list ys)
end PH

namespace PH
open PySem PySem.Spec L2
section
variable {X : Cx} {a b e : Expr} {pos p2 : Pos} {ma mb : DE}
def dAsg2 (i j : Nat) (m : DE) : DS := fun Dd σd => m σd fun d => (∃ n : Int, d = .int n) ∧ Dd.nx ((σd.set i (.val d)).set j (.val d))
end
end PH

namespace PH
open PySem PySem.Spec L2
end PH

namespace PH
open PySem PySem.Spec L2
abbrev plD (L : List Pt) : D := .tuple (L.map pD)
end PH

namespace PH
open PySem PySem.Spec L2
theorem map_inj' {α β : Type} {f : α → β} (hf : ∀ a b, f a = f b → a = b) : ∀ {a b : List α}, a.map f = b.map f → a = b
  | [], [], _ => rfl
  | [], _ :: _, h => by simp at h
  | _ :: _, [], h => by simp at h
  | x :: a, y :: b, h => by
    rw [List.map_cons, List.map_cons] at h
    injection h with h1 h2
    rw [hf _ _ h1, map_inj' hf h2]
section
variable {S : Sr} {M M' : Addr → Prop} {H : Hp}
end
section
variable {X : Cx} {o e f : Expr} {apos cpos : Pos} {pos : Pos}
end
end PH

namespace HDc
open PySem PySem.Spec PyProof.Rows L2
def AtTurn (Y : Cx) (w : L2.St) (tn : Nat → Heap → Prop) (fp : List Addr) (W : Nat → Nat → Hp → Prop) (n : Nat) (z : Shared) : Prop := ∃ i G, Inv Y [] w G z ∧ tn i z.heap ∧ (∀ b ∈ fp, G b = none) ∧ W i n G
theorem AtTurn.next {P : Program} {wd : World} {K : PySem.W.Frag} {tg : Expr} {J : It} {it : Addr} {Y : Cx} {w w' : L2.St} {tn : Nat → Heap → Prop} {fp : List Addr} {W : Nat → Nat → Hp → Prop} {vs : List Nat} {i n : Nat} {z7 z : Shared} {G : Hp} {Nx : Hp → Prop}
    (T : Turn P wd K tg J fp it tn) (st : tn (i + 1) z7.heap) (hw : wipe w' vs = wipe w vs) (I : Inv Y ([] ++ pinsAt fp z7.heap) w' G z) (hN : ∀ G', Nx G' → ∃ m, m < n ∧ W (i + 1) m G') (nx : Nx G) : ∃ m, m < n ∧ AtTurn Y (wipe w vs) tn fp W m z := by
  obtain ⟨m, lt, wm⟩ := hN G nx
  have held : ∀ b ∈ fp, ∀ o, z7.heap.get? b = some o → z.heap.get? b = some o ∧ G b = none := fun b hb o e => by
    have q := I.pin (b, o) (List.mem_append_right _ (List.mem_append_right _ (mem_pinsAt hb e)))
    exact ⟨q.1, q.2.1⟩
  have back : Inv Y [] (wipe w vs) G z := by
    refine (I.unpinned (pins := [])).weak (by rw [← hw, wipe_length]) fun j v e => ?_
    rw [← hw] at e
    exact (wipe_some e).1
  refine ⟨m, lt, i + 1, G, back, T.keep _ _ _ st fun b hb o e => (held b hb o e).1, fun b hb => ?_, wm⟩
  obtain ⟨o, e, _⟩ := T.obj _ _ st b hb
  exact (held b hb o e).2
variable {X : Cx}
end HDc

namespace PH
open PySem PySem.Spec L2
section
variable {S : Sr} {M : Addr → Prop} {H : Hp}
end
section
variable {X : Cx} {pos : Pos}
end
end PH

namespace PH
open PySem PySem.Spec L2
section
variable {X : Cx} {Wx : WX} {pos : Pos}
end
end PH
namespace PH
open PySem PySem.Spec L2
section
variable {X : Cx} {Wx : WX}
end
end PH

namespace PH
open PySem PySem.Spec L2
theorem _root_.L2.Room.u1 {k : Nat} {A : PySem.Around} (r : L2.Room k A) : A.units + 1 < PySem.cLine := by have := r.un; omega
theorem _root_.L2.Room.u0 {k : Nat} {A : PySem.Around} (r : L2.Room k A) : A.units < PySem.cLine := by have := r.un; omega
section
variable {X : Cx} {Wx : WX} {e : Expr} {m : DE} {pos : Pos}
end
end PH

namespace PH
open PySem PySem.Spec L2
namespace Fq
def r (x : Fq) : Rat := Rat.divInt x.p x.q
theorem r_inj {x y : Fq} (h : x.r = y.r) : x = y := by
  unfold r at h
  have h1 := x.pos
  have h2 := y.pos
  rw [Rat.divInt_eq_divInt_iff (by omega) (by omega)] at h
  obtain ⟨e1, e2⟩ := form_uniq x.pos y.pos x.cop y.cop h
  exact ext' e1 e2
def add (x y : Fq) : Fq := mkF (x.p * y.q + y.p * x.q) (x.q * y.q) (Int.mul_pos x.pos y.pos)
def neg (x : Fq) : Fq := ⟨-x.p, x.q, x.pos, by rw [Int.neg_gcd]; exact x.cop⟩
theorem neg_r (x : Fq) : (neg x).r = -x.r := by
  unfold r neg
  rw [Rat.neg_divInt]
theorem neg_neg (x : Fq) : neg (neg x) = x := r_inj (by rw [neg_r, neg_r]; grind)
end Fq
abbrev PW := List (Fq × Int)
def linW (f : Fq → Int) (b : PW) : Int := (b.map fun x => x.2 * f x.1).sum
def oneAt (h : Fq) : Fq → Int := fun x => if x = h then 1 else 0
def wt (b : PW) (h : Fq) : Int := linW (oneAt h) b
end PH

namespace PH
open PySem PySem.Spec L2
end PH

namespace PH
open PySem PySem.Spec L2
abbrev kq (h : Fq) : List Key := [.inl h.p, .inl h.q]
abbrev kx (x : Fq × Int) : List Key × Int := (kq x.1, x.2)
end PH

namespace PH
open PySem PySem.Spec L2
end PH

namespace PH
open PySem PySem.Spec L2
end PH
namespace PH
open PySem PySem.Spec L2
end PH
namespace PH
open PySem PySem.Spec L2
end PH

namespace PH
open PySem PySem.Spec PyProof.Rows L2 LamX NdefX
section
variable {P : Program} {w : World} {H : Hp} {h : Heap} {a b : Addr} {oa ob : Obj}
end
end PH

namespace PH
open PySem PySem.Spec PyProof.Rows L2 LamX NdefX
theorem code_nd {a c : Addr} {q : Str} {o : Obj} (h : CodeO c q = ndO a o) (ho : ∃ es ep, o.data = .dict es ep) : False := by
  obtain ⟨es, ep, hd⟩ := ho
  have e : (fun h : Heap => ∃ (oc : Obj) (vs : Array Value) (t : Tok), h.get? c = some oc ∧ oc.data = .fields vs ∧ vs[1]? = some (.str q t)) = fun h : Heap => h.get? a = some o := by
    unfold CodeO ndO at h
    injection h
  let hp : Heap := ⟨Array.replicate (max a c + 1) o, {}⟩
  have g : ∀ b, b ≤ max a c → hp.get? b = some o := fun b hb => by
    have h1 : hp.objs[b]? = some o := by
      show (Array.replicate (max a c + 1) o)[b]? = some o
      rw [Array.getElem?_replicate, if_pos (Nat.lt_succ_of_le hb)]
    unfold Heap.get?
    rw [h1]
    obtain ⟨oc, od, dt, sl⟩ := o
    simp only at hd
    subst hd
    rfl
  have h1 : (fun h : Heap => h.get? a = some o) hp := g a (Nat.le_max_left _ _)
  rw [← e] at h1
  obtain ⟨oc, vs, t, h2, h3, _⟩ := h1
  rw [g c (Nat.le_max_right _ _)] at h2
  cases h2
  rw [hd] at h3
  cases h3
section
variable {S : Sr} {M : Addr → Prop} {H : Hp} {a b : Addr} {oa ob : Obj}
end
end PH

namespace PH
open PySem PySem.Spec PyProof.Rows L2 LamX NdefX
end PH

namespace PH
open PySem PySem.Spec L2 LamX NdefX
open PyProof.Rows (envOfC AllBare IntsAre)
section
variable {X : Cx} {k : Nat} {e : Expr} {p lp pos : Pos}
end
end PH

namespace PH
open PySem PySem.Spec L2
end PH

namespace PH
open PySem PySem.Spec L2
end PH

namespace PH
open PySem PySem.Spec L2
end PH

namespace PySem
set_option maxHeartbeats 1000000 in
theorem meets_enum_new1 {v : Value} {o : Obj} {H : Heap → Prop} (B : Begins v o H) :
    Meets (Builtin.«enumerate.__new__» ⟨[.type "enumerate", v], []⟩) (fun _ R s => H s.heap ∧
      R (.ok (.ret (.ref (s.heap.push o).objs.size))) { s with heap := (s.heap.push o).push { cls := .type "enumerate", data := .fields #[.none, .bool false, .ref s.heap.objs.size, rawInt 0, .none, .none] } }) :=
  .of_wp fun prog w A R s h => by
    obtain ⟨hp, g, d, tk, os⟩ := s; obtain ⟨h1, h⟩ := h
    have hsub := sub_enumerate
    have q1 : ∀ {A' : Around} {E : Value → Shared → Prop} {Q : Value → Shared → Prop}, Q (.ref hp.objs.size) ⟨hp.push o, g, d, tk, os⟩ → wpAny (model prog w) A' (pyIter v) Q E ⟨hp, g, d, tk, os⟩ :=
      fun q => B.iter prog w _ _ ⟨hp, g, d, tk, os⟩ _ h1 q
    wp_walk using q1
    refine wpAny_stack_any fun st => wpAny_pure ?_
    split
    · rename_i c _ _ _ _ _
      cases (c == Value.type "enumerate")
      · wp_walk using q1
        exact ⟨_, rfl, h⟩
      · wp_walk using q1
        exact ⟨_, rfl, h⟩
    · wp_walk using q1
      exact ⟨_, rfl, h⟩
section
variable {prog : Program} {w : World} {A : Around} {E : Value → Shared → Prop} {s : Shared}
theorem call_enum1 {v : Value} {o : Obj} {H : Heap → Prop} {Q : Value → Shared → Prop} (B : Begins v o H) (h1 : H s.heap)
    (h : ∀ h', IsEnum h' (s.heap.objs.size + 1) s.heap.objs.size 0 .none → h'.get? s.heap.objs.size = some o → h'.objs.size = s.heap.objs.size + 2 →
      (∀ b o, s.heap.get? b = some o → h'.get? b = some o) → Q (.ref (s.heap.objs.size + 1)) { s with heap := h' }) :
    wpAny (model prog w) A (call (.type "enumerate") [v]) Q E s := by
  refine callType_new F.called_enumerate (by decide) (F.typeCall_enumerate_1 _) (F.newCall_enumerate_1 _) (fun obj => F.args_object_init_2 obj _) F.entry_enumerate_new
    (meets_enum_new1 B) ⟨h1, ?_⟩
  have hz : (s.heap.push o).objs.size = s.heap.objs.size + 1 := Heap.size_push ..
  show _ ∧ _
  rw [hz]
  have he : IsEnum ((s.heap.push o).push { cls := .type "enumerate", data := .fields #[.none, .bool false, .ref s.heap.objs.size, rawInt 0, .none, .none] }) (s.heap.objs.size + 1) s.heap.objs.size 0 .none := by
    have := Heap.get?_push_size (s.heap.push o) (o := { cls := .type "enumerate", data := .fields #[.none, .bool false, .ref s.heap.objs.size, rawInt 0, .none, .none] }) rfl
    rw [hz] at this; exact this
  refine ⟨⟨_, he, rfl⟩, h _ he (Heap.get?_push_of_some _ (Heap.get?_push_size _ B.free)) (by rw [Heap.size_push, hz]) fun b o x => Heap.get?_push_of_some _ (Heap.get?_push_of_some _ x)⟩
end
end PySem
namespace PH
open PySem PySem.Spec L2 RZ
open PyProof.Rows
def IteT (K : PySem.W.Frag) (a : Addr) : It :=
  ⟨fun i H => ∃ (xs : List V) (x : V), SqT K H a xs ∧ xs[i]? = some x, fun i H v H' => ∃ T x, v = .ref T ∧ H T = none ∧ H' = upd H T (.tup [.int (i : Nat), x]) ∧ ∀ xs, SqT K H a xs → xs[i]? = some x, fun i H => ∃ xs : List V, SqT K H a xs ∧ xs.length = i⟩
theorem turn_enumT {P : Program} {w : World} {K : PySem.W.Frag} {elts : List Expr} {kk : Nat} {tpos : Pos} (a e it : Addr) :
    Turn P w K (.Tuple elts kk tpos) (IteT K a) [e, it] e (fun i h => (∃ old, IsEnum h e it ((i : Nat) : Int) old) ∧ h.IsTupleIter it a i ∧ e ≠ it ∧ e ≠ a ∧ a ≠ it) where
  mem := by simp
  obj := fun i h st b hb => by
    obtain ⟨⟨old, he⟩, ⟨o, ho, hc, hd⟩, _⟩ := st
    have e' : b = e ∨ b = it := by simpa using hb
    rcases e' with z | z
    · rw [z]; exact ⟨_, he, fun v q => nomatch q⟩
    · rw [z]; exact ⟨o, ho, fun v q => by rw [hd] at q; cases q⟩
  keep := fun i h h' st k => let ⟨⟨old, he⟩, hi, hne⟩ := st; ⟨⟨old, k e (by simp) _ he⟩, hi.at fun o q => k it (by simp) o q, hne⟩
  item := by
    intro X hP hw hK hc i pins s σ H E I hf st hg
    subst hP hw hK
    obtain ⟨⟨old, he⟩, hit, hne, hea, hai⟩ := st
    obtain ⟨xs, x, hq, hx⟩ := hg
    obtain ⟨its, rv, p, hz⟩ := I.tuple hq
    obtain ⟨u, hu, ru⟩ := rv.get hx
    have hel : e < s.heap.objs.size := Heap.lt_size he
    have hil : it < s.heap.objs.size := by obtain ⟨_, q, _⟩ := hit; exact Heap.lt_size q
    have hin : i < its.toArray.size := by
      have := (List.getElem?_eq_some_iff.mp hu).1
      simpa using this
    refine wpAny_pyNext_enum_itemC (Draws.tuple (A := X.A.in1) (show X.A.in1.handled = none from I.ok.hd hc) it a hai its.toArray) he ⟨hit, p⟩ hin hne (by simp [hne, hea]) fun y h' tk hy ho hit' hT hsz hk => ?_
    obtain rfl : u = y := by
      have : its.toArray[i]? = some u := by simpa using hu
      rw [this] at hy; exact Option.some.inj hy
    refine ⟨_, rfl, wpAny_letOwnedTupleGo_enum (s := { s with heap := h', toks := tk + 1 }) ho fun h'' he' sb => ?_⟩
    have hT2 : h''.get? s.heap.objs.size = some { cls := .type "tuple", data := .seq #[.int i tk, u] } := (sb.2 _ (Nat.ne_of_gt hel)).trans hT
    have new : ObjOk X.prog X.w (upd H s.heap.objs.size (.tup [.int (i : Nat), x])) h'' s.heap.objs.size (.tup [.int (i : Nat), x]) :=
      ⟨by show 2 ≤ sizeLine; decide, [.int i tk, u], .cons ⟨_, rfl⟩ (.cons ru .nil), ⟨_, hT2, rfl, _, rfl⟩⟩
    have I1 : Inv X pins σ (upd H s.heap.objs.size (.tup [.int (i : Nat), x])) { s with heap := h'', toks := tk + 1 } :=
      I.turnedNew (ch := [e, it]) (fun b ob hb q => (sb.2 b (fun z => hb (by simp [z]))).trans (hk b ob (fun z => hb (by simp [z])) (fun z => hb (by simp [z])) q)) hf (Nat.le_refl _) new
    refine ⟨.ref s.heap.objs.size, _, I1, rfl, ⟨_, x, rfl, I.hok.fresh (Nat.le_refl _), rfl, fun ys hy => by rw [I.tuple_inj hy hq]; exact hx⟩, ⟨⟨u, ?_⟩, hit'.1.at fun o q => (sb.2 it (Ne.symm hne)).trans q, hne, hea, hai⟩, fun b hb => ?_⟩
    · have e1 : ((i + 1 : Nat) : Int) = (i : Int) + 1 := by omega
      rw [e1]; exact he'
    · have hb' : b < s.heap.objs.size := by
        have e' : b = e ∨ b = it := by simpa using hb
        rcases e' with z | z
        · rw [z]; exact hel
        · rw [z]; exact hil
      rw [upd_ne (Nat.ne_of_lt hb')]
      exact (hf b hb).1
  done := by
    intro X hP hw hK hc i pins s σ H E I hf st hg
    subst hP hw hK
    obtain ⟨⟨old, he⟩, hit, hne, hea, hai⟩ := st
    obtain ⟨xs, hq, hx⟩ := hg
    obtain ⟨its, rv, p, hz⟩ := I.tuple hq
    obtain ⟨f0, f1, f2, f3, f4, f5⟩ := hf it (by simp)
    have hl := rv.length
    have D := Draws.tuple (prog := X.prog) (w := X.w) (A := X.A.in1) (show X.A.in1.handled = none from I.ok.hd hc) it a hai its.toArray
    have hsz : its.toArray.size = i := by simp; omega
    exact wpAny_pyNext_enum_endD D he ⟨by rw [hsz]; exact hit, p⟩ fun h' eb => ⟨rfl, I.turned (t' := s.toks) (fun b o hb q => eb b o hb q) f0 f1 f3 f4 f5⟩
  self := fun A i s Q E st h => let ⟨⟨_, he⟩, _⟩ := st; wpAny_pyIter_enum he h
def iEnumT (K : PySem.W.Frag) (ta : TA) : TI := fun σ H R => ta σ H fun vs H1 => ∃ a xs, vs = [.ref a] ∧ SqT K H1 a xs ∧ R (IteT K a) H1
theorem pi_enumT {X : Cx} {e : Expr} {ta : TA} {p pos tpos : Pos} {elts : List Expr} {kk : Nat} (hg : Gl X "enumerate") (hm : X.mg "enumerate" = none) (ha : PA X [e] ta) (hs : starEach [e] X.env = [(false, eval e X.env)] := by rfl) :
    PI X (.Tuple elts kk tpos) (.Call (.Name "enumerate" p) [e] [] pos) (iEnumT X.K ta) := by
  refine ⟨fun pins s σ H R I h => ?_⟩
  refine Call_ (ld_blt I hg hm boot_enumerate (PyProof.Rows.callWith_type1 (thn (ha.run pos pins s σ H _ I h) fun us s1 ⟨vs, H1, I1, r1, q1⟩ => ?_) hs rfl))
  obtain ⟨a, xs, ex, hq, q⟩ := q1
  subst ex
  cases r1 with
  | cons r rr =>
    cases rr
    cases r
    obtain ⟨its, rv, p', hz⟩ := I1.tuple hq
    have hal : a < s1.heap.objs.size := by obtain ⟨_, y, _⟩ := p'; exact Heap.lt_size y
    refine call_enum1 (begins_tuple a its.toArray) p' fun h' he hit hsz hk => wpAny_pyIter_enum he ?_
    have I2 : Inv X pins σ H1 { s1 with heap := h' } := I1.kept (t' := s1.toks) hk
    refine ⟨s1.heap.objs.size + 1, [s1.heap.objs.size + 1, s1.heap.objs.size], _, _, H1, rfl, I2, turn_enumT a (s1.heap.objs.size + 1) s1.heap.objs.size, ⟨⟨.none, he⟩, ⟨_, hit, rfl, rfl⟩, Nat.succ_ne_self _, Nat.ne_of_gt (Nat.lt_succ_of_lt hal), Nat.ne_of_lt hal⟩, fun b hb => ?_, q⟩
    have e' : b = s1.heap.objs.size + 1 ∨ b = s1.heap.objs.size := by simpa using hb
    have hle : s1.heap.objs.size ≤ b := by
      rcases e' with z | z
      · rw [z]; exact Nat.le_add_right _ _
      · rw [z]; exact Nat.le_refl _
    exact I1.fpOk hle (I1.hok.fresh hle)
theorem walk_enumT {K : PySem.W.Frag} {a : Addr} {xs : List V} : Walk (IteT K a) xs.length (fun H => SqT K H a xs) (YPair (fun i => some (.int (i : Nat))) (fun i => xs[i]?)) := by
  refine ⟨fun i _ hi q => ⟨xs, xs[i], q, by simp [hi]⟩, fun _ q => ⟨xs, q, rfl⟩, fun i H v H' _ q y => ?_⟩
  obtain ⟨T, x, h1, h2, h3, h4⟩ := y
  exact ⟨T, .int (i : Nat), x, h1, h2, h3, rfl, h4 xs q⟩
def dEnumT (m : DA) : DA := fun σd Q => m σd fun ds => match ds with | [.tuple xs] => Q (enumD xs) | _ => False
theorem li_enumT {K : PySem.W.Frag} {n : Nat} {t : TA} {m : DA} (h : LA n t m) : LI (iEnumT K t) (dEnumT m) := by
  intro S M H0 H σ σd Qd R E hm k
  refine h S M H0 H σ σd _ _ E hm fun ds vs H1 q E1 k1 r1 _ => ?_
  split at q
  · rename_i ds
    cases r1 with
    | cons a b =>
      cases b
      cases a with
      | @tup p xs _ na ea ra =>
        refine ⟨p, xs, rfl, .inl (.inl ea), k _ _ H1 q E1 k1 ⟨fun H => SqT K H p xs, _, by rw [enumD_len, ← ra.length]; exact walk_enumT, fun H2 st => Or.inl (Or.inl (st.k _ _ na ea)), fun i H2 x H3 hi st y => ?_⟩⟩
        obtain ⟨T, x1, y1, e1, hT, e3, hx, hy⟩ := y
        subst e1; subst e3
        have sm := Same.upd (o := .tup [x1, y1]) hT
        refine ⟨sm, fun M' h1 h2 => ?_⟩
        obtain ⟨d, hd, qd⟩ := ra.getV hy
        have g : ∀ b o, ¬ MO M σd b → H1 b = some o → ¬ M' b ∧ (upd H2 T (.tup [x1, y1]) b = some o ∨ ∃ ps ps', o = .tbl ps ∧ upd H2 T (.tup [x1, y1]) b = some (.tbl ps')) := fun b o n eb => ⟨h2 b o n eb, (st b o n eb).imp (sm b o) fun ⟨ps, ps', q1, q2⟩ => ⟨ps, ps', q1, sm _ _ q2⟩⟩
        obtain rfl : V.int (i : Int) = x1 := Option.some.inj hx
        exact ⟨.tuple [.int i, d], enumD_get _ hd, .tup (fun z => h1 T z hT) upd_same (.cons (.int _) (.cons (qd.goT g) .nil))⟩
  · exact q.elim
section
variable {X : Cx} {a : Expr} {n : Nat} {md : DA} {pos : Pos}
theorem pdi_enumT {p tpos : Pos} {elts : List Expr} {kk : Nat} (hg : Gl X "enumerate") (hm : X.mg "enumerate" = none) (ha : PDA X [a] n md) (hs : starEach [a] X.env = [(false, eval a X.env)] := by rfl) :
    PDI X (.Tuple elts kk tpos) (.Call (.Name "enumerate" p) [a] [] pos) (dEnumT md) := let ⟨_, h1, l1⟩ := ha; ⟨_, pi_enumT hg hm h1 hs, li_enumT (K := X.K) l1⟩
end
end PH

namespace PH
open PySem PySem.Spec L2
end PH
namespace PH
open PySem PySem.Spec L2
end PH
namespace PH
open PySem PySem.Spec L2
end PH
namespace PH
open PySem PySem.Spec L2
end PH

namespace PH
open PySem PySem.Spec L2
structure Dv where
  a : Int
  b : Int
  cop : Int.gcd a b = 1
deriving DecidableEq
namespace Dv
def lt (x y : Dv) : Bool := aheadB x.a x.b y.a y.b
theorem ext' {x y : Dv} (h1 : x.a = y.a) (h2 : x.b = y.b) : x = y := by
  obtain ⟨a, b, c⟩ := x
  obtain ⟨a', b', c'⟩ := y
  obtain rfl : a = a' := h1
  obtain rfl : b = b' := h2
  rfl
theorem nz (x : Dv) : ¬ (x.a = 0 ∧ x.b = 0) := gcd_ne x.cop
theorem irr (x : Dv) : lt x x = false := ahead_irr _ _
theorem trans (x y z : Dv) (h1 : lt x y = true) (h2 : lt y z = true) : lt x z = true := ahead_trans x.nz y.nz z.nz h1 h2
theorem tot (x y : Dv) (h : x ≠ y) : lt y x = !lt x y := ahead_tot x.cop y.cop fun z => h (ext' z.1 z.2)
theorem asym {x y : Dv} (h : lt x y = true) : lt y x = false := ahead_asym h
end Dv
def e1 : Dv := ⟨1, 0, by decide⟩
end PH

namespace PH
open PySem PySem.Spec L2
end PH

namespace PH
open PySem PySem.Spec L2
structure Ar where
  uv : Option (Dv × Dv)
  w : Int
def arcV (p q u : Dv) : Bool := if Dv.lt p q = true then Dv.lt p u && Dv.lt u q else Dv.lt p u || Dv.lt u q
def cont (p q u : Dv) : Bool := decide (u = p) || decide (u = q) || (!decide (p = q) && arcV p q u)
end PH

namespace PH
open PySem PySem.Spec L2
abbrev kv (h : Dv) : List Key := [.inl h.a, .inl h.b]
end PH

namespace PH
open PySem PySem.Spec L2
end PH

namespace PH
open PySem PySem.Spec L2
end PH
namespace PH
open PySem PySem.Spec L2
end PH

namespace PH
open PySem PySem.Spec L2
section
variable {X : Cx} {Wx : WX} {b : Expr} {pos p1 : Pos}
end
end PH

namespace PH
open PySem PySem.Spec L2
end PH

namespace PH
open PySem PySem.Spec L2
end PH

namespace PH
open PySem PySem.Spec L2
section
variable {R O : List Ar} {k m n W : Nat} {Q : D → Prop}
end
end PH
namespace PH
open PySem PySem.Spec L2
end PH

namespace PH
open PySem PySem.Spec PyProof.Rows L2
section
variable {X : Cx} {o e f i value : Expr} {pos pos' apos cpos : Pos} {td ty tx tv : TE}
def tNGet (td ty : TE) : TE := fun σ H Q => td σ H fun x H1 => ty σ H1 fun y H2 => ∃ (M : Addr → Prop) (a b : Addr) (k : NestedKey) (kvs : List (NestedKey × V)) (v : V), x = .ref a ∧ y = .ref b ∧ NdAt M H2 a kvs ∧ KeyOk k ∧ KeyV M H2 k (.ref b) ∧ valV kvs k = some v ∧ Q v H2
theorem pe_nget (hu : X.A.units + 10 < cLine) (ho : PE X o td) (hi : PE X i ty) (hs : NoSl i) : PE X (.Subscript o i pos) (tNGet td ty) := by
  refine ⟨fun pins s σ H Q I h => ?_⟩
  refine subD_of PySem.F.slot_dict_getitem.lookup hs (thn (ho.run pins s σ H _ I h) fun u s1 ⟨x, H1, I1, rx, q1⟩ => thn (hi.run pins s1 σ H1 _ I1 q1) fun iv s2 ⟨y, H2, I2, ry, M, a, b, k, kvs, v, ex, ey, n, hk, kb, hv, q2⟩ => ?_)
  subst ex ey
  obtain rfl : u = Value.ref a := rx
  obtain rfl : iv = Value.ref b := ry
  exact ⟨(nd_typeIs I2 n).1, nd_item hu I2 n hk kb hv fun w' s3 I3 rw' => ⟨v, H2, I3, rw', q2⟩⟩
def tNGet2 (td ty tx : TE) : TE := fun σ H Q => td σ H fun x H1 => ∃ (M : Addr → Prop) (a : Addr) (kvs : List (NestedKey × V)), x = .ref a ∧ NdAt M H1 a kvs ∧ ty σ H1 fun y H2 => tx σ H2 fun z H3 =>
  ∃ (M : Addr → Prop) (b : Addr) (k : NestedKey) (kvs : List (NestedKey × V)), y = .ref b ∧ NdAt M H3 a kvs ∧ KeyOk k ∧ KeyV M H3 k (.ref b) ∧ Q ((valV kvs k).getD z) H3
theorem pe_nget2 (hu : X.A.units + 10 < cLine) (ho : PE X o td) (he : PE X e ty) (hf : PE X f tx) (m : M2 X o "get" apos e f cpos) : PE X (.Call (.Attribute o "get" apos) [e, f] [] cpos) (tNGet2 td ty tx) := by
  refine ⟨fun pins s σ H Q I h => ?_⟩
  refine wpAny_Call_method m.base m.few m.line PySem.F.plainAttrs_dict PySem.F.slot_dict_get PySem.F.type_dict_get (thn (ho.run pins s σ H _ I h) fun u s1 ⟨x, H1, I1, rx, M, a, kvs, ex, d, q1⟩ => ?_)
  subst ex
  obtain rfl : u = Value.ref a := rx
  obtain ⟨t1, t2, _⟩ := nd_typeIs I1 d
  refine ⟨t1, t2, ?_⟩
  rw [m.trees]
  refine Calls.callWith_builtin rfl (Calls.evalArgs_plain (Calls.spliced_cons (thn (he.run pins s1 σ H1 _ I1 q1) fun iv s2 ⟨y, H2, I2, ry, q2⟩ =>
    Calls.spliced_cons (thn (hf.run pins s2 σ H2 _ I2 q2) fun fv s3 ⟨z, H3, I3, rz, M', b, k, kvs', ey, n, hk, kb, q3⟩ => Calls.spliced_nil ?_))))
  subst ey
  obtain rfl : iv = Value.ref b := ry
  exact nd_get hu I3 n hk kb rz fun w' s4 I4 rw' => ⟨_, H3, I4, rw', q3⟩
def sNPut (td ty tv : TE) : TS := fun D σ H => tv σ H fun v H1 => td σ H1 fun x H2 => ty σ H2 fun y H3 => ∃ (M : Addr → Prop) (a b : Addr) (k : NestedKey) (kvs : List (NestedKey × V)), x = .ref a ∧ y = .ref b ∧ NdAt M H3 a kvs ∧ kvs.length < sizeLine ∧ KeyOk k ∧ KeyV M H3 k (.ref b) ∧
  ∀ o', NdAt M (upd H3 a (ndO a o')) a (putK kvs k v) → D.nx σ (upd H3 a (ndO a o'))
theorem ps_nput (hu : X.A.units + 10 < cLine) (ho : PE X o td) (hi : PE X i ty) (hv : PE X value tv) (hs : swapsWith value (some (.Subscript o i pos')) pos.line X.env = pure false) :
    PS X (.Assign [.Subscript o i pos'] value pos) (sNPut td ty tv) := by
  refine ⟨fun pins s σ H D I h => ?_⟩
  refine wpAny_Assign_Subscript (thn (hv.run pins s σ H _ I h) fun r s1 ⟨v, H1, I1, rv, q1⟩ => thn (ho.run pins s1 σ H1 _ I1 q1) fun u s2 ⟨x, H2, I2, rx, q2⟩ => thn (hi.run pins s2 σ H2 _ I2 q2) fun iv s3 ⟨y, H3, I3, ry, M, a, b, k, kvs, ex, ey, n, hl, hk, kb, q3⟩ => ?_) hs
  subst ex ey
  obtain rfl : u = Value.ref a := rx
  obtain rfl : iv = Value.ref b := ry
  exact nd_store hu I3 n hl hk kb rv fun o' s4 n4 I4 => ⟨σ, _, I4, q3 o' n4⟩
def tNNew : TE := fun _ H Q => ∀ p o, H p = none → (∀ M : Addr → Prop, NdAt M (upd H p (ndO p o)) p []) → Q (.ref p) (upd H p (ndO p o))
theorem pe_nnew : PE X (.Dict [] [] pos) tNNew := ⟨fun pins s σ H Q I h => by
  obtain ⟨o, hn, J⟩ := nd_new I (t' := s.toks)
  exact wpAny_Dict_empty ⟨.ref s.heap.objs.size, _, J, rfl, h _ o (I.hok.fresh (Nat.le_refl _)) hn⟩⟩
def ItN (d : Addr) (o : Obj) (bs : List V) : It :=
  ⟨fun i H => H d = some (ndO d o) ∧ i < bs.length, fun i H x H' => H' = H ∧ bs[i]? = some x, fun i H => H d = some (ndO d o) ∧ bs.length ≤ i⟩
theorem turn_nd {P : Program} {w : World} {K : PySem.W.Frag} {tg : Expr} {d : Addr} {o : Obj} {es : Array DictEntry} {ep : Nat} {bs : List Addr} (it : Addr) (hod : o.data = .dict es ep) (hx : o.ExactDict) (hs : (d == sysModules) = false) (hb : es.toList.map (·.key) = bs.map Value.ref) :
    Turn P w K tg (ItN d o (bs.map V.ref)) [it] it (fun i h => h.IsKeyIter it d i bs.length ep) where
  mem := by simp
  obj := fun i h st b hb => by
    have e : b = it := by simpa using hb
    subst e
    obtain ⟨oi, e, c, dd⟩ := st
    exact ⟨oi, e, fun v z => by rw [dd] at z; cases z⟩
  keep := fun i h h' st k => st.at fun oi e => k it (by simp) oi e
  item := by
    intro X hP hw hK hc i pins s σ H E I hf st hg
    subst hP hw hK
    obtain ⟨hd, hi⟩ := hg
    obtain ⟨f0, f1, f2, f3, f4, f5⟩ := hf it (by simp)
    obtain ⟨hgd, _, _⟩ := (show ObjOk X.prog X.w H s.heap d (ndO d o) from I.hok d _ hd)
    have hsz : es.size = bs.length := by
      have := congrArg List.length hb
      simpa using this
    have hi' : i < bs.length := by simpa using hi
    have hi2 : i < es.size := by omega
    have hkey : es[i].key = .ref bs[i] := by
      have h1 : (es.toList.map (·.key))[i]? = (bs.map Value.ref)[i]? := by rw [hb]
      rw [List.getElem?_map, List.getElem?_map, List.getElem?_eq_getElem (by simpa using hi2), List.getElem?_eq_getElem hi'] at h1
      simpa using h1
    refine next_key_item st hgd hod hsz (Array.getElem?_eq_getElem hi2) fun h' st' sb => ?_
    have I1 : Inv X pins σ H { s with heap := h' } := I.turned (t' := s.toks) (fun b ob hb e => (sb.2 b hb).trans e) f0 f1 f3 f4 f5
    obtain ⟨oi, e, c, dd⟩ := id st'
    exact ⟨es[i].key, rfl, go_of (s := { s with heap := h' }) e c dd (by decide) ⟨.ref bs[i], H, I1, hkey, ⟨rfl, by rw [List.getElem?_map, List.getElem?_eq_getElem hi']; rfl⟩, st', fun b hb => (hf b hb).1⟩⟩
  done := by
    intro X hP hw hK hc i pins s σ H E I hf st hg
    subst hP hw hK
    obtain ⟨hd, hi⟩ := hg
    obtain ⟨f0, f1, f2, f3, f4, f5⟩ := hf it (by simp)
    obtain ⟨hgd, _, _⟩ := (show ObjOk X.prog X.w H s.heap d (ndO d o) from I.hok d _ hd)
    have hsz : es.size = bs.length := by
      have := congrArg List.length hb
      simpa using this
    exact next_key_end (I.ok.hd hc) st hgd hod hsz (by simpa using hi) fun h' eb => ⟨rfl, I.turned (t' := s.toks) (fun b ob hb e => eb b ob hb e) f0 f1 f3 f4 f5⟩
  self := fun A i s Q E st h => by
    refine wpAny_pyIter_slot st.typeIs F.slot_dict_keyiterator_iter (wpAny_call_entry F.slot_dict_keyiterator_iter st.typeIs F.entry_dict_keyiterator_iter ?_ (F.args_dict_keyiterator_iter_1 _))
    show wpAny _ _ (ret (.ref it)) _ _ s
    exact wpAny_pure ⟨_, rfl, "dict_keyiterator", _, st.typeIs, F.slot_dict_keyiterator_next.lookup, h⟩
def KeysAt (M : Addr → Prop) (H : Hp) (d : Addr) (o : Obj) (kvs : List (NestedKey × V)) (bs : List Addr) : Prop := H d = some (ndO d o) ∧ Paired (fun p b => KeyV M H p.1 (.ref b)) kvs bs
def iND (td : TE) : TI := fun σ H R => td σ H fun x H1 => ∃ (M : Addr → Prop) (d : Addr) (kvs : List (NestedKey × V)), x = .ref d ∧ NdAt M H1 d kvs ∧ ∀ o bs, KeysAt M H1 d o kvs bs → R (ItN d o (bs.map V.ref)) H1
theorem pi_nd {tg : Expr} (he : PE X e td) : PI X tg e (iND td) := by
  refine ⟨fun pins s σ H R I h => ?_⟩
  refine thn (he.run pins s σ H _ I h) fun u s1 ⟨x, H1, I1, rx, M, d, kvs, ex, n, q⟩ => ?_
  subst ex
  obtain rfl : u = Value.ref d := rx
  obtain ⟨o, xs, es, ep, eo, x, l, hs⟩ := n
  obtain ⟨hgd, _, _⟩ := (show ObjOk X.prog X.w H1 s1.heap d (ndO d o) from I1.hok d _ eo)
  have hb : es.toList.map (·.key) = (xs.map fun y => y.2.1).map Value.ref := by rw [x.en, List.map_map, List.map_map]; rfl
  have hp : Paired (fun p b => KeyV M H1 p.1 (.ref b)) kvs (xs.map fun y => y.2.1) := by
    have := x.rel
    clear hb q l hs
    revert this
    generalize hk : kvs = kv
    generalize hx : xs = xx
    intro r
    clear hk hx x
    induction r with
    | nil => exact .nil
    | cons f t ih => exact .cons (by rw [f.1]; exact f.2.1) ih
  have hsz : es.size = (xs.map fun y => y.2.1).length := by
    have := congrArg List.length hb
    simpa using this
  refine iter_keys hs hgd x.ex x.dt (pi_one (tk := s1.toks) I1 _ (turn_nd _ x.dt x.ex hs hb) ⟨_, Heap.get?_push_size _ rfl, rfl, ?_⟩ (q o _ ⟨eo, hp⟩))
  rw [hsz]
  rfl
theorem walk_nd {d : Addr} {o : Obj} {bs : List V} : Walk (ItN d o bs) bs.length (fun H => H d = some (ndO d o)) (YAt bs) :=
  ⟨fun i H hi h => ⟨h, hi⟩, fun H h => ⟨h, Nat.le_refl _⟩, fun i H x H' _ _ y => y⟩
end
end PH
namespace HDn
open PySem PySem.Spec PyProof.Rows L2 PH
def tDcN (wi : TI) (g : TG) (tt : TT) (tk tv : TE) (vs : List Nat) : TE := fun σ H Q => wi σ H fun J H1 => ∀ d o0, H1 d = none → (∀ M : Addr → Prop, NdAt M (upd H1 d (ndO d o0)) d []) → ∃ W : Nat → Nat → Hp → Prop, (∃ m, W 0 m (upd H1 d (ndO d o0))) ∧ ∀ i m G, W i m G →
  (J.stop i G ∧ Q (.ref d) G) ∨ (J.go i G ∧ ∃ Nx : Hp → Prop, (∀ G', Nx G' → ∃ m', m' < m ∧ W (i + 1) m' G') ∧ ∀ x G', J.yld i G x G' → g x (wipe σ vs) G' fun σ2 G2 => wipe σ2 vs = wipe σ vs ∧ tt σ2 G2 fun yes G3 =>
    if yes = true then tk σ2 G3 fun y G4 => tv σ2 G4 fun u G5 => ∃ (M : Addr → Prop) (kvs : List (NestedKey × V)) (k : NestedKey) (b : Addr), y = .ref b ∧ KeyOk k ∧ KeyV M G5 k (.ref b) ∧ NdAt M G5 d kvs ∧ kvs.length < sizeLine ∧ ∀ o', NdAt M (upd G5 d (ndO d o')) d (putK kvs k u) → Nx (upd G5 d (ndO d o')) else Nx G3)
variable {X : Cx}
theorem dcN_core {pins : List (Addr × Obj)} {z0 : Shared} {σ : L2.St} {H : Hp} {Q : VK} {kx vx tg iter : Expr} {ifs : List Expr} {scope : Scope} {own : List (Str × Nat)} {pos pos' : Pos} {wi : TI} {g : TG} {tt : TT} {tk tv : TE} {use : Option (Value → Sem Unit)} {Qf : Value → Shared → Prop}
    (hu : X.A.units + 8 < cLine) (hc : X.calm = true) (hN : X.N.Nodup) (I0 : Inv X pins σ H z0) (hi : PI X tg iter wi) (ok : BlkOk X.N X.env.scope scope own)
    (hg : ∀ (z : Shared) (G : Hp) (C : Addr) (cl : List (Str × Addr)) (fp : List Addr), PG (X.blk z G scope (compEnvC scope cl C X.env) fp) tg g)
    (ht : ∀ (z : Shared) (G : Hp) (C : Addr) (cl : List (Str × Addr)) (fp : List Addr), PTs (X.blk z G scope (compEnvC scope cl C X.env) fp) ifs tt)
    (hk : ∀ (z : Shared) (G : Hp) (C : Addr) (cl : List (Str × Addr)) (fp : List Addr), PE (X.blk z G scope (compEnvC scope cl C X.env) fp) kx tk)
    (he : ∀ (z : Shared) (G : Hp) (C : Addr) (cl : List (Str × Addr)) (fp : List Addr), PE (X.blk z G scope (compEnvC scope cl C X.env) fp) vx tv) (hs : ∀ x, foldedSetIterable iter X.env x = pure x)
    (want : tDcN wi g tt tk tv (own.map (·.2)) σ H Q)
    (fin : ∀ d C z m G, Inv X pins σ G z → Q (.ref d) G → z.heap.Ns C m → FpOk X pins G C → compPost (model X.prog X.w) X.A X.xe use Qf (.ref d) C (.ok .next) z) :
    wpAny (model X.prog X.w) X.A (comprehension (.DictComp kx vx [⟨tg, iter, ifs, 0⟩] scope pos) scope X.env pos' newDict false (eval iter X.env) use) Qf X.xe z0 := by
  have free : ∀ y ∈ scope.names, y.2 = .free → ∃ c, X.env.cells.lookup y.1 = some c := fun y hy e => (ok.free y hy e).elim (fun k => I0.ok.has _ (.inl k)) fun k => I0.ok.has _ (.inr k)
  refine wpAny_comprehension_free (use := use) rfl hs (closure_ok free) ok.kind (fun y hy e => by rw [ok.uniq y hy, e]) (thn (hi.run pins z0 σ H _ I0 want) fun xv z1 came => thn came fun itv z2 there => ?_)
  obtain ⟨it, fp, tn, J, H2, rfl, I2, T, st2, f2, q⟩ := there
  refine wpAny_newObj_type (newEnv_comp ?_)
  -- the new dict
  obtain ⟨d, hd⟩ : ∃ d, z2.heap.objs.size = d := ⟨_, rfl⟩
  obtain ⟨o0, hn0, I3'⟩ := nd_new I2 (t' := z2.toks)
  rw [hd] at hn0 I3'
  obtain ⟨W, ⟨m0, w0⟩, turn⟩ := q d o0 (I2.hok.fresh (Nat.le_of_eq hd)) hn0
  obtain ⟨z3, hz3⟩ : ∃ z3 : Shared, z3 = { z2 with heap := z2.heap.push { cls := .type "dict", data := .dict #[] } } := ⟨_, rfl⟩
  have grown : ∀ b o, z2.heap.get? b = some o → z3.heap.get? b = some o := fun b o e => by rw [hz3]; exact Heap.get?_push_of_some _ e
  have I3 : Inv X pins σ (upd H2 d (ndO d o0)) z3 := by
    rw [hz3]
    exact I3'
  have young : ∀ b ∈ fp, b < z2.heap.objs.size := fun b hb => let ⟨o, e, _⟩ := T.obj _ _ st2 b hb; Heap.lt_size e
  have f3 : ∀ b ∈ fp, FpOk X pins (upd H2 d (ndO d o0)) b ∧ b < z3.heap.objs.size := fun b hb => by
    have lt := young b hb
    refine ⟨⟨?_, (f2 b hb).2⟩, by rw [hz3]; show b < (z2.heap.push _).objs.size; rw [Heap.size_push]; exact Nat.lt_succ_of_lt lt⟩
    rw [upd_ne (by rw [← hd]; exact Nat.ne_of_lt lt)]; exact (f2 b hb).1
  have st3 : tn 0 z3.heap := T.keep _ _ _ st2 fun b _ o e => grown b o e
  have I4 := block_start I3 ok hN f3
  obtain ⟨G3, hG3⟩ : ∃ G3, upd H2 d (ndO d o0) = G3 := ⟨_, rfl⟩
  rw [hG3] at I3 I4 w0 f3
  obtain ⟨cl, hcl⟩ : ∃ cl, cellsFrom (z3.heap.objs.size + 1) scope.names (cloFrom X.env.cells scope.names []) = cl := ⟨_, rfl⟩
  have pg := hg z3 G3 z3.heap.objs.size cl fp
  have pt := ht z3 G3 z3.heap.objs.size cl fp
  have pk := hk z3 G3 z3.heap.objs.size cl fp
  have pv := he z3 G3 z3.heap.objs.size cl fp
  rw [hcl] at I4
  have h23 : z3.heap = z2.heap.push { cls := .type "dict", data := .dict #[] } := by rw [hz3]
  show codeAny _ _ (.compStart (.DictComp kx vx [⟨tg, iter, ifs, 0⟩] scope pos) 0 (.ref it) (.ref _) (compEnvC scope (cellsFrom ((z2.heap.push _).objs.size + 1) scope.names _) (z2.heap.push _).objs.size X.env)) _ { z2 with heap := pushCells ((z2.heap.push _).push _) scope.names }
  rw [hd, ← h23, hcl]
  obtain ⟨ce, hce⟩ : ∃ ce, compEnvC scope cl z3.heap.objs.size X.env = ce := ⟨_, rfl⟩
  have home : ce.locals = z3.heap.objs.size := by rw [← hce]; rfl
  rw [hce] at I4 pg pt pk pv
  rw [hce]
  have ez : ({ z2 with heap := pushCells (z3.heap.push { cls := .type "dict", data := .dict #[] }) scope.names } : Shared) = { z3 with heap := pushCells (z3.heap.push { cls := .type "dict", data := .dict #[] }) scope.names } := by rw [hz3]
  obtain ⟨z4, hz4⟩ : ∃ z4 : Shared, { z3 with heap := pushCells (z3.heap.push { cls := .type "dict", data := .dict #[] }) scope.names } = z4 := ⟨_, rfl⟩
  rw [hz4] at I4
  refine Eq.mpr (congrArg (codeAny _ _ _ _) (ez.trans hz4)) ?_
  have nfp : ∀ b ∈ fp, G3 b = none := fun b hb => (f3 b hb).1.1
  have st4 : tn 0 z4.heap := T.keep _ _ _ st3 fun b _ o e => by rw [← hz4]; exact pushCells_keeps _ _ _ _ (Heap.get?_push_of_some _ e)
  have still : ∀ {w : L2.St} {G : Hp} {z : Shared}, Inv (X.blk z3 G3 scope ce fp) [] w G z → (∀ b ∈ fp, G b = none) → ∀ b ∈ fp, FpOk (X.blk z3 G3 scope ce fp) [] G b := fun I n b hb =>
    ⟨n b hb, (I.ok.exf b hb).1, I.ok.exfs b hb, .inl hb, fun x c e => (I.ok.exf b hb).2 x c e, fun p hp => absurd (show p ∈ ([] : List (Addr × Obj)) ++ [] from hp) (by simp)⟩
  have round : codeAny (model X.prog X.w) X.A (.compLoop (.DictComp kx vx [⟨tg, iter, ifs, 0⟩] scope pos) 0 (.ref it) (.ref d) ce) (compPost (model X.prog X.w) X.A X.xe use Qf (.ref d) z3.heap.objs.size) z4 := by
    refine compLoop_anyD (HDc.AtTurn (X.blk z3 G3 scope ce fp) (wipe σ (own.map (·.2))) tn fp W) (fun n z5 at5 => ?_) m0 ⟨0, G3, I4, st4, nfp, w0⟩
    obtain ⟨i, G5, I5, st5, n5, w5⟩ := at5
    rcases turn i n G5 w5 with ⟨stop, qq⟩ | ⟨go, Nx, hNx, step⟩
    · refine thnF (T.done (X.blk z3 G3 scope ce fp) rfl rfl rfl hc i [] z5 _ G5 (fun _ _ => False) I5 (still I5 n5) st5 stop) fun r z6 ⟨hr, I6⟩ => ?_
      subst hr
      have out : Inv X pins σ G5 z6 := I3.call' (ch := fp) I6.os I6.base I6.hok I6.bare fun b hb => ⟨(f3 b hb).1.2.2.2.1, (f3 b hb).1.2.1, (f3 b hb).1.2.2.2.2.1, (f3 b hb).1.2.2.2.2.2⟩
      have gone : G5 z3.heap.objs.size = none := by rw [← home]; exact I6.free
      obtain ⟨m, names, _⟩ := I6.loc
      have names' : z6.heap.Ns z3.heap.objs.size m := by rw [← home]; exact names
      exact fin d _ z6 m G5 out qq names' (I3.fpOk (Nat.le_refl _) gone)
    · refine thnF (T.item (X.blk z3 G3 scope ce fp) rfl rfl rfl hc i [] z5 _ G5 (fun _ _ => False) I5 (still I5 n5) st5 go) fun r z6 ⟨u, hr, got⟩ => ?_
      subst hr
      refine thnF got fun _ z7 ⟨x, G7, I7, r7, y7, st7, n7⟩ => ?_
      refine thnF (pg.run _ z7 _ G7 x u _ (I7.pinned (still I7 n7) (T.obj _ _ st7)) r7 (step x G7 y7)) fun _ z8 ⟨w8, G8, I8, hw8, q8⟩ => ?_
      refine thnF (pt.run _ z8 w8 G8 _ I8 q8) fun yes z9 ⟨G9, I9, q9⟩ => ?_
      cases yes with
      | false => exact HDc.AtTurn.next T st7 hw8 I9 hNx (by simpa using q9)
      | true =>
        rw [if_pos rfl] at q9
        refine thnF (pk.run _ z9 w8 G9 _ I9 q9) fun uk z10 ⟨yk, G10, I10, r10, q10⟩ => ?_
        refine thnF (pv.run _ z10 w8 G10 _ I10 q10) fun uv z11 ⟨yv, G11, I11, r11, M, kvs, k, b, ek, hk', eb, ed, room, nx⟩ => ?_
        subst ek
        cases r10
        exact nd_dictSet (X := X.blk z3 G3 scope ce fp) hu I11 ed room hk' eb r11 fun o' z12 at12 I12 => HDc.AtTurn.next T st7 hw8 I12 hNx (nx o' at12)
  exact codeAny_compStart_dict round (T.self X.A 0 _ _ _ st4 round)
theorem pe_dcN {kx vx tg iter : Expr} {ifs : List Expr} {scope : Scope} {own : List (Str × Nat)} {pos : Pos} {wi : TI} {g : TG} {tt : TT} {tk tv : TE} (hu : X.A.units + 8 < cLine) (hc : X.calm = true) (hN : X.N.Nodup) (hi : PI X tg iter wi) (ok : BlkOk X.N X.env.scope scope own)
    (hg : ∀ (z : Shared) (G : Hp) (C : Addr) (cl : List (Str × Addr)) (fp : List Addr), PG (X.blk z G scope (compEnvC scope cl C X.env) fp) tg g)
    (ht : ∀ (z : Shared) (G : Hp) (C : Addr) (cl : List (Str × Addr)) (fp : List Addr), PTs (X.blk z G scope (compEnvC scope cl C X.env) fp) ifs tt)
    (hk : ∀ (z : Shared) (G : Hp) (C : Addr) (cl : List (Str × Addr)) (fp : List Addr), PE (X.blk z G scope (compEnvC scope cl C X.env) fp) kx tk)
    (he : ∀ (z : Shared) (G : Hp) (C : Addr) (cl : List (Str × Addr)) (fp : List Addr), PE (X.blk z G scope (compEnvC scope cl C X.env) fp) vx tv) (hs : ∀ x, foldedSetIterable iter X.env x = pure x := by intro _; rfl) :
    PE X (.DictComp kx vx [⟨tg, iter, ifs, 0⟩] scope pos) (tDcN wi g tt tk tv (own.map (·.2))) := by
  refine ⟨fun pins z0 σ H Q I0 want => ?_⟩
  rw [arm_eval_DictComp]
  refine dcN_core hu hc hN I0 hi ok hg ht hk he hs want fun d C z m G I q names f => ⟨m, names, fun h'' only => ?_⟩
  obtain ⟨g0, g1, _, g3, g4, g5⟩ := f
  exact ⟨.ref d, G, I.turned (t' := z.toks) (fun b o hb e => (only.2 b hb).trans e) g0 g1 g3 g4 g5, rfl, q⟩
end HDn

namespace PH
open PySem PySem.Spec PyProof.Rows L2
section
variable {S : Sr} {M M' : Addr → Prop} {H : Hp}
mutual
theorem KeyV.dq : ∀ {k : NestedKey} {v : V}, KeyV M H k v → Dq S M H v (nkD k)
  | _, _, .non => .non
  | _, _, .num i => .int i
  | _, _, .tup n e q => .tup n e (KeyVs.dqs q)
theorem KeyVs.dqs : ∀ {ks : List NestedKey} {vs : List V}, KeyVs M H ks vs → Dqs S M H vs (nkDs ks)
  | _, _, .nil => .nil
  | _, _, .cons a b => .cons (KeyV.dq a) (KeyVs.dqs b)
end
mutual
theorem Dq.keyV : ∀ (k : NestedKey) {v : V}, nint k = true → Dq S M H v (nkD k) → KeyV M H k v
  | .none, v, _, q => by
    generalize e : nkD .none = d at q
    simp only [nkD] at e
    cases q <;> first | exact .non | cases e
  | .num i, v, _, q => by
    generalize e : nkD (.num i) = d at q
    simp only [nkD] at e
    cases q with
    | int j => cases e; exact .num i
    | _ => cases e
  | .text x, v, h, _ => by simp [nint] at h
  | .tup ks, v, h, q => by
    generalize e : nkD (.tup ks) = d at q
    simp only [nkD] at e
    cases q with
    | tup n e1 r => cases e; exact .tup n e1 (Dqs.keyVs' ks (by simpa [nint] using h) r)
    | _ => cases e
theorem Dqs.keyVs' : ∀ (ks : List NestedKey) {vs : List V}, nints ks = true → Dqs S M H vs (nkDs ks) → KeyVs M H ks vs
  | [], vs, _, q => by
    simp only [nkDs] at q
    cases q
    exact .nil
  | k :: ks, vs, h, q => by
    simp only [nkDs] at q
    simp only [nints, Bool.and_eq_true] at h
    cases q with
    | cons a b => exact .cons (Dq.keyV k h.1 a) (Dqs.keyVs' ks h.2 b)
end
mutual
theorem nkD_inj : ∀ (a b : NestedKey), nkD a = nkD b → a = b
  | .none, .none, _ => rfl
  | .none, .num _, h => by simp [nkD] at h
  | .none, .text _, h => by simp [nkD] at h
  | .none, .tup _, h => by simp [nkD] at h
  | .num _, .none, h => by simp [nkD] at h
  | .num i, .num j, h => by simp [nkD] at h; rw [h]
  | .num _, .text _, h => by simp [nkD] at h
  | .num _, .tup _, h => by simp [nkD] at h
  | .text _, .none, h => by simp [nkD] at h
  | .text _, .num _, h => by simp [nkD] at h
  | .text x, .text y, h => by simp [nkD] at h; rw [h]
  | .text _, .tup _, h => by simp [nkD] at h
  | .tup _, .none, h => by simp [nkD] at h
  | .tup _, .num _, h => by simp [nkD] at h
  | .tup _, .text _, h => by simp [nkD] at h
  | .tup a, .tup b, h => by simp only [nkD] at h; injection h with h; rw [nkDs_inj a b h]
theorem nkDs_inj : ∀ (a b : List NestedKey), nkDs a = nkDs b → a = b
  | [], [], _ => rfl
  | [], _ :: _, h => by simp [nkDs] at h
  | _ :: _, [], h => by simp [nkDs] at h
  | a :: as, b :: bs, h => by
    simp only [nkDs] at h
    injection h with h1 h2
    rw [nkD_inj a b h1, nkDs_inj as bs h2]
end
theorem rows_inj : ∀ {a b : List (NestedKey × Int)}, a.map (fun x => (nkD x.1, (PyData.int x.2 : D))) = b.map (fun x => (nkD x.1, (PyData.int x.2 : D))) → a = b
  | [], [], _ => rfl
  | [], _ :: _, h => by simp at h
  | _ :: _, [], h => by simp at h
  | (k, i) :: as, (l, j) :: bs, h => by
    simp only [List.map_cons] at h
    injection h with h1 h2
    injection h1 with h3 h4
    injection h4 with h5
    rw [nkD_inj _ _ h3, h5, rows_inj h2]
theorem Dq.ndAt {v : V} {kvs : List (NestedKey × Int)} (h : Dq S M H v (ndD kvs)) : ∃ a, v = .ref a ∧ ¬ M a ∧ NdAt M H a (iV kvs) := by
  generalize e : ndD kvs = d at h
  cases h with
  | ndt n x =>
    injection e with e
    injection e with _ e
    rw [rows_inj e]
    exact ⟨_, rfl, n, x⟩
  | hep c n nb e1 x => injection e with e; injection e with e e2; cases e
  | dit n e1 r => injection e with e; injection e with e e2; cases e
  | src e1 => injection e with e; injection e with e e2; cases e
  | dic n e1 => injection e with e; cases e
  | _ => cases e
theorem Dq.hpAt {v : V} {kvs : List (NestedKey × Int)} (h : Dq S M H v (hpD kvs)) : ∃ C a dx b, hpCls = some C ∧ v = .ref a ∧ ¬ M a ∧ ¬ M b ∧ H a = some (.ins C dx [("_weights", .ref b)]) ∧ NdAt M H b (iV kvs) := by
  generalize e : hpD kvs = d at h
  cases h with
  | ndt n x => injection e with e; injection e with e e2; cases e
  | hep c n nb e1 x =>
    injection e with e
    injection e with _ e
    rw [rows_inj e]
    exact ⟨_, _, _, _, c, rfl, n, nb, e1, x⟩
  | dit n e1 r => injection e with e; injection e with e e2; cases e
  | src e1 => injection e with e; injection e with e e2; cases e
  | dic n e1 => injection e with e; cases e
  | _ => cases e
end
def lookN (kvs : List (NestedKey × Int)) (k : NestedKey) : Option Int := (kvs.find? fun x => decide (x.1 = k)).map (·.2)
def putN (acc : List (NestedKey × Int)) (k : NestedKey) (d : Int) : List (NestedKey × Int) := if (acc.any fun x => decide (x.1 = k)) = true then acc.map fun x => if x.1 = k then (x.1, d) else x else acc ++ [(k, d)]
theorem look_iV (k : NestedKey) : ∀ acc : List (NestedKey × Int), valV (iV acc) k = (lookN acc k).map V.int
  | [] => rfl
  | (l, i) :: r => by
    have ih := look_iV k r
    by_cases z : l = k
    · rw [show iV ((l, i) :: r) = (l, .int i) :: iV r from rfl, valV_pos z]
      simp [lookN, List.find?_cons, z]
    · rw [show iV ((l, i) :: r) = (l, .int i) :: iV r from rfl, valV_neg z, ih]
      simp [lookN, List.find?_cons, z]
theorem put_iV (k : NestedKey) (v : Int) (acc : List (NestedKey × Int)) : putK (iV acc) k (.int v) = iV (putN acc k v) := by
  unfold putK putN
  have h1 : ((iV acc).any fun x => decide (x.1 = k)) = acc.any fun x => decide (x.1 = k) := by
    unfold iV; rw [List.any_map]; rfl
  rw [h1]
  split
  · unfold iV
    rw [List.map_map, List.map_map]
    refine List.map_congr_left fun x _ => ?_
    show (if x.1 = k then (x.1, V.int v) else (x.1, V.int x.2)) = _
    by_cases z : x.1 = k
    · rw [if_pos z]; simp [z]
    · rw [if_neg z]; simp [z]
  · unfold iV; rw [List.map_append]; rfl
section
variable {X : Cx} {pos apos cpos : Pos} {e f i o : Expr} {ma mb mk mc md : DE}
def dNGet (md mk : DE) : DE := fun σd Q => md σd fun d => mk σd fun kd => ∃ kvs k w, d = ndD kvs ∧ kd = nkD k ∧ KeyOk k ∧ lookN kvs k = some w ∧ Q (.int w)
theorem le_nget {td tk : TE} (hd : LE td md) (hk : LE tk mk) : LE (tNGet td tk) (dNGet md mk) := by
  intro S M H0 H σ σd Qd Q E hm k
  refine hd S M H0 H σ σd _ _ E hm fun d v H1 q E1 k1 r1 => hk S M H0 H1 σ σd _ _ E1 q fun kd u H2 q E2 k2 r2 => ?_
  obtain ⟨kvs, kk, w, rfl, rfl, hk, hl, q⟩ := q
  obtain ⟨a, rfl, na, n⟩ := (E1.dq k2 r1).ndAt
  have kv := Dq.keyV kk hk.1 r2
  obtain ⟨ks, ek⟩ := hk.2.2
  obtain ⟨b, rfl⟩ : ∃ b, u = .ref b := by subst ek; cases kv; exact ⟨_, rfl⟩
  exact ⟨_, a, b, kk, iV kvs, .int w, rfl, rfl, n, hk, kv, by rw [look_iV, hl]; rfl, k _ _ H2 q E2 (k1.trans k2) (.int w)⟩
theorem pd_nget (hu : X.A.units + 10 < cLine) (hd : PD X o md) (hk : PD X i mk) (hs : NoSl i := by first | exact fun _ _ => rfl | exact ⟨rfl⟩ | rfl) : PD X (.Subscript o i pos) (dNGet md mk) :=
  let ⟨_, h1, l1⟩ := hd; let ⟨_, h2, l2⟩ := hk; ⟨_, pe_nget hu h1 h2 hs, le_nget l1 l2⟩
def dWts (m : DE) : DE := fun σd Q => m σd fun d => ∃ kvs, d = hpD kvs ∧ Q (ndD kvs)
theorem pd_wts (hK : HpK X.K) (he : PD X e md) (hb : attributeBase e "_weights" X.env (eval e X.env) = eval e X.env := by rfl) : PD X (.Attribute e "_weights" pos) (dWts md) := by
  obtain ⟨t, h1, l1⟩ := he
  refine ⟨_, pe_fld h1 hb, ?_⟩
  intro S M H0 H σ σd Qd Q E hm k
  refine l1 S M H0 H σ σd _ _ E hm fun d v H1 q E1 k1 r1 => ?_
  obtain ⟨kvs, rfl, q⟩ := q
  obtain ⟨C, a, dx, b, c, rfl, na, nb, e1, n⟩ := r1.hpAt
  exact ⟨a, C, dx, _, .ref b, rfl, e1, (hK C c).cl, (hK C c).wt, rfl, k _ _ H1 q E1 k1 (.ndt nb n)⟩
def dItN (m : DE) : DA := fun σd Q => m σd fun d => ∃ kvs : List (NestedKey × Int), d = ndD kvs ∧ Q (kvs.map fun x => nkD x.1)
theorem keys_dqs {S : Sr} {M : Addr → Prop} {H : Hp} : ∀ {kvs : List (NestedKey × Int)} {bs : List Addr}, Paired (fun (p : NestedKey × V) b => KeyV M H p.1 (.ref b)) (iV kvs) bs → Dqs S M H (bs.map V.ref) (kvs.map fun x => nkD x.1)
  | [], bs, r => by cases r; exact .nil
  | (k, i) :: l, bs, r => by
    rw [show iV ((k, i) :: l) = (k, .int i) :: iV l from rfl] at r
    cases r with
    | cons f t => exact .cons f.dq (keys_dqs t)
theorem li_nd {t : TE} {m : DE} (h : LE t m) : LI (iND t) (dItN m) := by
  intro S M H0 H σ σd Qd R E hm k
  refine h S M H0 H σ σd _ _ E hm fun d v H1 q E1 k1 r1 => ?_
  obtain ⟨kvs, rfl, q⟩ := q
  obtain ⟨a, rfl, na, n⟩ := r1.ndAt
  refine ⟨_, a, _, rfl, n, fun o bs ⟨eo, kb⟩ => k _ _ H1 q E1 k1 ?_⟩
  have r := keys_dqs (S := S) kb
  refine ⟨fun H => H a = some (ndO a o), YAt (bs.map V.ref), (by rw [← r.length]; exact walk_nd), fun H2 st => st.k a _ na eo, fun i H2 x H3 hi st y => ?_⟩
  obtain ⟨e3, hx⟩ := y
  subst e3
  refine ⟨Same.refl _, fun M' _ hM => ?_⟩
  obtain ⟨d, hd, q⟩ := r.getV hx
  exact ⟨d, hd, q.goT fun b o n eb => ⟨hM b o n eb, st b o n eb⟩⟩
theorem pdi_nd {tg : Expr} (h : PD X e ma) : PDI X tg e (dItN ma) := let ⟨_, h1, l1⟩ := h; ⟨_, pi_nd h1, li_nd l1⟩
def rLenN : List V → Hp → VK → Prop := fun xs H Q => ∃ (M : Addr → Prop) (p : Addr) (kvs : List (NestedKey × V)), xs = [.ref p] ∧ NdAt M H p kvs ∧ Q (.int ((kvs.length : Nat) : Int)) H
theorem call_len_nd {X : Cx} : CallR X (.builtin "len") rLenN := by
  intro pins s σ H xs us Q I r h
  obtain ⟨M, p, kvs, rfl, n, q⟩ := h
  obtain ⟨u, rfl, rx⟩ := vals1 r
  obtain rfl : u = .ref p := rx
  obtain ⟨o, ys, es, ep, e, x, l, hd⟩ := n
  have dd := nd_dict I.hok e x
  have hl : kvs.length = ys.length := Paired.length x.rel
  refine call_len_dictH hd dd (by rw [← hl]; rw [sizeLine_eq] at l; omega) ?_
  rw [← hl]
  exact ⟨.int ((kvs.length : Nat) : Int), H, I.tok _, ⟨_, rfl⟩, q⟩
def dLenN : DRC := fun ds Q => ∃ kvs : List (NestedKey × Int), ds = [ndD kvs] ∧ Q (.int kvs.length)
theorem lc_lenN : LC rLenN dLenN := by
  intro S M H xs ds Qd Q hm rx h k
  obtain ⟨kvs, rfl, q⟩ := h
  cases rx with
  | cons a b =>
    cases b
    obtain ⟨p, rfl, _, n⟩ := a.ndAt
    refine ⟨_, p, _, rfl, n, k _ _ H q (Same.refl _) ?_⟩
    unfold iV
    rw [List.length_map]
    exact .int _
end
end PH

namespace PH
open PySem PySem.Spec PyProof.Rows L2
theorem putN_len (acc : List (NestedKey × Int)) (k : NestedKey) (d : Int) : (putN acc k d).length ≤ acc.length + 1 := by
  unfold putN
  split
  · simp
  · simp
theorem NdAt.isM {M : Addr → Prop} {H : Hp} {a : Addr} {kvs : List (NestedKey × V)} (x : NdAt M H a kvs) : PH.isM (H a) := by
  obtain ⟨o, xs, es, ep, e, q, _⟩ := x
  rw [e]; exact nd_isM ⟨es, ep, q.dt⟩
theorem NdAt.some {M : Addr → Prop} {H : Hp} {a : Addr} {kvs : List (NestedKey × V)} (x : NdAt M H a kvs) : ∃ o, H a = .some (ndO a o) := let ⟨o, _, _, _, e, _⟩ := x; ⟨o, e⟩
theorem isM.updN {H : Hp} {a b : Addr} {o : HO} (h : isM (H a)) (hb : isM (some o)) : isM (L2.upd H b o a) := by
  by_cases e : a = b
  · rw [e, upd_same]; exact hb
  · rw [upd_ne e]; exact h
section
variable {X : Cx} {pos : Pos}
def dDcn (mi : DA) (g : DG) (mt : DT) (mk mv : DE) (vs : List Nat) : DE := fun σd Q => mi σd fun ys => ys.length ≤ 1000000 ∧ ∃ W : Nat → List (NestedKey × Int) → Prop, W 0 [] ∧
  (∀ i y acc, ys[i]? = some y → W i acc → g y (dwipe (clean σd) vs) fun σ2 => mt σ2 fun b => if b = true then mk σ2 fun kd => mv σ2 fun vd => ∃ k w, kd = nkD k ∧ vd = .int w ∧ KeyOk k ∧ W (i + 1) (putN acc k w) else W (i + 1) acc) ∧ ∀ acc, W ys.length acc → Q (ndD acc)
theorem tabs_updN {M : Addr → Prop} {H : Hp} {a : Addr} {kvs : List (NestedKey × V)} {u : HO} (T : LamX.Tabs lamTabs H) (x : NdAt M H a kvs) : LamX.Tabs lamTabs (L2.upd H a u) := fun p hp => by
  obtain ⟨ps, t1, t2, t3⟩ := T p hp
  obtain ⟨o, _, es, ep, e, q, _⟩ := id x
  refine ⟨ps, ?_, t2, fun pos cv hc => ?_⟩
  · rw [upd_ne fun z => ?_]
    · exact t1
    · rw [z, e] at t1; cases t1
  · obtain ⟨c, c1, c2⟩ := t3 pos cv hc
    refine ⟨c, c1, ?_⟩
    rw [upd_ne fun z => ?_]
    · exact c2
    · rw [z, e] at c2
      exact code_nd (Option.some.inj c2).symm ⟨es, ep, q.dt⟩
theorem le_dcn {wi : TI} {g : TG} {tt : TT} {tk tv : TE} {vs : List Nat} {mi : DA} {dg : DG} {mt : DT} {mk mv : DE} (hi : LI wi mi) (hg : LG g dg) (sg : Sets g vs) (ht : LT tt mt) (hk : LE tk mk) (hv : LE tv mv) : LE (HDn.tDcN wi g tt tk tv vs) (dDcn mi dg mt mk mv vs) := by
  intro S M H0 H σ σd Qd Q E hm k
  refine hi S M H0 H σ σd _ _ E hm fun ys J H1 q E1 k1 wk => ?_
  obtain ⟨G, Y, w, hG, hY⟩ := wk.ex
  obtain ⟨hlen, W, w0, wt, wd⟩ := q
  intro Dl o0 hD hn0
  have is0 : isM (some (ndO Dl o0)) := by have := (hn0 M).isM; rwa [upd_same] at this
  have nown : ∀ a ds, Sl.own a ds ∈ σd → a ≠ Dl := fun a ds z y => by
    subst y
    obtain ⟨i, hi⟩ := List.getElem?_of_mem z
    obtain ⟨o, _, _, xs, e, _⟩ := E1.slot hi
    rw [hD] at e; cases e
  have nsrc : ∀ p c, S = some (p, c) → p ≠ Dl ∧ c ≠ Dl := fun p c e => by
    obtain ⟨_, _, _, ns, l, m, t, h1, h2⟩ := E1.src.go p c e
    exact ⟨ne_of_none h2 hD, ne_of_none h1 hD⟩
  have ne : ∀ p c, S = some (p, c) → Dl ≠ p ∧ Dl ≠ c := fun p c e => ⟨(nsrc p c e).1.symm, (nsrc p c e).2.symm⟩
  let M' : Addr → Prop := fun a => M a ∨ a = Dl
  have moS : ∀ a, MO M' σd a → MO M σd a ∨ a = Dl := fun a h => by
    rcases h with (h | h) | h
    · exact .inl (.inl h)
    · exact .inr h
    · exact .inl (.inr h)
  have moT : ∀ a, (MO M σd a ∨ a = Dl) → MO M' σd a := fun a h => by
    rcases h with (h | h) | h
    · exact .inl (.inl h)
    · exact .inr h
    · exact .inl (.inr h)
  have moDl : MO M' σd Dl := .inl (.inr rfl)
  -- what stands of the dict made, over a heap
  let St : Hp → List (NestedKey × Int) → Prop := fun H2 ds => NdAt (MO M' σd) H2 Dl (iV ds) ∧ (∃ Hb, Ev S M' Hb H2 σ σd) ∧ KeepS S H1 H2
  have stn : ∀ {H2 ds}, St H2 ds → Stands (MO M σd) H1 H2 := fun {H2 ds} ⟨_, _, kk⟩ a o n e => kk a o e fun p c z => by
    obtain ⟨hp, hc, _⟩ := E1.src.go p c z
    exact ⟨fun y => n (.inl (y ▸ hp)), fun y => n (.inl (y ▸ hc))⟩
  have src5 : ∀ {Hb Hx Hy}, Ev S M' Hb Hx σ σd → SrcOk S (MO M' σd) Hy → SrcOk S M' Hy := fun E2 s => E2.src.at s
  have go5 : ∀ {Hx Hy ds}, St Hx ds → KeepS S Hx Hy → SrcOk S (MO M' σd) Hy → St Hy ds := fun {Hx Hy ds} ⟨n, ⟨Hb, E2⟩, kk⟩ kx s => ⟨n.go (fun _ e => kx.k _ _ e ne) fun a _ m e => ⟨m, (E2.kp kx a _ m e).2.resolve_right fun ⟨_, _, z, _⟩ => nomatch z⟩, ⟨_, E2.ext kx (src5 E2 s)⟩, kk.trans kx⟩
  have put : ∀ {Hx ds o'} {j : NestedKey} {w : Int}, St Hx ds → NdAt (MO M' σd) (upd Hx Dl (ndO Dl o')) Dl (putK (iV ds) j (.int w)) → St (upd Hx Dl (ndO Dl o')) (putN ds j w) := by
    intro Hx ds o' j w ⟨n6, ⟨Hb, E7⟩, kk⟩ n7
    have is7 : isM (some (ndO Dl o')) := by have := n7.isM; rwa [upd_same] at this
    obtain ⟨ob, eob⟩ := n6.some
    have go : ∀ a o, ¬ MO M' σd a → Hx a = some o → ¬ MO M' σd a ∧ upd Hx Dl (ndO Dl o') a = some o := fun a o n e => ⟨n, by rw [upd_ne (fun y : a = Dl => n (y ▸ moDl))]; exact e⟩
    refine ⟨by rw [← put_iV]; exact n7, ⟨_, E7.remake (M' := M') (H2 := upd Hx Dl (ndO Dl o')) go (fun a es y => ?_) ⟨fun p c e => ?_, tabs_updN E7.src.tab n6, fun a h => (E7.src.nt a h).updN is7⟩ (fun a h => ?_)⟩, ?_⟩
    · exact ⟨upd_ne (nown a es y), fun y' => y'.elim (E1.ownM y) (nown a es y)⟩
    · obtain ⟨h1, h2, h3, ns, l, m, t, h4, h5⟩ := E7.src.go p c e
      exact ⟨h1, h2, h3, ns, l, m, t, by rw [upd_ne (nsrc p c e).2]; exact h4, by rw [upd_ne (nsrc p c e).1]; exact h5⟩
    · by_cases y : a = Dl
      · rw [y, upd_same]; exact fun z => (nomatch z)
      · rw [upd_ne y]; exact E7.mt a h
    · exact fun a o e n => by rw [upd_ne (ne_of_none e hD)]; exact kk a o e n
  let Pv : Nat → Hp → Prop := fun i H2 => ∃ ds : List (NestedKey × Int), W i ds ∧ ds.length ≤ i ∧ St H2 ds
  refine walk_w w Pv ?_ (fun i H2 _ ⟨ds, _, _, s⟩ => hG H2 (stn s)) (F := fun Nx x H' => g x (wipe σ vs) H' fun σ2 H2 => wipe σ2 vs = wipe σ vs ∧ tt σ2 H2 fun b H3 =>
    if b = true then tk σ2 H3 fun y H4 => tv σ2 H4 fun u H5 => ∃ (M : Addr → Prop) (kvs : List (NestedKey × V)) (k : NestedKey) (b : Addr), y = .ref b ∧ KeyOk k ∧ KeyV M H5 k (.ref b) ∧ NdAt M H5 Dl kvs ∧ kvs.length < sizeLine ∧ ∀ o', NdAt M (upd H5 Dl (ndO Dl o')) Dl (putK kvs k u) → Nx (upd H5 Dl (ndO Dl o')) else Nx H3) ?_ ?_
  · refine ⟨[], w0, Nat.le_refl _, hn0 _, ⟨_, E1.remake (M' := M') (H2 := upd H1 Dl (ndO Dl o0)) (fun a o n e => ?_) (fun a ds z => ?_) ⟨fun p c e => ?_, E1.src.tab.ext (Same.upd hD), fun a h => h.elim (fun h => (E1.src.nt a h).updN is0) fun h => by rw [h, upd_same]; exact is0⟩ (fun a h => ?_)⟩, .of (Same.upd hD)⟩
    · exact ⟨fun z => (moS a z).elim n fun y => ne_of_none e hD y, by rw [upd_ne (ne_of_none e hD)]; exact e⟩
    · exact ⟨upd_ne (nown a ds z), fun y => y.elim (E1.ownM z) (nown a ds z)⟩
    · obtain ⟨h1, h2, h3, ns, l, m, t, h4, h5⟩ := E1.src.go p c e
      exact ⟨.inl h1, .inl h2, h3, ns, l, m, t, by rw [upd_ne (nsrc p c e).2]; exact h4, by rw [upd_ne (nsrc p c e).1]; exact h5⟩
    · rcases h with h | h
      · by_cases y : a = Dl
        · rw [y, upd_same]; exact fun z => (nomatch z)
        · rw [upd_ne y]; exact E1.mt a h
      · rw [h, upd_same]; exact fun z => (nomatch z)
  · rintro i x H2 H3 hi' ⟨ds, wi', hl', s2⟩ yy
    have stp := stn s2
    obtain ⟨sm, hd⟩ := hY i H2 x H3 hi' stp yy
    obtain ⟨nacc, ⟨Hb, E2⟩, kk⟩ := id s2
    have EC := (E2.clean.wipe vs)
    have EC3 := EC.same sm
    have mocl : ∀ a, MO (MO M' σd) (dwipe (clean σd) vs) a → MO M' σd a := fun a h => by
      rcases h with h | ⟨es, h⟩
      · exact h
      · exact absurd h dwipe_no
    obtain ⟨d, hd1, hd2⟩ := hd (MO (MO M' σd) (dwipe (clean σd) vs)) (fun a h => E2.mtO a (mocl a h)) fun a o n e z => by
      rcases moS a (mocl a z) with y | y
      · exact n y
      · exact ne_of_none e hD y
    have wt1 := wt i d ds hd1 wi'
    have ilt : i < ys.length := (List.getElem?_eq_some_iff.mp hd1).1
    have s3 : St H3 ds := go5 s2 (.of sm) (E2.same sm).srcO
    refine sg x (wipe σ vs) H3 (fun σ2 Hx => Hx = H3 ∧ ∃ σd2, Ev S (MO M' σd) H2 H3 σ2 σd2 ∧ mt σd2 fun b => if b = true then mk σd2 fun kd => mv σd2 fun vd => ∃ k w, kd = nkD k ∧ vd = .int w ∧ KeyOk k ∧ W (i + 1) (putN ds k w) else W (i + 1) ds) _
      (hg S (MO M' σd) H2 H3 _ _ x d _ _ EC3 hd2 wt1 fun σd2 σ2 q2 E4 => ⟨rfl, σd2, E4, q2⟩) ?_
    rintro σ2 Hx ⟨rfl, σd2, E4, q2⟩ hw
    refine ⟨hw.trans (wipe_wipe σ fun _ h => h), ht S (MO M' σd) H2 Hx σ2 σd2 _ _ E4 q2 fun b H5 q5 E5 k5 => ?_⟩
    have s5 : St H5 ds := go5 s3 k5 E5.src
    cases b with
    | false =>
      have q6 : W (i + 1) ds := by simpa using q5
      show Pv (i + 1) H5
      exact ⟨ds, q6, by omega, s5⟩
    | true =>
      have q6 := (show mk σd2 _ by simpa using q5)
      show tk σ2 H5 _
      refine hk S (MO M' σd) H2 H5 σ2 σd2 _ _ E5 q6 fun kd kv H6 q7 E6 k6 r6 => ?_
      refine hv S (MO M' σd) H2 H6 σ2 σd2 _ _ E6 q7 fun vd vv H7 q8 E7 k7 r7 => ?_
      obtain ⟨j, ekd, wt2, evd, hk, q9⟩ := q8
      subst ekd evd
      have s7 : St H7 ds := go5 (go5 s5 k6 E6.src) k7 E7.src
      have kq : KeyV (MO M' σd) H7 j kv := Dq.keyV j hk.1 ((E6.dq k7 r6).go fun a o n e => ⟨fun y => n (.inl y), e⟩)
      obtain ⟨ks, ek⟩ := hk.2.2
      obtain ⟨b, rfl⟩ : ∃ b, kv = .ref b := by subst ek; cases kq; exact ⟨_, rfl⟩
      have ev : vv = .int wt2 := by cases r7; rfl
      subst ev
      have lp := putN_len ds j wt2
      exact ⟨MO M' σd, iV ds, j, b, rfl, hk, kq, s7.1, by unfold iV; rw [List.length_map, sizeLine_eq]; omega, fun o' n' => ⟨putN ds j wt2, q9, by omega, put s7 n'⟩⟩
  · rintro H2 ⟨ds, wi', _, nacc, ⟨Hb, E2⟩, kk⟩
    have src2 : SrcOk S M H2 := E1.src.at E2.src
    have E3 := E1.ext kk src2
    have nD : ¬ MO M σd Dl := fun z => by
      rcases z with z | ⟨es, z⟩
      · exact E1.mt Dl z hD
      · exact nown _ _ z rfl
    exact k _ _ H2 (wd ds wi') E3 (k1.trans kk) (.ndt nD (nacc.go (fun _ e => e) fun a o n e => ⟨fun z => n (moT a (.inl z)), e⟩))
theorem pd_dcN {kx vx tg iter : Expr} {scope : Scope} {own : List (Str × Nat)} {mi : DA} {g : TG} {dg : DG} {mk mv : DE} (hu : X.A.units + 8 < cLine) (hc : X.calm = true) (hN : X.N.Nodup) (hi : PDI X tg iter mi) (ok : blkC X.N X.env.scope scope own = true)
    (hg : ∀ (s : Shared) (H : Hp) (C : Addr) (cl : List (Str × Addr)) (fp : List Addr), PG (X.blk s H scope (compEnvC scope cl C X.env) fp) tg g) (lg : LG g dg) (sg : Sets g (own.map (·.2)))
    (hk : ∀ (s : Shared) (H : Hp) (C : Addr) (cl : List (Str × Addr)) (fp : List Addr), PD (X.blk s H scope (compEnvC scope cl C X.env) fp) kx mk)
    (hv : ∀ (s : Shared) (H : Hp) (C : Addr) (cl : List (Str × Addr)) (fp : List Addr), PD (X.blk s H scope (compEnvC scope cl C X.env) fp) vx mv) (hs : ∀ x, foldedSetIterable iter X.env x = pure x := by intro _; rfl) :
    PD X (.DictComp kx vx [⟨tg, iter, [], 0⟩] scope pos) (dDcn mi dg dYes mk mv (own.map (·.2))) :=
  let ⟨_, h1, l1⟩ := hi; ⟨_, HDn.pe_dcN hu hc hN h1 (blkOk_by ok) hg (fun _ _ _ _ _ => pts_nil) (fun s H C cl fp => (hk s H C cl fp).pe) (fun s H C cl fp => (hv s H C cl fp).pe) hs, le_dcn l1 lg sg lt_yes le_of le_of⟩
end
end PH

namespace PH
open PySem PySem.Spec PyProof.Rows L2
theorem Ev.emp {S : Sr} {M : Addr → Prop} {H0 H : Hp} {σ : L2.St} {σd : DSt} (E : Ev S M H0 H σ σd) (i : Nat) (o : Option V) : Ev S M H0 H (σ.set i o) (σd.set i .emp) := by
  have sub : ∀ a, MO M (σd.set i .emp) a → MO M σd a := fun a h => by
    rcases h with h | ⟨ds, h⟩
    · exact .inl h
    · rcases List.mem_or_eq_of_mem_set h with h | h
      · exact .inr ⟨ds, h⟩
      · cases h
  have g : ∀ a o, ¬ MO M σd a → H a = some o → ¬ MO M (σd.set i .emp) a ∧ H a = some o := fun a o n e => ⟨fun z => n (sub a z), e⟩
  have ow : ∀ {j : Nat} {a : Addr} {ds : List D}, (σd.set i .emp)[j]? = some (Sl.own a ds) → σd[j]? = some (Sl.own a ds) := fun {j a ds} h => by
    rw [List.getElem?_set] at h
    split at h
    · first
        | cases h
        | (split at h <;> cases h)
    · exact h
  refine ⟨by rw [List.length_set, List.length_set]; exact E.len, fun j o s h1 h2 => ?_, fun j k a ds es h1 h2 => E.uni j k a ds es (ow h1) (ow h2), fun a ds h => ?_, E.src, E.src0, E.keep, E.mt, E.mt0⟩
  · rw [List.getElem?_set] at h1 h2
    by_cases hj : i = j
    · rw [if_pos hj] at h2
      split at h2
      · cases h2; exact True.intro
      · cases h2
    · rw [if_neg hj] at h1 h2
      have z := E.sl j o s h1 h2
      cases s with
      | emp => trivial
      | val d => obtain ⟨w, e, q⟩ := z; exact ⟨w, e, q.go g⟩
      | fn d => exact FnR.go z g
      | raw v => exact z
      | own a ds => obtain ⟨e, xs, h, q⟩ := z; exact ⟨e, xs, h, q.go g⟩
  · rcases List.mem_or_eq_of_mem_set h with h | h
    · exact E.new a ds h
    · cases h
def stepN (acc : List (NestedKey × Int)) (x : NestedKey × Int) : List (NestedKey × Int) := putN acc x.1 ((lookN acc x.1).getD 0 + x.2)
def sumN (ps : List (NestedKey × Int)) : List (NestedKey × Int) := ps.foldl stepN []
theorem sumN_snoc (ps : List (NestedKey × Int)) (x : NestedKey × Int) : sumN (ps ++ [x]) = stepN (sumN ps) x := by unfold sumN; rw [List.foldl_append]; rfl
theorem sumN_len (ps : List (NestedKey × Int)) : (sumN ps).length ≤ ps.length := by
  suffices h : ∀ (n : Nat) (ps : List (NestedKey × Int)), ps.length = n → (sumN ps).length ≤ ps.length from h _ ps rfl
  intro n
  induction n with
  | zero => intro ps h; rw [List.length_eq_zero_iff.mp h]; exact Nat.le_refl _
  | succ n ih =>
    intro ps h
    obtain ⟨l, x, rfl⟩ : ∃ l x, ps = l ++ [x] := ⟨ps.dropLast, ps.getLast (by intro z; rw [z] at h; simp at h), (List.dropLast_concat_getLast _).symm⟩
    rw [sumN_snoc]
    have h1 := ih l (by simpa using h)
    have h2 := putN_len (sumN l) x.1 ((lookN (sumN l) x.1).getD 0 + x.2)
    unfold stepN
    rw [List.length_append]
    simp only [List.length_cons, List.length_nil]
    omega
abbrev krD (x : NestedKey × Int) : D := .tuple [nkD x.1, .int x.2]
theorem set_there {α : Type} {l : List α} {i : Nat} {x : α} (h : l[i]? = some x) : l.set i x = l := by
  refine List.ext_getElem? fun j => ?_
  rw [List.getElem?_set]
  by_cases e : i = j
  · subst e
    obtain ⟨hi, _⟩ := List.getElem?_eq_some_iff.mp h
    rw [if_pos rfl, if_pos hi, h]
  · rw [if_neg e]
def wiLT (K : PySem.W.Frag) (t : TE) : TI := fun σ H R => iList K t σ H R ∨ iTup K t σ H R
def sumBody (i jk jw : Nat) : TS := tSeq (sNPut (tVar i) (tVar jk) (tOp (rI0 fun i j => .int (i + j)) (tNGet2 (tVar i) (tVar jk) (tC (.int 0))) (tVar jw))) tNext
def tSumF (K : PySem.W.Frag) (i r jk jw : Nat) : TS := tFor (wiLT K (tVar r)) (gTup K 2 (gCons (gName jk) (gCons (gName jw) gNil))) (sumBody i jk jw)
structure Ne4 (i r jk jw : Nat) : Prop where
  ik : i ≠ jk
  iw : i ≠ jw
  kw : jk ≠ jw
  rk : r ≠ jk
  rw' : r ≠ jw
  ri : r ≠ i
theorem sum_for {K : PySem.W.Frag} {S : Sr} {M : Addr → Prop} {H0 G : Hp} {σ : L2.St} {σd : DSt} {p : Addr} {o0 : Obj} {i r jk jw : Nat} {rows : List (NestedKey × Int)} {Dn : Ends} {d : D} (ne : Ne4 i r jk jw) (hk : jk < σ.length) (hw : jw < σ.length)
    (E : Ev S M H0 G σ σd) (hp : G p = none) (hn0 : ∀ M : Addr → Prop, NdAt M (upd G p (ndO p o0)) p []) (si : σ[i]? = some (some (.ref p))) (sr : σd[r]? = some (.val d)) (hd : d = .list (rows.map krD) ∨ d = .tuple (rows.map krD)) (ok : ∀ x ∈ rows, KeyOk x.1) (hl : rows.length ≤ 1000000)
    (fin : ∀ σ' H', Ev S M H0 H' σ' (((σd.set i (.val (ndD (sumN rows)))).set jk .emp).set jw .emp) → Dn.nx σ' H') : tSumF K i r jk jw Dn σ (upd G p (ndO p o0)) := by
  obtain ⟨o, ho, v, rfl, q⟩ := E.slot sr
  have nM : ¬ MO M σd p := fun z => E.mtO p z hp
  have same : ∀ x, Same G (upd G p x) := fun x => Same.upd hp
  -- the body
  let Pv : Nat → L2.St → Hp → Prop := fun n σ' H' => ∃ a b o', σ' = (σ.set jk a).set jw b ∧ H' = upd G p (ndO p o') ∧ NdAt (MO M σd) H' p (iV (sumN (rows.take n)))
  have turn : ∀ (xs : List V), Dqs S (MO M σd) G xs (rows.map krD) → ∀ n x σ' H' H'', n < xs.length → Pv n σ' H' → YAt xs n H' x H'' →
      gTup K 2 (gCons (gName jk) (gCons (gName jw) gNil)) x σ' H'' fun σ2 H2 => sumBody i jk jw { Dn with nx := Pv (n + 1), ct := Pv (n + 1), bk := Dn.nx } σ2 H2 := by
    rintro xs rx n x σ' H' H'' hn ⟨a0, b0, o', rfl, rfl, nd⟩ ⟨rfl, hx⟩
    obtain ⟨d, hd, qd⟩ := rx.getV hx
    rw [List.getElem?_map] at hd
    obtain ⟨⟨k, w⟩, hrow, rfl⟩ := Option.map_eq_some_iff.mp hd
    have okk := ok _ (List.mem_of_getElem? hrow)
    cases qd with
    | @tup b ys _ nb eb ry =>
    cases ry with
    | cons c1 c2 =>
    cases c2 with
    | cons c3 c4 =>
    cases c4
    cases c3
    have kv := Dq.keyV k okk.1 c1
    obtain ⟨ks, ek⟩ := okk.2.2
    rename_i v1
    obtain ⟨kb, ev⟩ : ∃ b, v1 = .ref b := by subst ek; cases kv; exact ⟨_, rfl⟩
    subst ev
    have nbp : b ≠ p := ne_of_none eb hp
    have kv' : KeyV (MO M σd) (upd G p (ndO p o')) k (.ref kb) := kv.go fun c zs m e => ⟨m, by rw [upd_ne (ne_of_none e hp)]; exact e⟩
    have small : (iV (sumN (rows.take n))).length < sizeLine := by
      have := sumN_len (rows.take n)
      unfold iV
      rw [List.length_map, sizeLine_eq]
      rw [List.length_take] at this
      omega
    generalize hτ : (σ.set jk a0).set jw b0 = τ
    have lτ : τ.length = σ.length := by rw [← hτ]; simp
    have τi : τ[i]? = some (some (.ref p)) := by rw [← hτ, List.getElem?_set_ne ne.iw.symm, List.getElem?_set_ne ne.ik.symm]; exact si
    have g1 : ((τ.set jk (some (.ref kb))).set jw (some (.int w)))[i]? = some (some (.ref p)) := by rw [List.getElem?_set_ne ne.iw.symm, List.getElem?_set_ne ne.ik.symm]; exact τi
    have g2 : ((τ.set jk (some (.ref kb))).set jw (some (.int w)))[jk]? = some (some (.ref kb)) := by rw [List.getElem?_set_ne ne.kw.symm, List.getElem?_set_self (by omega)]
    have g3 : ((τ.set jk (some (.ref kb))).set jw (some (.int w)))[jw]? = some (some (.int w)) := by rw [List.getElem?_set_self (by rw [List.length_set]; omega)]
    refine ⟨b, _, rfl, .inl (.inl (by rw [upd_ne nbp]; exact eb)), rfl, _, _, rfl, _, _, rfl, rfl, ?_⟩
    show tOp (rI0 fun i j => .int (i + j)) (tNGet2 (tVar i) (tVar jk) (tC (.int 0))) (tVar jw) ((τ.set jk (some (.ref kb))).set jw (some (.int w))) (upd G p (ndO p o')) _
    refine ⟨_, g1, MO M σd, p, _, rfl, nd, _, g2, MO M σd, kb, k, _, rfl, nd, okk, kv', _, g3, (lookN (sumN (rows.take n)) k).getD 0, w, ?_, rfl, ?_⟩
    · rw [look_iV]; cases lookN (sumN (rows.take n)) k <;> rfl
    refine ⟨_, g1, _, g2, MO M σd, p, kb, k, _, rfl, rfl, nd, small, okk, kv', fun o2 n2 => ?_⟩
    have e2 : upd (upd G p (ndO p o')) p (ndO p o2) = upd G p (ndO p o2) := upd_upd
    rw [e2] at n2 ⊢
    have e : rows.take (n + 1) = rows.take n ++ [(k, w)] := by rw [List.take_add_one, hrow]; rfl
    refine ⟨some (.ref kb), some (.int w), o2, ?_, rfl, ?_⟩
    · rw [← hτ, List.set_comm (l := σ.set jk a0) _ _ ne.kw.symm, List.set_set, List.set_set]
    · rw [e, sumN_snoc]
      unfold stepN
      rw [put_iV] at n2
      exact n2
  have last : ∀ σ' H', (∃ a b o', σ' = (σ.set jk a).set jw b ∧ H' = upd G p (ndO p o') ∧ NdAt (MO M σd) H' p (iV (sumN rows))) → Dn.nx σ' H' := by
    rintro σ' H' ⟨a, b, o', rfl, rfl, nd⟩
    have E1 := (E.same (same (ndO p o'))).put (i := i) (.ndt nM nd)
    rw [set_there si] at E1
    exact fin _ _ ((E1.emp jk a).emp jw b)
  have first : ∃ a b o', σ = (σ.set jk a).set jw b ∧ upd G p (ndO p o0) = upd G p (ndO p o') ∧ NdAt (MO M σd) (upd G p (ndO p o0)) p (iV (sumN (rows.take 0))) := by
    refine ⟨σ[jk], σ[jw], o0, ?_, rfl, hn0 _⟩
    rw [set_there (List.getElem?_eq_getElem hk), set_there (List.getElem?_eq_getElem hw)]
  rcases hd with hd | hd
  · subst hd
    cases q with
    | @lst a xs _ na ea rx =>
    have xl : xs.length = rows.length := by rw [rx.length, List.length_map]
    have nap : a ≠ p := ne_of_none ea hp
    refine .inl ⟨.ref a, ho, a, rfl, ⟨xs, .inl (.inl (by rw [upd_ne nap]; exact ea))⟩, ?_⟩
    refine for_it (walk_list (xs := xs)) Pv first ?_ (turn xs rx) ?_
    · rintro n σ' H' _ ⟨_, _, o', _, rfl, _⟩
      exact .inl (.inl (by rw [upd_ne nap]; exact ea))
    · intro σ' H' h
      have h2 : Pv rows.length σ' H' := by rw [← xl]; exact h
      exact last σ' H' (by simpa only [Pv, List.take_length] using h2)
  · subst hd
    cases q with
    | @tup a xs _ na ea rx =>
    have xl : xs.length = rows.length := by rw [rx.length, List.length_map]
    have nap : a ≠ p := ne_of_none ea hp
    refine .inr ⟨.ref a, ho, a, rfl, ⟨xs, .inl (.inl (by rw [upd_ne nap]; exact ea))⟩, ?_⟩
    refine for_it (walk_tup (xs := xs)) Pv first ?_ (turn xs rx) ?_
    · rintro n σ' H' _ ⟨_, _, o', _, rfl, _⟩
      exact .inl (.inl (by rw [upd_ne nap]; exact ea))
    · intro σ' H' h
      have h2 : Pv rows.length σ' H' := by rw [← xl]; exact h
      exact last σ' H' (by simpa only [Pv, List.take_length] using h2)
def dSumA (i r jk jw : Nat) : DS := fun Dd σd => Ne4 i r jk jw ∧ i < σd.length ∧ jk < σd.length ∧ jw < σd.length ∧ ∃ (rows : List (NestedKey × Int)) (d : D), σd[r]? = some (.val d) ∧ (d = .list (rows.map krD) ∨ d = .tuple (rows.map krD)) ∧ (∀ x ∈ rows, KeyOk x.1) ∧ rows.length ≤ 1000000 ∧
  Dd.nx (((σd.set i (.val (ndD (sumN rows)))).set jk .emp).set jw .emp)
theorem ls_sumA {Wx : WX} {K : PySem.W.Frag} {i r jk jw : Nat} {u : TS} {n : DS} (hu : LS Wx u n) : LS Wx (tSeq (tAsg tNNew (gName i)) (tSeq (tSumF K i r jk jw) u)) (dSeq (dSumA i r jk jw) n) := by
  intro S M H0 H σ σd Dd Dn E ⟨ne, hi, hk, hw, rows, d, sr, hd, ok, hl, q⟩ re
  intro p o hp hn
  rw [E.len] at hi hk hw
  refine sum_for (σ := σ.set i (some (.ref p))) (σd := σd.set i .emp) (rows := rows) (d := d) ne (by rw [List.length_set]; exact hk) (by rw [List.length_set]; exact hw) (E.emp i _) hp hn (List.getElem?_set_self hi) (by rw [List.getElem?_set_ne ne.ri.symm]; exact sr) hd ok hl fun σ' H' E' => ?_
  rw [List.set_set] at E'
  exact hu S M H0 H' σ' _ _ _ E' q re
section
variable {X : Cx} {Wx : WX}
theorem ps_sumF {i r jk jw kk : Nat} {xp xs xk xw : Str} {q4 q5 q6 q7 q8 q9 q10 q11 q12 q13 q14 q15 q16 q17 q18 q19 : Pos} {j0 : _} (hu : X.A.units + 10 < cLine) (hc : X.calm = true) (hN : X.N.Nodup) (n0 : X.N[r]? = some xp) (n1 : X.N[i]? = some xs) (n2 : X.N[jk]? = some xk) (n3 : X.N[jw]? = some xw)
    (v0 : Vis X.env.scope xp) (v1 : Vis X.env.scope xs) (v2 : Loc X.env.scope xk) (v3 : Loc X.env.scope xw) (hp : PassesOwn (model X.prog X.w) X.A X.env X.xe)
    (m : M2 X (.Name xs q6) "get" q7 (.Name xk q8) (.Constant (.int 0) j0 q9) q10)
    (hd0 : (xp == ("__debug__" : Str)) = false := by decide) (hc0 : (xp == ("__classdict__" : Str)) = false := by decide) (hd1 : (xs == ("__debug__" : Str)) = false := by decide) (hc1 : (xs == ("__classdict__" : Str)) = false := by decide)
    (hd2 : (xk == ("__debug__" : Str)) = false := by decide) (hc2 : (xk == ("__classdict__" : Str)) = false := by decide) (hd3 : (xw == ("__debug__" : Str)) = false := by decide) (hc3 : (xw == ("__classdict__" : Str)) = false := by decide)
    (hf2 : X.fn xk = true ∨ X.env.scope.names.lookup xk = some .local := by first | exact .inl rfl | exact .inr rfl)
    (hf3 : X.fn xw = true ∨ X.env.scope.names.lookup xw = some .local := by first | exact .inl rfl | exact .inr rfl)
    (ha : (assignEach [.Name xk q4, .Name xw q5] X.env).length = 2 := by rfl) (hb : (assignEach [.Name xk q4, .Name xw q5] X.env).findIdx? (·.1) = none := by rfl)
    (hg1 : (assignEach [.Name xk q4, .Name xw q5] X.env).map (·.2) = assign (.Name xk q4) X.env :: (assignEach [.Name xw q5] X.env).map (·.2) := by rfl) (hg2 : (assignEach [.Name xw q5] X.env).map (·.2) = assign (.Name xw q5) X.env :: (assignEach [] X.env).map (·.2) := by rfl)
    (vi : ∀ x, Loc X.env.scope x → Vis X.env.scope x := by intro _ h; rcases h with h | h; exact Or.inl h; exact Or.inr (Or.inl h)) :
    PS X (.For (.Tuple [.Name xk q4, .Name xw q5] kk q11) (.Name xp q12) [.Assign [.Subscript (.Name xs q13) (.Name xk q14) q15] (.BinOp (.Call (.Attribute (.Name xs q6) "get" q7) [.Name xk q8, .Constant (.int 0) j0 q9] [] q10) .Add (.Name xw q16) q17) q18] [] q19) (tSumF X.K i r jk jw) :=
  ps_for hp hc (PI.or (pi_list (pe_var n0 v0 hd0 hc0)) (pi_tup (pe_var n0 v0 hd0 hc0))) (pg_tup hc (pgs_cons (pg_name hN n2 v2 hf2) (pgs_cons (pg_name hN n3 v3 hf3) pgs_nil hg2) hg1) ha hb)
    (pss_one (ps_nput hu (pe_var n1 v1 hd1 hc1) (pe_var n2 (vi _ v2) hd2 hc2) (pe_op op_add (pe_nget2 hu (pe_var n1 v1 hd1 hc1) (pe_var n2 (vi _ v2) hd2 hc2) pe_int m) (pe_var n3 (vi _ v3) hd3 hc3)) rfl))
theorem pss_sumA {i r jk jw : Nat} {xs : Str} {q1 q2 q3 : Pos} {st : Stmt} {rest : List Stmt} {n : DS} (hN : X.N.Nodup) (n1 : X.N[i]? = some xs) (v1 : Loc X.env.scope xs) (hf : PS X st (tSumF X.K i r jk jw)) (hr : PDSs Wx X rest n)
    (hf1 : X.fn xs = true ∨ X.env.scope.names.lookup xs = some .local := by first | exact .inl rfl | exact .inr rfl) : PDSs Wx X (.Assign [.Name xs q1] (.Dict [] [] q2) q3 :: st :: rest) (dSeq (dSumA i r jk jw) n) :=
  let ⟨_, h1, l1⟩ := hr; ⟨_, pss_cons (ps_set hN n1 v1 pe_nnew rfl hf1) (pss_cons hf h1), ls_sumA l1⟩
end
end PH

namespace PH
open PySem PySem.Spec PyProof.Rows L2
def MDfn (K : PySem.W.Frag) (m q : Str) (st : Stmt) : Prop := ∃ (f : Addr) (fd : FuncData), (∀ C, hpCls = some C → Meth K C m f) ∧ Fun K m q st f fd
section
variable (P : Program) (w : World) (K : PySem.W.Frag) (mg : Str → Option Value) (base : Heap)
def MSpOk (k : Nat) (m : Str) (ps : List Str) (sp : Sp) : Prop := ∃ (f : Addr) (fd : FuncData), (∀ C, hpCls = some C → Meth K C m f) ∧ PySem.W.keepIn K (.ref f) = true ∧ Binds K fd ps [] ∧ FnG P w K mg base k f fd ps sp
def MethOk (k : Nat) (m : Str) (ps : List Str) (spd : DSp) : Prop := MSpOk P w K mg base k m ps (SpD ps.length spd)
end
def BindM (x q : Str) (ps : List Str) (st : Stmt) : Prop := ∀ (kV doc pm : Value) (an : Option Addr) (cdv ct : Value) (us : List Value), us.length = ps.length →
  bindArgs (PySem.W.fnOf x q (defArgs st) (defBody st) (defScope st) .none kV doc pm an cdv ct) ⟨us, []⟩ = pure (ps.zip us)
section
variable {P : Program} {w : World} {K : PySem.W.Frag} {mg : Str → Option Value} {base : Heap}
theorem bindM {m q : Str} {st : Stmt} {f : Addr} {fd : FuncData} {ps : List Str} (F : Fun K m q st f fd) (b : BindM m q ps st) : Binds K fd ps [] := by
  obtain ⟨oc, od, kV, doc, pm, an, cdv, ct, osl, e, lk, hcd⟩ := F.ex
  exact .all fun us hl => by rw [e]; exact b _ _ _ _ _ _ us hl
theorem mspOk {k : Nat} {x q : Str} {st : Stmt} {N ps : List Str} {sp : Sp} (hd : MDfn K x q st) (S : FnScope N ps (defScope st)) (bnd : BindM x q ps st) (len : ∀ vs H Q E, sp vs H Q E → vs.length = ps.length)
    (hb : ∀ (f : Addr) (cdv : Value) (A : Around) (outer : List Env) (s : Shared) (H : Hp) (vs : List V) (Q : VK), Room k (A.deeper (envOfC q (defScope st) s.heap.objs.size f cdv)) → A.guards = some [] → sp vs H Q E0 →
      ∃ t, PSs (cxOf CX0 P w K mg base N q (defScope st) f cdv A outer s H E0).nox (defBody st) t ∧ t { nx := fun _ H' => Q .non H', rt := Q } (L2.start N vs) H) : MSpOk P w K mg base (k + 1) x ps sp := by
  obtain ⟨f, fd, hm, F⟩ := hd
  exact ⟨f, fd, hm, F.kp, bindM F bnd, fnG_body F S len fun cdv A outer s H vs Q => hb f cdv A outer s H vs Q⟩
theorem methOk {k : Nat} {x q : Str} {st : Stmt} {N ps : List Str} {spd : DSp} {m : DS} (hd : MDfn K x q st) (S : FnScope N ps (defScope st)) (bnd : BindM x q ps st)
    (hb : ∀ (f : Addr) (cdv : Value) (A : Around) (outer : List Env) (s : Shared) (H : Hp), Room k (A.deeper (envOfC q (defScope st) s.heap.objs.size f cdv)) → A.guards = some [] →
      PDSs W0 (cxOf CX0 P w K mg base N q (defScope st) f cdv A outer s H E0).nox (defBody st) m)
    (hm : ∀ ds Qd, ds.length = ps.length → spd ds Qd → m { nx := fun _ => Qd .none, rt := Qd } (dstart N.length ds)) : MethOk P w K mg base (k + 1) x ps spd := by
  obtain ⟨f, fd, hmg, F⟩ := hd
  exact ⟨f, fd, hmg, F.kp, bindM F bnd, fnD F S (hb f) hm⟩
end
section
variable {X : Cx} {k j : Nat} {f C : Addr} {fd : FuncData} {ps : List Str} {sp : Sp} {spd : DSp} {x m : Str} {p pos apos : Pos} {e o : Expr} {es : List Expr} {ta : TE} {t : TA} {mo : DE} {ma : DA}
def tMethG (C : Addr) (m : Str) (sp : Sp) (ta : TE) (t : TA) : TE := fun σ H Q => ta σ H fun x H1 => ∃ a dx fs, x = .ref a ∧ H1 a = some (.ins C dx fs) ∧ fs.lookup m = none ∧ t σ H1 fun vs H2 => sp (x :: vs) H2 Q E0
theorem pe_methG0 {pl : Sem Bool} (he : PE X o ta) (c : Cls X.K C) (hm : Meth X.K C m f) (F : FnG X.prog X.w X.K X.mg X.base k f fd ps sp) (hr : Room k X.A) (hg : X.A.guards = some []) (hb : Binds X.K fd ps [])
    (ht : eval (.Call (.Attribute o m apos) [] [] pos) X.env = (do
      let ov ← eval o X.env
      standAt apos.atName
      let (f, first) ← holding [ov] (getMethod ov m pl)
      callWith pos f first (backTo pos (starEach [] X.env)) (backToKw pos (keywordEach [] X.env))) := by rfl) :
    PE X (.Call (.Attribute o m apos) [] [] pos) (tMethG C m sp ta tNil) := by
  refine ⟨fun pins s σ H Q I h => ?_⟩
  refine PySem.W.methodCall_KW (pl := pl) (thn (he.run pins s σ H _ I h) fun u s1 ⟨x, H1, I1, rx, a, dx, fs, ex, ea, l, q⟩ => ?_) ht
  subst ex
  obtain rfl : u = Value.ref a := rx
  refine getmeth_ok I1 ea c hm l ?_
  exact PySem.W.callWith_K0 (first := [.ref a]) I1.kIn hm.kp (runG (us := [.ref a]) (vs := [.ref a]) F hr hg hb I1 (.cons rfl .nil) q)
def dMeth (spd : DSp) (mo : DE) (ma : DA) : DE := fun σd Q => mo σd fun d => (∃ kvs, d = hpD kvs) ∧ ma σd fun ds => spd (d :: ds) Q
def dMeth0 (spd : DSp) (mo : DE) : DE := fun σd Q => mo σd fun d => (∃ kvs, d = hpD kvs) ∧ spd [d] Q
theorem sp_call {n : Nat} {S : Sr} {M : Addr → Prop} {H0 H H1 : Hp} {σ : L2.St} {σd : DSt} {vs : List V} {ds : List D} {Qd : D → Prop} {Q : VK} (E1 : Ev S M H0 H1 σ σd) (k1 : KeepS S H H1) (r : Dqs S (MO M σd) H1 vs ds) (hl : vs.length = n) (q : spd ds Qd)
    (k : ∀ d v H', Qd d → Ev S M H0 H' σ σd → KeepS S H H' → Dq S (MO M σd) H' v d → Q v H') : SpD n spd vs H1 Q E0 := by
  have so : SrcOk S (MO M σd) H1 := E1.srcO
  refine ⟨S, MO M σd, ds, Qd, E1.mtO, so, r, hl, q, fun d v H2 q k2 s2 r2 => ?_⟩
  have s3 : SrcOk S M H2 := E1.src.at s2
  exact k d v H2 q (E1.ext k2 s3) (k1.trans k2) r2
theorem no_at {m : Str} {b : Addr} (h : (m == ("_weights" : Str)) = false) : List.lookup m [(("_weights" : Str), V.ref b)] = none := by
  simp only [List.lookup, h]
theorem pd_meth0 {pl : Sem Bool} (hp : ∃ C, hpCls = some C) (hK : HpK X.K) (D : MethOk X.prog X.w X.K X.mg X.base j m ps spd) (hr : Room k X.A) (hj : j ≤ k) (hg : X.A.guards = some []) (ho : PD X o mo) (hl : ps.length = 1 := by rfl) (hm0 : (m == ("_weights" : Str)) = false := by decide)
    (ht : eval (.Call (.Attribute o m apos) [] [] pos) X.env = (do
      let ov ← eval o X.env
      standAt apos.atName
      let (f, first) ← holding [ov] (getMethod ov m pl)
      callWith pos f first (backTo pos (starEach [] X.env)) (backToKw pos (keywordEach [] X.env))) := by rfl) : PD X (.Call (.Attribute o m apos) [] [] pos) (dMeth0 spd mo) := by
  obtain ⟨C, hC⟩ := hp
  obtain ⟨f, fd, hm, kp, hb, F⟩ := D
  obtain ⟨t, h1, l1⟩ := ho
  refine ⟨_, pe_methG0 h1 (hK C hC).cl (hm C hC) F (hr.mono hj) hg hb ht, fun S M H0 H σ σd Qd Q E h kk => ?_⟩
  refine l1 S M H0 H σ σd _ _ E h fun d v H1 q E1 k1 r1 => ?_
  obtain ⟨⟨kvs, rfl⟩, q⟩ := q
  obtain ⟨C', a, dx, b, c, rfl, na, nb, e1, n⟩ := r1.hpAt
  rw [hC] at c
  cases c
  exact ⟨a, dx, _, rfl, e1, no_at hm0, sp_call E1 k1 (.cons r1 .nil) (by rw [hl]; rfl) q kk⟩
theorem make_guards {A : Around} {us : List Value} {kw : List (Str × Value)} (h : A.guards = some []) : (A.under (.builtin "type.__call__" ⟨us, kw⟩)).guards = some [] := by
  first | exact h | simp [Around.under, Code.weight, Code.isCreation, Code.isGuard, Code.isCaller, Code.frames, Code.isFrame, guardIds, h, pushGuards, Code.guards]
def tMakeG (C : Addr) (sp : Sp) (t : TA) : TE := fun σ H Q => t σ H fun vs H1 => ∀ x dx, H1 x = none → H1 dx = none → dx ≠ x →
  sp (.ref x :: vs) (upd (upd H1 dx (.own x)) x (.ins C dx [])) (fun v H2 => v = .non ∧ Q (.ref x) H2) E0
theorem run_makeG {pins : List (Addr × Obj)} {σ : L2.St} {H : Hp} {s : Shared} {Q : VK} {us : List Value} {vs : List V} (M : Mk X.K C f) (F : FnG X.prog X.w X.K X.mg X.base k f fd ps sp) (hr : Room (k + 1) X.A) (hg : X.A.guards = some []) (hb : Binds X.K fd ps [])
    (I : Inv X pins σ H s) (r : Vals vs us)
    (h : ∀ x dx, H x = none → H dx = none → dx ≠ x → sp (.ref x :: vs) (upd (upd H dx (.own x)) x (.ins C dx [])) (fun v H2 => v = .non ∧ Q (.ref x) H2) E0) :
    wpAny (model X.prog X.w) X.A (call (.ref C) us) (EP X pins σ Q) X.xe s := by
  have hq := h (s.heap.objs.size + 1) s.heap.objs.size (I.hok.fresh (Nat.le_succ _)) (I.hok.fresh (Nat.le_refl _)) (Nat.ne_of_lt (Nat.lt_succ_self _))
  have I2 := Inv.made (C := C) I
  have r2 : Vals (V.ref (s.heap.objs.size + 1) :: vs) (Value.ref (s.heap.objs.size + 1) :: us) := .cons rfl r
  have hl : (Value.ref (s.heap.objs.size + 1) :: us ++ []).length = ps.length := by
    have e := r2.length
    rw [F.len _ _ _ _ hq] at e
    rw [List.append_nil]
    exact e.symm
  have hb' := hb _ (Value.ref (s.heap.objs.size + 1) :: us) I2.kIn hl
  rw [List.append_nil] at hb'
  refine wpAny_call (make_map (f := f) I.kIn M.makes M.init (beq_iff_eq.mp M.fn) (codeAny_mono (F.go _ X.stack _ _ ⟨Value.ref (s.heap.objs.size + 1) :: us, []⟩ (Value.ref (s.heap.objs.size + 1) :: us) _ _ (hr.make C us []) (make_guards hg)
    (I2.env0.make C us []) hb' r2 hq) fun r s' hq' => ?_))
  cases r with
  | error e => exact False.elim hq'
  | ok fl =>
    cases fl with
    | ret u =>
      obtain ⟨v, H', I3, rv, ev, q3⟩ := I2.after hq'
      subst ev
      exact ⟨rv, ⟨V.ref (s.heap.objs.size + 1), H', I3, rfl, q3⟩⟩
    | next => exact False.elim hq'
    | brk => exact False.elim hq'
    | cont => exact False.elim hq'
theorem pe_makeG (M : Mk X.K C f) (F : FnG X.prog X.w X.K X.mg X.base k f fd ps sp) (hr : Room (k + 1) X.A) (hgu : X.A.guards = some []) (hg : Gl X x) (hm : X.mg x = some (.ref C)) (hb : Binds X.K fd ps [])
    (ha : PA X (e :: es) t) (hdb : (x == ("__debug__" : Str)) = false := by decide) (he : starEach (e :: es) X.env = (false, eval e X.env) :: starEach es X.env := by rfl) (hpl : (backTo pos (starEach es X.env)).any (·.1) = false := by rfl) :
    PE X (.Call (.Name x p) (e :: es) [] pos) (tMakeG C sp t) := by
  refine ⟨fun pins s σ H Q I h => ?_⟩
  refine wpAny_Call_Name_kw (ld_glob I hg hm ?_ hdb)
  refine PySem.W.callWith_K (h₀ := X.base) I.ok.mod.kin M.kp (thn (ha.run pos pins s σ H _ I h) fun us s1 ⟨vs, H1, I1, r, q⟩ => ⟨I1.kIn, ?_⟩) he hpl
  exact run_makeG M F hr hgu hb I1 r q
end
end PH

namespace PH
open PySem PySem.Spec PySem.Calls PyProof.Rows Builtin
theorem int_mul_inst (a : Int) (t : Tok) (l C dx : Addr) :
    Meets (Builtin.«int.__mul__» ⟨[.int a t, .ref l], []⟩) (fun _ R s => s.heap.get? l = some (PySem.W.instObj C dx) ∧ R (.ok (.ret Value.notImplemented)) s) :=
  .of_wp fun prog w A R s h => by obtain ⟨hp, g, d, tk, os⟩ := s; obtain ⟨hl, h⟩ := h; unfold PySem.W.instObj at hl; wp_walk; exact ⟨_, rfl, h⟩
end PH
namespace PySem.W
open PySem PySem.Calls PyProof.Rows
section
variable {prog : Program} {w : World} {A : Around} {E : Value → Shared → Prop} {s : Shared} {K : Frag} {x C L f : Addr} {h₀ : Heap} {m : Str → Option Value} {ox : Obj} {od : Option Obj}
theorem ksp_rmul {n : Int} {t : Tok} {dx : Addr} {Q : Value → Shared → Prop} (F : Fr h₀ L s.heap m) (X₀ : K.In h₀) (I : InstAt s.heap x ox C od) (hox : s.heap.get? x = some (instObj C dx)) (hc : selfFirst K C = true)
    (hs : findIn K (.ref C) (PySem.dunder "mul") = some (some (.ref g0))) (hr : findIn K (.ref C) (dunderR "mul") = some (some (.ref f))) (hf : isFn K (.ref f) = true) (hsub : subIn K (.ref C) (.type "int") = some false)
    (h : wpAny (model prog w) A (call (.ref f) [.ref x, .int n t]) (CmpBack Q) E s) : wpAny (model prog w) A (binaryOp .Mult (.int n t) (.ref x)) Q E s := by
  have X := X₀.keeps F.keep
  obtain ⟨cd, rest, hcd, hm⟩ := ksp_first hc
  have one := ksp_try X I hr hf h
  have two : wpAny (model prog w) A (tryMethod (.int n t) (PySem.dunder "mul") (.ref x)) (fun r s' => r = none ∧ s' = s) E s := by
    unfold tryMethod
    refine wpAny_bind (wpAny_callSpecial?_slot (name := PySem.dunder "mul") (typeIs_int s n t) PySem.F.slot_int_mul (call_meets PySem.F.slot_int_mul (typeIs_int s n t) PySem.F.entry_int_mul (PySem.F.args_int_mul_2 _ _) (PH.int_mul_inst n t x C dx) ⟨hox, ?_⟩))
    exact wpAny_pure ⟨rfl, rfl⟩
  obtain ⟨hh, g, d, tt, os⟩ := s
  have L1 : Looks (model prog w) hh (typeOf (.ref x)) (.ref C) := I.type
  have L2 : Looks (model prog w) hh (typeOf (.int n t)) (.type "int") := Looks.of_pure rfl
  have L3 : Looks (model prog w) hh (fillsNumberSlot (.ref C) "mul") true := fills_K X hcd hm hs
  have L4 : Looks (model prog w) hh (fillsNumberSlot (.type "int") "mul") true := Looks.of_pure PySem.F.fills_int_mul
  have L5 : Looks (model prog w) hh (isSubtype (.ref C) (.type "int")) false := looks_subIn X hsub
  have L7 : Looks (model prog w) hh (numberSlotInPython (.type "int") "mul") false := Looks.of_pure rfl
  have hne : (Value.type "int" == Value.ref C) = false := Bool.eq_false_iff.mpr fun q => by cases beq_iff_eq.mp q
  simp only [binaryOp, show (Operator.Mult).info = ("*", "mul") from rfl]
  refine wpAny_holding (wpAny_bind ?_)
  unfold binaryOp1
  refine wpAny_bind (L2.at (wpAny_bind (L1.at (wpAny_bind (L4.at ?_)))))
  simp only [hne, Bool.false_eq_true, if_false]
  ksp_lk
  refine wpAny_mono two (fun r s' hr' => ?_) fun _ _ e => e
  obtain ⟨rfl, rfl⟩ := hr'
  ksp_lk
  refine wpAny_mono one (fun r s' hr' => ?_) fun _ _ e => e
  obtain ⟨v, rfl, hq⟩ := hr'
  ksp_lk
  exact hq
end
end PySem.W
namespace PH
open PySem PySem.Spec PyProof.Rows L2
structure HpO (K : PySem.W.Frag) (C : Addr) : Prop where
  sf : PySem.W.selfFirst K C = true
  si : PySem.W.subIn K (.ref C) (.type "int") = some false
  is : PySem.W.subIn K (.type "int") (.ref C) = some false
  im : ∃ fo, PySem.W.findIn K (.type "int") (PySem.dunder "mul") = some fo
  ir : ∃ ro, PySem.W.findIn K (.type "int") (dunderR "mul") = some ro
section
variable {X : Cx} {k j : Nat} {f C : Addr} {fd : FuncData} {ps : List Str} {sp : Sp} {spd : DSp} {m : Str} {pos : Pos} {a b : Expr} {ma mb : DE}
theorem ep_back {pins : List (Addr × Obj)} {σ : L2.St} {Q : VK} {v : Value} {s' : Shared} (h : EP X pins σ Q v s') : PySem.W.CmpBack (EP X pins σ Q) v s' := by
  obtain ⟨x, H, I, r, q⟩ := id h
  cases v <;> first | exact h | (cases x <;> first | (obtain ⟨t, z⟩ := r; cases z; done) | (cases r; done))
def rHH (C : Addr) (sp : Sp) : R2 := fun x y H Q => ∃ a dx fs b dy gs, x = .ref a ∧ y = .ref b ∧ H a = some (.ins C dx fs) ∧ H b = some (.ins C dy gs) ∧ sp [x, y] H Q E0
theorem op_hh {op : Operator} (O : HpO X.K C) (hm : Meth X.K C m f) (F : FnG X.prog X.w X.K X.mg X.base k f fd ps sp) (hr : Room k X.A) (hg : X.A.guards = some []) (hb : Binds X.K fd ps []) (hd : PySem.dunder op.info.2 = m) : OpR X (binaryOp op) (rHH C sp) := by
  intro pins s σ H x y v u Q I rx ry h
  obtain ⟨a, dx, fs, b, dy, gs, rfl, rfl, ha, hb', q⟩ := h
  obtain rfl : v = Value.ref a := rx
  obtain rfl : u = Value.ref b := ry
  obtain ⟨mA, J, _⟩ := ins_get I.hok ha
  obtain ⟨mB, J', _⟩ := ins_get I.hok hb'
  obtain ⟨od, J, _⟩ := J.look
  obtain ⟨od', J', _⟩ := J'.look
  obtain ⟨mm, hF⟩ := I.fr
  refine PySem.W.binop_K hF I.ok.mod.kin J J'.type O.sf (by rw [hd]; exact hm.at_) hm.fn ?_
  exact wpAny_mono (runG (us := [.ref a, .ref b]) (vs := [.ref a, .ref b]) F hr hg hb I (.cons rfl (.cons rfl .nil)) q) (fun _ _ z => ep_back z) fun _ _ z => z
def rHI (C : Addr) (sp : Sp) : R2 := fun x y H Q => ∃ a dx fs i, x = .ref a ∧ y = .int i ∧ H a = some (.ins C dx fs) ∧ sp [x, y] H Q E0
theorem op_hi {g : Addr} (O : HpO X.K C) (hm : Meth X.K C "__mul__" f) (hm2 : Meth X.K C "__rmul__" g) (F : FnG X.prog X.w X.K X.mg X.base k f fd ps sp) (hr : Room k X.A) (hg : X.A.guards = some []) (hb : Binds X.K fd ps []) : OpR X (binaryOp .Mult) (rHI C sp) := by
  intro pins s σ H x y v u Q I rx ry h
  obtain ⟨a, dx, fs, i, rfl, rfl, ha, q⟩ := h
  obtain rfl : v = Value.ref a := rx
  obtain ⟨t, rfl⟩ := ry
  obtain ⟨mA, J, _⟩ := ins_get I.hok ha
  obtain ⟨od, J, _⟩ := J.look
  obtain ⟨mm, hF⟩ := I.fr
  obtain ⟨fo, h1⟩ := O.im
  obtain ⟨ro, h2⟩ := O.ir
  refine PySem.W.ksp_binT (op := .Mult) (T := "int") hF I.ok.mod.kin J rfl O.sf hm.at_ hm.fn hm2.at_ (.inr ⟨_, rfl⟩) h1 h2 O.is ?_
  exact wpAny_mono (runG (us := [.ref a, .int i t]) (vs := [.ref a, .int i]) F hr hg hb I (.cons rfl (.cons ⟨t, rfl⟩ .nil)) q) (fun _ _ z => ep_back z) fun _ _ z => z
def rIH (C : Addr) (sp : Sp) : R2 := fun x y H Q => ∃ a dx fs i, x = .int i ∧ y = .ref a ∧ H a = some (.ins C dx fs) ∧ sp [y, x] H Q E0
theorem op_ih {g : Addr} (O : HpO X.K C) (hm2 : Meth X.K C "__mul__" g) (hm : Meth X.K C "__rmul__" f) (F : FnG X.prog X.w X.K X.mg X.base k f fd ps sp) (hr : Room k X.A) (hg : X.A.guards = some []) (hb : Binds X.K fd ps []) : OpR X (binaryOp .Mult) (rIH C sp) := by
  intro pins s σ H x y v u Q I rx ry h
  obtain ⟨a, dx, fs, i, rfl, rfl, ha, q⟩ := h
  obtain ⟨t, rfl⟩ := rx
  obtain rfl : u = Value.ref a := ry
  obtain ⟨mA, O', _⟩ := ins_get I.hok ha
  obtain ⟨od, J, _⟩ := O'.look
  obtain ⟨mm, hF⟩ := I.fr
  refine PySem.W.ksp_rmul hF I.ok.mod.kin J O'.obj O.sf hm2.at_ hm.at_ hm.fn O.si ?_
  exact wpAny_mono (runG (us := [.ref a, .int i t]) (vs := [.ref a, .int i]) F hr hg hb I (.cons rfl (.cons ⟨t, rfl⟩ .nil)) q) (fun _ _ z => ep_back z) fun _ _ z => z
def dHH (spd : DSp) (ma mb : DE) : DE := fun σd Q => ma σd fun d => mb σd fun e => (∃ k1 k2, d = hpD k1 ∧ e = hpD k2) ∧ spd [d, e] Q
def dHI (spd : DSp) (ma mb : DE) : DE := fun σd Q => ma σd fun d => mb σd fun e => (∃ k1 i, d = hpD k1 ∧ e = .int i) ∧ spd [d, e] Q
def dIH (spd : DSp) (ma mb : DE) : DE := fun σd Q => ma σd fun d => mb σd fun e => (∃ i k1, d = .int i ∧ e = hpD k1) ∧ spd [e, d] Q
variable (hp : ∃ C, hpCls = some C ∧ HpO X.K C) (hr : Room k X.A) (hj : j ≤ k) (hg : X.A.guards = some []) (ha : PD X a ma) (hb : PD X b mb)
include hp hr hj hg ha hb
theorem pd_hh {op : Operator} (D : MethOk X.prog X.w X.K X.mg X.base j m ps spd) (hd : PySem.dunder op.info.2 = m := by decide) (hl : ps.length = 2 := by rfl) : PD X (.BinOp a op b pos) (dHH spd ma mb) := by
  obtain ⟨C, hC, O⟩ := hp
  obtain ⟨f, fd, hm, kp, hbd, F⟩ := D
  obtain ⟨t, h1, l1⟩ := ha
  obtain ⟨t2, h2, l2⟩ := hb
  refine ⟨_, pe_op (op_hh O (hm C hC) F (hr.mono hj) hg hbd hd) h1 h2, fun S M H0 H σ σd Qd Q E h kk => ?_⟩
  refine l1 S M H0 H σ σd _ _ E h fun d v H1 q E1 k1 r1 => l2 S M H0 H1 σ σd _ _ E1 q fun e u H2 q E2 k2 r2 => ?_
  obtain ⟨⟨kv1, kv2, rfl, rfl⟩, q⟩ := q
  have r3 := E1.dq k2 r1
  obtain ⟨C1, a, dx, _, c1, rfl, _, _, e1, _⟩ := r3.hpAt
  obtain ⟨C2, b, dy, _, c2, rfl, _, _, e2, _⟩ := r2.hpAt
  rw [hC] at c1 c2
  cases c1
  cases c2
  exact ⟨a, dx, _, b, dy, _, rfl, rfl, e1, e2, sp_call E2 (k1.trans k2) (.cons r3 (.cons r2 .nil)) (by rw [hl]; rfl) q kk⟩
theorem pd_hi (D : MethOk X.prog X.w X.K X.mg X.base j "__mul__" ps spd) (hm2 : ∃ g, ∀ C, hpCls = some C → Meth X.K C "__rmul__" g) (hl : ps.length = 2 := by rfl) : PD X (.BinOp a .Mult b pos) (dHI spd ma mb) := by
  obtain ⟨C, hC, O⟩ := hp
  obtain ⟨f, fd, hm, kp, hbd, F⟩ := D
  obtain ⟨g, hm2⟩ := hm2
  obtain ⟨t, h1, l1⟩ := ha
  obtain ⟨t2, h2, l2⟩ := hb
  refine ⟨_, pe_op (op_hi O (hm C hC) (hm2 C hC) F (hr.mono hj) hg hbd) h1 h2, fun S M H0 H σ σd Qd Q E h kk => ?_⟩
  refine l1 S M H0 H σ σd _ _ E h fun d v H1 q E1 k1 r1 => l2 S M H0 H1 σ σd _ _ E1 q fun e u H2 q E2 k2 r2 => ?_
  obtain ⟨⟨kv1, i, rfl, rfl⟩, q⟩ := q
  have r3 := E1.dq k2 r1
  obtain ⟨C1, a, dx, _, c1, rfl, _, _, e1, _⟩ := r3.hpAt
  rw [hC] at c1
  cases c1
  have eu : u = .int i := by cases r2; rfl
  subst eu
  exact ⟨a, dx, _, i, rfl, rfl, e1, sp_call E2 (k1.trans k2) (.cons r3 (.cons r2 .nil)) (by rw [hl]; rfl) q kk⟩
theorem pd_ih (D : MethOk X.prog X.w X.K X.mg X.base j "__rmul__" ps spd) (hm2 : ∃ g, ∀ C, hpCls = some C → Meth X.K C "__mul__" g) (hl : ps.length = 2 := by rfl) : PD X (.BinOp a .Mult b pos) (dIH spd ma mb) := by
  obtain ⟨C, hC, O⟩ := hp
  obtain ⟨f, fd, hm, kp, hbd, F⟩ := D
  obtain ⟨g, hm2⟩ := hm2
  obtain ⟨t, h1, l1⟩ := ha
  obtain ⟨t2, h2, l2⟩ := hb
  refine ⟨_, pe_op (op_ih O (hm2 C hC) (hm C hC) F (hr.mono hj) hg hbd) h1 h2, fun S M H0 H σ σd Qd Q E h kk => ?_⟩
  refine l1 S M H0 H σ σd _ _ E h fun d v H1 q E1 k1 r1 => l2 S M H0 H1 σ σd _ _ E1 q fun e u H2 q E2 k2 r2 => ?_
  obtain ⟨⟨i, kv1, rfl, rfl⟩, q⟩ := q
  have r3 := E1.dq k2 r1
  obtain ⟨C1, a, dx, _, c1, rfl, _, _, e1, _⟩ := r2.hpAt
  rw [hC] at c1
  cases c1
  have eu : v = .int i := by cases r1; rfl
  subst eu
  exact ⟨a, dx, _, i, rfl, rfl, e1, sp_call E2 (k1.trans k2) (.cons r2 (.cons r3 .nil)) (by rw [hl]; rfl) q kk⟩
end
def isHp : D → Bool
  | .dict ((.none, .int 1) :: _) => true
  | _ => false
theorem isHp_hp (kvs : List (NestedKey × Int)) : isHp (hpD kvs) = true := rfl
theorem Dq.hpOr {S : Sr} {M : Addr → Prop} {H : Hp} {v : V} {d : D} (h : Dq S M H v d) : isHp d = false ∨ ∃ kvs, d = hpD kvs := by
  cases h with
  | hep c n nb e x => exact .inr ⟨_, rfl⟩
  | _ => exact .inl rfl
def dIsH (m : DE) : DE := fun σd Q => m σd fun d => Q (.bool (isHp d))
def kitNo (K : PySem.W.Frag) (C : Addr) : Prop := ∀ d : D, PySem.W.kitOne K (.type (tyN d)) (.ref C) = some false
theorem pd_isH {X : Cx} {e : Expr} {p pos pt : Pos} {ma : DE} {x xT : Str} (hK : HpK X.K) (hp : ∃ C, hpCls = some C ∧ X.mg xT = some (.ref C) ∧ kitNo X.K C) (hg : Gl X x) (hm : X.mg x = none) (hv : bootBuiltins x = some (.builtin "isinstance")) (gT : Gl X xT) (ha : PD X e ma)
    (hn : x ≠ "__name__" := by decide) (hdb : (x == ("__debug__" : Str)) = false := by decide) (hdT : (xT == ("__debug__" : Str)) = false := by decide)
    (hs1 : starEach [e, .Name xT pt] X.env = (false, eval e X.env) :: starEach [.Name xT pt] X.env := by rfl) (hs2 : starEach [.Name xT pt] X.env = (false, eval (.Name xT pt) X.env) :: starEach [] X.env := by rfl)
    (hpl : (backTo pos (starEach [.Name xT pt] X.env)).any (·.1) = false := by rfl) : PD X (.Call (.Name x p) [e, .Name xT pt] [] pos) (dIsH ma) := by
  obtain ⟨C, hC, mT, kn⟩ := hp
  obtain ⟨t, h1, l1⟩ := ha
  have cls : PE X (.Name xT pt) (tC (.ref C)) := ⟨fun pins s σ H Q I h => ld_glob I gT mT ⟨.ref C, H, I, rfl, h⟩ hdT⟩
  refine ⟨_, pe_callB call_isiY hg hm hv (pa_cons h1 (pa_cons cls pa_nil hs2) hs1) hn hdb hs1 hpl, ?_⟩
  intro S M H0 H σ σd Qd Q E h k
  refine l1 S M H0 H σ σd _ _ E h fun d v H1 q E1 k1 r1 => ?_
  have so : SrcOk S (MO M σd) H1 := E1.srcO
  rcases r1.hpOr with nh | ⟨kvs, rfl⟩
  · rcases r1.tyOf hK so with y | ⟨C', kvs, c, z, y⟩
    · exact ⟨v, .ref C, _, _, false, rfl, .own C, y, kn d, k _ _ H1 (by rw [nh] at q; exact q) E1 k1 (.bl _)⟩
    · subst z; cases nh
  · rcases r1.tyOf hK so with y | ⟨C', kvs', c, z, y⟩
    · obtain ⟨C1, a, dx, b, c, rfl, _, _, e1, _⟩ := r1.hpAt
      rw [hC] at c
      cases c
      exact ⟨_, .ref C, _, _, true, rfl, .own C, .x (.base (.ins e1 (hK C hC).cl (hK C hC).ha (hK C hC).hn (hK C hC).htk (hK C hC).hm)), (hK C hC).k_own, k _ _ H1 q E1 k1 (.bl _)⟩
    · rw [hC] at c
      cases c
      exact ⟨v, .ref C, _, _, true, rfl, .own C, y, (hK C hC).k_own, k _ _ H1 q E1 k1 (.bl _)⟩
end PH

namespace PH
open PySem PySem.Spec PyProof.Rows L2
abbrev Rws := List (NestedKey × Int)
theorem Ev.raw {S : Sr} {M : Addr → Prop} {H0 H : Hp} {σ : L2.St} {σd : DSt} (E : Ev S M H0 H σ σd) (i : Nat) (v : V) : Ev S M H0 H (σ.set i (some v)) (σd.set i (.raw v)) := by
  have sub : ∀ a, MO M (σd.set i (.raw v)) a → MO M σd a := fun a h => by
    rcases h with h | ⟨ds, h⟩
    · exact .inl h
    · rcases List.mem_or_eq_of_mem_set h with h | h
      · exact .inr ⟨ds, h⟩
      · cases h
  have g : ∀ a o, ¬ MO M σd a → H a = some o → ¬ MO M (σd.set i (.raw v)) a ∧ H a = some o := fun a o n e => ⟨fun z => n (sub a z), e⟩
  have ow : ∀ {j : Nat} {a : Addr} {ds : List D}, (σd.set i (.raw v))[j]? = some (Sl.own a ds) → σd[j]? = some (Sl.own a ds) := fun {j a ds} h => by
    rw [List.getElem?_set] at h
    split at h
    · first
        | cases h
        | (split at h <;> cases h)
    · exact h
  refine ⟨by rw [List.length_set, List.length_set]; exact E.len, fun j o s h1 h2 => ?_, fun j k a ds es h1 h2 => E.uni j k a ds es (ow h1) (ow h2), fun a ds h => ?_, E.src, E.src0, E.keep, E.mt, E.mt0⟩
  · rw [List.getElem?_set] at h1 h2
    by_cases hj : i = j
    · rw [if_pos hj] at h1 h2
      split at h1
      · split at h2
        · cases h1; cases h2; exact rfl
        · cases h2
      · cases h1
    · rw [if_neg hj] at h1 h2
      have z := E.sl j o s h1 h2
      cases s with
      | emp => trivial
      | val d => obtain ⟨w, e, q⟩ := z; exact ⟨w, e, q.go g⟩
      | fn d => exact FnR.go z g
      | raw v => exact z
      | own a ds => obtain ⟨e, xs, h, q⟩ := z; exact ⟨e, xs, h, q.go g⟩
  · rcases List.mem_or_eq_of_mem_set h with h | h
    · exact E.new a ds h
    · cases h
theorem ne_of_not {M : Addr → Prop} {x a : Addr} (n : ¬ M x) (h : M a) : a ≠ x := fun z => n (z ▸ h)
theorem SrcOk.ins {S : Sr} {M : Addr → Prop} {H : Hp} {x C dx : Addr} {fs gs : List (Str × V)} (s : SrcOk S M H) (nx : ¬ M x) (e : H x = some (.ins C dx fs)) : SrcOk S M (upd H x (.ins C dx gs)) := by
  refine ⟨fun p c h => ?_, tabs_upd s.tab e (h2 := by intro _ _ z; unfold LamX.CodeO at z; cases z), fun a h => ?_⟩
  · obtain ⟨h1, h2, h3, ns, l, m, t, h4, h5⟩ := s.go p c h
    exact ⟨h1, h2, h3, ns, l, m, t, by rw [upd_ne (ne_of_not nx h2)]; exact h4, by rw [upd_ne (ne_of_not nx h1)]; exact h5⟩
  · rw [upd_ne (ne_of_not nx h)]; exact s.nt a h
theorem nd_ins {M : Addr → Prop} {H : Hp} {x b C dx : Addr} {fs gs : List (Str × V)} {kvs : List (NestedKey × V)} (n : NdAt M H b kvs) (e : H x = some (.ins C dx fs)) : NdAt M (upd H x (.ins C dx gs)) b kvs := by
  refine n.go (fun o' e' => ?_) fun c ys m e' => ⟨m, ?_⟩
  · rw [upd_ne (fun z => by rw [z, e] at e'; cases e')]; exact e'
  · rw [upd_ne (fun z => by rw [z, e] at e'; cases e')]; exact e'
theorem hep_put {S : Sr} {M : Addr → Prop} {H0 H : Hp} {σ : L2.St} {σd : DSt} {x C dx : Addr} {fs : List (Str × V)} {w : V} {kvs : Rws} (hC : hpCls = some C) (E : Ev S M H0 H σ σd) (e : H x = some (.ins C dx fs)) (nM : ¬ MO M σd x) (h0 : H0 x = none) (r : Dq S (MO M σd) H w (ndD kvs)) :
    KeepS S H0 (upd H x (.ins C dx [("_weights", w)])) ∧ SrcOk S M (upd H x (.ins C dx [("_weights", w)])) ∧ (∀ a, M a → upd H x (.ins C dx [("_weights", w)]) a ≠ none) ∧ Dq S M (upd H x (.ins C dx [("_weights", w)])) (.ref x) (hpD kvs) := by
  have nm : ¬ M x := fun z => nM (.inl z)
  obtain ⟨b, rfl, nb, n⟩ := r.ndAt
  refine ⟨fun a o h ns => ?_, E.src.ins nm e, fun a h => ?_, .hep hC nm (fun z => nb (.inl z)) upd_same ((nd_ins n e).go (fun _ e => e) fun a _ m e => ⟨fun z => m (.inl z), e⟩)⟩
  · rw [upd_ne (ne_of_none h h0)]; exact E.keep a o h ns
  · rw [upd_ne (ne_of_not nm h)]; exact E.mt a h
def spInit (OK : Rws → Prop) (aw : Rws → Rws) : Sp := fun vs H Q _ => ∃ (S : Sr) (M : Addr → Prop) (C x dx : Addr) (r : V) (d : D) (rows : Rws), vs = [.ref x, r] ∧ hpCls = some C ∧ H x = some (.ins C dx []) ∧ (∀ a, M a → H a ≠ none) ∧ SrcOk S M H ∧ ¬ M x ∧ Dq S M H r d ∧
  (d = .list (rows.map krD) ∨ d = .tuple (rows.map krD)) ∧ OK rows ∧ ∀ v H', KeepS S H H' → SrcOk S M H' → (∀ a, M a → H' a ≠ none) → Dq S M H' v (ndD (aw rows)) → Q .non (upd H' x (.ins C dx [("_weights", v)]))
section
variable {P : Program} {w : World} {K : PySem.W.Frag} {mg : Str → Option Value} {base : Heap} {OK : Rws → Prop} {aw : Rws → Rws}
theorem initOk {k : Nat} {q : Str} {st st1 : Stmt} {e : Expr} {p1 p2 p3 : Pos} {N : List Str} {m1 : DS} {m2 : DE} (hK : HpK K) (hd : MDfn K "__init__" q st) (S : FnScope N ["self", "rows"] (defScope st)) (bnd : BindM "__init__" q ["self", "rows"] st)
    (hbody : defBody st = [st1, .Assign [.Attribute (.Name "self" p1) "_weights" p2] e p3])
    (h1 : ∀ (f : Addr) (cdv : Value) (A : Around) (outer : List Env) (s : Shared) (H : Hp), Room k (A.deeper (envOfC q (defScope st) s.heap.objs.size f cdv)) → A.guards = some [] → PDS W0 (cxOf CX0 P w K mg base N q (defScope st) f cdv A outer s H E0).nox st1 m1)
    (h2 : ∀ (f : Addr) (cdv : Value) (A : Around) (outer : List Env) (s : Shared) (H : Hp), Room k (A.deeper (envOfC q (defScope st) s.heap.objs.size f cdv)) → A.guards = some [] → PD (cxOf CX0 P w K mg base N q (defScope st) f cdv A outer s H E0).nox e m2)
    (hs : ∀ (f : Addr) (cdv : Value) (A : Around) (outer : List Env) (s : Shared) (H : Hp), PE (cxOf CX0 P w K mg base N q (defScope st) f cdv A outer s H E0).nox (.Name "self" p1) (tVar 0))
    (hsw : ∀ (f : Addr) (cdv : Value) (A : Around) (outer : List Env) (s : Shared) (H : Hp), swapsWith e (some (.Attribute (.Name "self" p1) "_weights" p2)) p3.line (cxOf CX0 P w K mg base N q (defScope st) f cdv A outer s H E0).nox.env = pure false)
    (hm : ∀ (x : Addr) (rows : Rws) (d : D) (Qd : D → Prop), (d = .list (rows.map krD) ∨ d = .tuple (rows.map krD)) → OK rows → Qd (ndD (aw rows)) →
      m1 { nx := fun σd => σd[0]? = some (.raw (.ref x)) ∧ m2 σd Qd, rt := fun _ => False } ((dstart N.length [.none, d]).set 0 (.raw (.ref x)))) :
    MSpOk P w K mg base (k + 1) "__init__" ["self", "rows"] (spInit OK aw) := by
  refine mspOk hd S bnd (fun vs H Q E h => ?_) fun f cdv A outer s H vs Q hr hg hsp => ?_
  · obtain ⟨_, _, _, _, _, _, _, _, rfl, _⟩ := h; rfl
  obtain ⟨Sr', M, C, x, dx, r, d, rows, rfl, hC, ex, mt, so, nx, rd, hdd, ok, hq⟩ := hsp
  obtain ⟨t1, p1', l1⟩ := h1 f cdv A outer s H hr hg
  obtain ⟨t2, p2', l2⟩ := h2 f cdv A outer s H hr hg
  rw [hbody]
  refine ⟨_, pss_cons p1' (pss_one (ps_fld (hs f cdv A outer s H) p2' (hsw f cdv A outer s H))), ?_⟩
  have E := (ev_start (N := N) (vs := [.non, r]) (ds := [.none, d]) mt so (.cons .non (.cons rd .nil))).raw 0 (.ref x)
  have es : (L2.start N [.non, r]).set 0 (some (.ref x)) = L2.start N [.ref x, r] := rfl
  rw [es] at E
  refine l1 Sr' M H H _ _ { nx := fun σd => σd[0]? = some (.raw (.ref x)) ∧ m2 σd (fun z => z = ndD (aw rows)), rt := fun _ => False } _ E (hm x rows d (fun z => z = ndD (aw rows)) hdd ok rfl) ⟨fun σd' σ' H' q E' => ?_, fun _ _ _ z => z.elim, fun _ _ _ z => z.elim, fun _ _ _ z => z.elim, fun _ _ _ _ z => z.elim⟩
  obtain ⟨q0, q1⟩ := q
  show sFld K (tVar 0) t2 "_weights" _ σ' H'
  refine l2 Sr' M H H' σ' σd' _ _ E' q1 fun z v H2 q E2 k2 r2 => ?_
  subst q
  obtain ⟨o, ho, hor⟩ := E2.slot q0
  have hor' : o = some (.ref x) := hor
  subst hor'
  have nsrc : ∀ p c, Sr' = some (p, c) → x ≠ p ∧ x ≠ c := fun p c h => by
    obtain ⟨a1, a2, _⟩ := so.go p c h
    exact ⟨fun z => nx (z ▸ a1), fun z => nx (z ▸ a2)⟩
  refine ⟨.ref x, ho, x, C, dx, [], rfl, E2.keep.k x _ ex nsrc, (hK C hC).cl, (hK C hC).wt, by simp, ?_⟩
  exact hq v H2 E2.keep E2.src E2.mt (r2.go fun a o n e => ⟨fun z => n (.inl z), e⟩)
end
structure HpN (K : PySem.W.Frag) (C : Addr) : Prop where
  mks : PySem.W.makesIn K C = true
  kp : PySem.W.keepIn K (.ref C) = true
section
variable {S : Sr} {M : Addr → Prop} {H0 H H1 : Hp} {σ : L2.St} {σd : DSt} {OK : Rws → Prop} {aw : Rws → Rws}
theorem make_core {C : Addr} {v : V} {d : D} {rows : Rws} {Q : V → Hp → Prop} (hC : hpCls = some C) (E1 : Ev S M H0 H1 σ σd) (r : Dq S (MO M σd) H1 v d) (hd : d = .list (rows.map krD) ∨ d = .tuple (rows.map krD)) (ok : OK rows)
    (k : ∀ x dx b H', H1 x = none → H' x = some (.ins C dx [("_weights", .ref b)]) → Ev S M H0 H' σ σd → KeepS S H1 H' → Dq S (MO M σd) H' (.ref x) (hpD (aw rows)) → Q (.ref x) H') :
    ∀ x dx, H1 x = none → H1 dx = none → dx ≠ x → spInit OK aw (.ref x :: [v]) (upd (upd H1 dx (.own x)) x (.ins C dx [])) (fun v H2 => v = .non ∧ Q (.ref x) H2) E0 := by
  intro x dx hx hdx ne
  have s1 : Same H1 (upd H1 dx (.own x)) := Same.upd hdx
  have hx1 : upd H1 dx (.own x) x = none := by rw [upd_ne ne.symm]; exact hx
  have s2 : Same H1 (upd (upd H1 dx (.own x)) x (.ins C dx [])) := s1.trans (Same.upd hx1)
  have E2 := E1.same s2
  have nM : ¬ MO M σd x := fun z => E1.mtO x z hx
  refine ⟨S, MO M σd, C, x, dx, v, d, rows, rfl, hC, upd_same, E2.mtO, E2.srcO, nM, E1.dq (.of s2) r, hd, ok, fun v' H' k' so' mt' r' => ⟨rfl, ?_⟩⟩
  have nsrc : ∀ p c, S = some (p, c) → x ≠ p ∧ x ≠ c := fun p c h => by
    obtain ⟨a1, a2, _⟩ := E2.srcO.go p c h
    exact ⟨fun z => nM (z ▸ a1), fun z => nM (z ▸ a2)⟩
  have ex : H' x = some (.ins C dx []) := k'.k x _ upd_same nsrc
  have k1 : KeepS S H1 H' := (KeepS.of s2).trans k'
  have E3 : Ev S M H0 H' σ σd := E1.ext k1 (E1.src.at so')
  obtain ⟨b, rfl, nb, n⟩ := r'.ndAt
  have kk : KeepS S H1 (upd H' x (.ins C dx [("_weights", .ref b)])) := fun a o h ns => by rw [upd_ne (ne_of_none h hx)]; exact k1 a o h ns
  have so2 : SrcOk S M (upd H' x (.ins C dx [("_weights", .ref b)])) := E3.src.ins (fun z => nM (.inl z)) ex
  exact k x dx b _ hx upd_same (E1.ext kk so2) kk (.hep hC nM nb upd_same (nd_ins n ex))
end
section
variable {X : Cx} {k j : Nat} {OK : Rws → Prop} {aw : Rws → Rws} {x : Str} {p pos : Pos} {e : Expr} {ma : DE}
def dMake (OK : Rws → Prop) (aw : Rws → Rws) (ma : DE) : DE := fun σd Q => ma σd fun d => ∃ rows : Rws, (d = .list (rows.map krD) ∨ d = .tuple (rows.map krD)) ∧ OK rows ∧ Q (hpD (aw rows))
theorem pe_makeH {C : Addr} {t : TA} {es : List Expr} (hC : hpCls = some C) (N : HpN X.K C) (D : MSpOk X.prog X.w X.K X.mg X.base j "__init__" ["self", "rows"] (spInit OK aw)) (hr : Room (k + 1) X.A) (hj : j ≤ k) (hgu : X.A.guards = some []) (hg : Gl X x) (hm : X.mg x = some (.ref C))
    (ha : PA X (e :: es) t) (hdb : (x == ("__debug__" : Str)) = false := by decide) (he : starEach (e :: es) X.env = (false, eval e X.env) :: starEach es X.env := by rfl) (hpl : (backTo pos (starEach es X.env)).any (·.1) = false := by rfl) :
    PE X (.Call (.Name x p) (e :: es) [] pos) (tMakeG C (spInit OK aw) t) := by
  obtain ⟨f, fd, hm', kp, hb, F⟩ := D
  exact pe_makeG ⟨N.mks, (hm' C hC).at_, (hm' C hC).fn, N.kp⟩ F (hr.mono (by omega)) hgu hg hm hb ha hdb he hpl
theorem pd_makeH (hp : ∃ C, hpCls = some C ∧ X.mg x = some (.ref C) ∧ HpN X.K C) (D : MSpOk X.prog X.w X.K X.mg X.base j "__init__" ["self", "rows"] (spInit OK aw)) (hr : Room (k + 1) X.A) (hj : j ≤ k) (hgu : X.A.guards = some []) (ha : PD X e ma) (hg : Gl X x := by rfl)
    (hdb : (x == ("__debug__" : Str)) = false := by decide) (he : starEach [e] X.env = (false, eval e X.env) :: starEach [] X.env := by rfl) (hpl : (backTo pos (starEach [] X.env)).any (·.1) = false := by rfl) :
    PD X (.Call (.Name x p) [e] [] pos) (dMake OK aw ma) := by
  obtain ⟨C, hC, hm, N⟩ := hp
  obtain ⟨t, h1, l1⟩ := ha
  refine ⟨_, pe_makeH hC N D hr hj hgu hg hm (pa_cons h1 pa_nil he) hdb he hpl, fun S M H0 H σ σd Qd Q E h kk => ?_⟩
  refine l1 S M H0 H σ σd _ _ E h fun d v H1 q E1 k1 r1 => ?_
  obtain ⟨rows, hd, ok, q⟩ := q
  exact make_core hC E1 r1 hd ok fun x dx b H' _ _ E' k' r' => kk _ _ H' q E' (k1.trans k') r'
end
def spSummed (OK : Rws → Prop) (aw : Rws → Rws) : DSp := fun ds Q => ∃ rows : Rws, ds = [.list (rows.map krD)] ∧ OK rows ∧ Q (hpD (aw rows))
section
variable {P : Program} {w : World} {K : PySem.W.Frag} {mg : Str → Option Value} {base : Heap} {OK : Rws → Prop} {aw : Rws → Rws}
theorem summedOk {k j : Nat} {x : Str} {st : Stmt} {e : Expr} {p1 p2 p3 p4 p5 p6 p7 p8 p9 p10 : Pos} {N : List Str} {m2 : DE} (hK : HpK K) (hp : ∃ C, hpCls = some C ∧ mg "Heap" = some (.ref C) ∧ HpN K C) (Di : MSpOk P w K mg base j "__init__" ["self", "rows"] (spInit OK aw)) (hj : j + 1 ≤ k)
    (hd : Dfn K mg x st) (S : FnScope N ["rows"] (defScope st)) (bnd : BindOk x ["rows"] st) (hN : N = ([("rows" : Str), ("made" : Str)] : List Str))
    (hbody : defBody st = [.Assign [.Name "made" p1] (.Call (.Name "Heap" p2) [.List [] p3] [] p4) p5, .Assign [.Attribute (.Name "made" p6) "_weights" p7] e p8, .Return (some (.Name "made" p9)) p10])
    (h2 : ∀ (f : Addr) (cdv : Value) (A : Around) (outer : List Env) (s : Shared) (H : Hp), Room k (A.deeper (envOfC x (defScope st) s.heap.objs.size f cdv)) → A.guards = some [] → PD (cxOf CX0 P w K mg base N x (defScope st) f cdv A outer s H E0).nox e m2)
    (hsw : ∀ (f : Addr) (cdv : Value) (A : Around) (outer : List Env) (s : Shared) (H : Hp), swapsWith e (some (.Attribute (.Name "made" p6) "_weights" p7)) p8.line (cxOf CX0 P w K mg base N x (defScope st) f cdv A outer s H E0).nox.env = pure false)
    (hpa : ∀ (f : Addr) (cdv : Value) (A : Around) (outer : List Env) (s : Shared) (H : Hp), PE (cxOf CX0 P w K mg base N x (defScope st) f cdv A outer s H E0).nox (.Name "made" p6) (tVar 1))
    (hpb : ∀ (f : Addr) (cdv : Value) (A : Around) (outer : List Env) (s : Shared) (H : Hp), PE (cxOf CX0 P w K mg base N x (defScope st) f cdv A outer s H E0).nox (.Name "made" p9) (tVar 1))
    (hps : ∀ (f : Addr) (cdv : Value) (A : Around) (outer : List Env) (s : Shared) (H : Hp) (t : TE), PE (cxOf CX0 P w K mg base N x (defScope st) f cdv A outer s H E0).nox (.Call (.Name "Heap" p2) [.List [] p3] [] p4) t → PS (cxOf CX0 P w K mg base N x (defScope st) f cdv A outer s H E0).nox (.Assign [.Name "made" p1] (.Call (.Name "Heap" p2) [.List [] p3] [] p4) p5) (tAsg t (gName 1)))
    (hok : OK ([] : Rws)) (hgl : ∀ (f : Addr) (cdv : Value) (A : Around) (outer : List Env) (s : Shared) (H : Hp), Gl (cxOf CX0 P w K mg base N x (defScope st) f cdv A outer s H E0).nox "Heap") (hm : ∀ (y : Addr) (rows : Rws) (Qd : D → Prop), OK rows → Qd (ndD (aw rows)) → m2 [.val (.list (rows.map krD)), .raw (.ref y)] Qd) :
    DefOk P w K mg base (k + 1) x ["rows"] (spSummed OK aw) := by
  obtain ⟨C, hC, hmg, Nn⟩ := hp
  refine nameOk hd S bnd (fun vs H Q E h => ?_) fun f cdv A outer s H vs Q hr hg hsp => ?_
  · obtain ⟨_, _, _, _, _, _, _, h, _⟩ := h; exact h
  obtain ⟨Sr', M, ds, Qd, mt, so, rr, hl, ⟨rows, rfl, ok, hQd⟩, hq⟩ := hsp
  subst hN
  obtain ⟨r, rfl, rd⟩ : ∃ r, vs = [r] ∧ Dq Sr' M H r (.list (rows.map krD)) := by
    cases rr with
    | cons a b => cases b; exact ⟨_, rfl, a⟩
  obtain ⟨t2, p2', l2⟩ := h2 f cdv A outer s H hr hg
  have hroom : Room (j + 1) (cxOf CX0 P w K mg base ["rows", "made"] x (defScope st) f cdv A outer s H E0).nox.A := hr.mono hj
  have pm := pe_makeH (X := (cxOf CX0 P w K mg base ["rows", "made"] x (defScope st) f cdv A outer s H E0).nox) (x := "Heap") (p := p2) (pos := p4) (e := .List [] p3) (es := []) hC Nn Di hroom (Nat.le_refl _) hg (hgl f cdv A outer s H) hmg (pa_cons (pe_lst pa_nil) pa_nil)
  rw [hbody]
  refine ⟨_, pss_cons (hps f cdv A outer s H _ pm) (pss_cons (ps_fld (hpa f cdv A outer s H) p2' (hsw f cdv A outer s H)) (pss_one (ps_ret (hpb f cdv A outer s H)))), ?_⟩
  have E := ev_start (N := ["rows", "made"]) (vs := [r]) (ds := [.list (rows.map krD)]) mt so (.cons rd .nil)
  refine ⟨by simp, fun q hq' => ?_⟩
  have sq := Same.upd (o := .lst []) hq'
  have Eq := E.same sq
  intro y0 dx0 hy0' hdx0 ne0
  refine make_core (Q := fun v' H' => gName 1 v' (L2.start ["rows", "made"] [r]) H' (tSeq (sFld K (tVar 1) t2 "_weights") (tSeq (tRet (tVar 1)) tNext) { nx := fun _ H' => Q .non H', rt := Q })) (rows := []) hC Eq (d := .list []) (.lst (ds := []) (fun z => E.mtO q z hq') upd_same .nil) (.inl rfl) hok (fun y dx b H1 hy ey E1 k1 r1 => ?_) y0 dx0 hy0' hdx0 ne0
  have hy0 : H y = none := by
    cases z : H y with
    | none => rfl
    | some o => rw [sq _ _ z] at hy; cases hy
  have E1' := E1.raw 1 (.ref y)
  refine l2 Sr' M H H1 _ _ _ _ E1' (hm y rows (fun z => z = ndD (aw rows)) ok rfl) fun z v H2 q2 E2 k2 r2 => ?_
  subst q2
  have nM : ∀ {σd' : DSt}, σd' = (dstart 2 [.list (rows.map krD)]).set 1 (.raw (.ref y)) → ¬ MO M σd' y := fun e z => by
    subst e
    exact E1'.mt0 y (by
      rcases z with z | ⟨ds, z⟩
      · exact z
      · simp [dstart] at z) hy0
  have nsrc : ∀ p c, Sr' = some (p, c) → y ≠ p ∧ y ≠ c := fun p c h => by
    obtain ⟨a1, a2, _⟩ := so.go p c h
    exact ⟨fun z => mt p a1 (z ▸ hy0), fun z => mt c a2 (z ▸ hy0)⟩
  have e2 : H2 y = some (.ins C dx [("_weights", .ref b)]) := k2.k y _ ey nsrc
  refine ⟨.ref y, rfl, y, C, dx, _, rfl, e2, (hK C hC).cl, (hK C hC).wt, by simp, ?_⟩
  obtain ⟨h1, h2', h3, h4⟩ := hep_put hC E2 e2 (nM rfl) hy0 r2
  exact ⟨.ref y, rfl, hq _ _ _ hQd h1 h2' h4⟩
end
end PH

namespace PH
open PySem PySem.Spec PyProof.Rows L2
section
variable {S : Sr} {M : Addr → Prop} {H : Hp}
def SRel (S : Sr) (M : Addr → Prop) (H : Hp) (u : Value) (b : V × D) : Prop := RelV b.1 u ∧ Dq S M H b.1 b.2
theorem each_zip : ∀ {xs : List V} {ds : List D} {us : List Value}, Dqs S M H xs ds → Vals xs us → PySem.W.EachIs (SRel S M H) us (xs.zip ds)
  | _, _, _, .nil, .nil => .nil
  | _, _, _, .cons a b, .cons r t => .cons ⟨r, a⟩ (each_zip b t)
theorem each_back : ∀ {us : List Value} {bs : List (V × D)}, PySem.W.EachIs (SRel S M H) us bs → Vals (bs.map (·.1)) us ∧ Dqs S M H (bs.map (·.1)) (bs.map (·.2))
  | _, _, .nil => ⟨.nil, .nil⟩
  | _, _, .cons a b => ⟨.cons a.1 (each_back b).1, .cons a.2 (each_back b).2⟩
theorem zip_dats : ∀ {xs : List V} {ds : List D}, xs.length = ds.length → (xs.zip ds).map (fun b => b.2) = ds
  | [], [], _ => rfl
  | [], _ :: _, h => by simp at h
  | _ :: _, [], h => by simp at h
  | x :: xs, d :: ds, h => by simp only [List.zip_cons_cons, List.map_cons]; rw [zip_dats (by simpa using h)]
end
structure sOk (ds : List D) : Prop where
  ns : noSs ds = true
  al : PySem.W.AllAlike ds
  so : PySem.W.Sortable ds
  dp : ∀ d ∈ ds, d.depth ≤ 60
  ln : ds.length ≤ 1000000
def sortD (ds : List D) : List D := ds.mergeSort (PySem.W.dataLe false id)
def rSortD : List V → Hp → VK → Prop := fun vs H Q => ∃ (S : Sr) (M : Addr → Prop) (a : Addr) (xs : List V) (ds : List D), vs = [.ref a] ∧ H a = some (.lst xs) ∧ Dqs S M H xs ds ∧ sOk ds ∧ ∀ p ys, H p = none → Dqs S M H ys (sortD ds) → Q (.ref p) (upd H p (.lst ys))
theorem call_sortD {X : Cx} (hu : X.A.units + 64 < cLine) : CallR X (.builtin "sorted") rSortD := by
  intro pins s σ H vs us Q I r h
  obtain ⟨S, M, a, xs, ds, rfl, ha, rd, ok, q⟩ := h
  obtain ⟨u, rfl, ru⟩ := vals1 r
  obtain rfl : u = Value.ref a := ru
  obtain ⟨hz, its, n, rv, ho⟩ := (show ObjOk X.prog X.w H s.heap a (.lst xs) from I.hok a _ ha)
  have hl : xs.length = ds.length := rd.length
  have e := each_zip rd rv
  have em : (xs.zip ds).map (fun b => b.2) = ds := zip_dats hl
  have hlen : (xs.zip ds).length = ds.length := by rw [List.length_zip, hl]; simp
  have mem2 : ∀ b ∈ xs.zip ds, b.2 ∈ ds := fun b hb => by rw [← em]; exact List.mem_map.mpr ⟨b, hb, rfl⟩
  have nsm : ∀ {l : List D}, noSs l = true → ∀ d ∈ l, noS d = true := fun {l} => by
    induction l with
    | nil => intro _ d hd; exact nomatch hd
    | cons x l ih =>
      intro h d hd
      simp only [noSs, Bool.and_eq_true] at h
      rcases List.mem_cons.mp hd with rfl | hd
      · exact h.1
      · exact ih h.2 d hd
  have er : PySem.W.EachIs (fun v (b : V × D) => ∃ as, Reads s.heap v b.2 as) its (xs.zip ds) := by
    have aux : ∀ {us : List Value} {bs : List (V × D)}, PySem.W.EachIs (SRel S M H) us bs → (∀ b ∈ bs, noS b.2 = true) → PySem.W.EachIs (fun v (b : V × D) => ∃ as, Reads s.heap v b.2 as) us bs := by
      intro us bs h
      induction h with
      | nil => intro _; exact .nil
      | cons f t ih =>
        intro hn
        obtain ⟨as, hr, _⟩ := Dq.reads I f.2 (hn _ (by simp)) f.1
        exact .cons ⟨as, hr⟩ (ih fun b hb => hn b (by simp [hb]))
    exact aux e fun b hb => nsm ok.ns _ (mem2 b hb)
  refine PySem.W.sorted_data (enc := fun b : V × D => b.2) (bs := xs.zip ds) (R := SRel S M H) (vs := its) ⟨_, ho, rfl, n, rfl⟩ e er (by rw [em]; exact ok.al) (by rw [em]; exact ok.so) (by rw [hlen, ← hl]; exact hz) (fun b hb => by have := ok.dp _ (mem2 b hb); omega) fun out ho2 eo => ?_
  obtain ⟨v1, d1⟩ := each_back eo
  have es : ((xs.zip ds).mergeSort (PySem.W.dataLe false fun b : V × D => b.2)).map (·.2) = sortD ds := by
    have := List.map_mergeSort (r := PySem.W.dataLe false fun b : V × D => b.2) (s := PySem.W.dataLe false id) (f := fun b : V × D => b.2) (l := xs.zip ds) (fun a _ b _ => rfl)
    rw [this, em]
    rfl
  rw [es] at d1
  have hb := d1.length
  have hlo : (sortD ds).length = ds.length := List.length_mergeSort _
  obtain ⟨c, hc⟩ := PyProof.Rows.sortedAll_at s.heap its out.toArray
  have new := I.hok.fresh (Nat.le_succ s.heap.objs.size)
  refine ⟨.ref (s.heap.objs.size + 1), upd H (s.heap.objs.size + 1) (.lst _), I.laid (t' := s.toks) (fun _ _ => PyProof.Rows.sortedAll_old) (Nat.le_succ _) ⟨?_, out, c, v1, hc⟩, rfl, q _ _ new d1⟩
  rw [hb, hlo, ← hl]
  exact hz
def dSortD : DRC := fun ds Q => ∃ xs, ds = [.list xs] ∧ sOk xs ∧ Q (.list (sortD xs))
theorem lc_sortD : LC rSortD dSortD := by
  intro S M H xs ds Qd Q hm rx h k
  obtain ⟨ys, rfl, ok, q⟩ := h
  cases rx with
  | cons a b =>
    cases b
    cases a with
    | lst n e r =>
      refine ⟨S, M, _, _, ys, rfl, e, r, ok, fun p zs hp rz => k _ _ _ q (Same.upd hp) (.lst (fun z => hm p z hp) upd_same (rz.go fun a o n e => ⟨n, ?_⟩))⟩
      rw [upd_ne (ne_of_none e hp)]; exact e
theorem psd_no {Wx : WX} {X : Cx} {st : Stmt} : PDS Wx X st (fun _ _ => False) := ⟨fun _ _ _ => False, ⟨fun _ _ _ _ _ _ h => h.elim⟩, fun _ _ _ _ _ _ _ _ _ h _ => h.elim⟩
theorem pd_no {X : Cx} {e : Expr} : PD X e (fun _ _ => False) := ⟨fun _ _ _ => False, ⟨fun _ _ _ _ _ _ h => h.elim⟩, fun _ _ _ _ _ _ _ _ _ h _ => h.elim⟩
end PH

namespace PySem.W
open PySem PySem.Calls PyProof.Rows Builtin
section
variable {prog : Program} {w : World} {A : Around} {E : Value → Shared → Prop} {s : Shared} {K : Frag} {x C L f : Addr} {h₀ : Heap} {m : Str → Option Value} {ox : Obj} {od : Option Obj} {b tb : Value}
end
end PySem.W
namespace PySem.W
open Lean Elab Tactic Meta PySem PySem.Calls PyProof.Rows PyProof.V PySem.Spec
section
variable {prog : Program} {w : World} {K : Type} [DecidableEq K] {knd : HeapKind prog w K} {A : Around} {E : Value → Shared → Prop} {s : Shared}
inductive HitsH {K : Type} [DecidableEq K] (prog : Program) (w : World) (A : Around) (s : Shared) (ys : List (K × Addr × Value)) : List (K × Addr × Value) → Bool → Prop
  | nil : HitsH prog w A s ys [] true
  | miss {x : K × Addr × Value} {r : List (K × Addr × Value)} : atKey ys x.1 = none → HitsH prog w A s ys (x :: r) false
  | hit {x : K × Addr × Value} {p : Addr × Value} {r : List (K × Addr × Value)} {e b : Bool} : atKey ys x.1 = some p → SeqAt.EqP prog w A s x.2.2 p.2 e → HitsH prog w A s ys r b → HitsH prog w A s ys (x :: r) (e && b)
theorem HitsH.inv {ys : List (K × Addr × Value)} {x : K × Addr × Value} {r : List (K × Addr × Value)} {b : Bool} (h : HitsH prog w A s ys (x :: r) b) :
    (atKey ys x.1 = none ∧ b = false) ∨ ∃ p e b', atKey ys x.1 = some p ∧ SeqAt.EqP prog w A s x.2.2 p.2 e ∧ HitsH prog w A s ys r b' ∧ b = (e && b') := by
  cases h with
  | miss hn => exact .inl ⟨hn, rfl⟩
  | hit hy he hr => exact .inr ⟨_, _, _, hy, he, hr, rfl⟩
theorem samePairsH {nm : String} {a b : Addr} {xs ys : List (K × Addr × Value)} {r : Bool} {Q : Bool → Shared → Prop} (hu : knd.room A) (ha : (a == sysModules) = false) (hb : (b == sysModules) = false)
    (da : s.heap.DictOfH knd a xs) (db : s.heap.DictOfH knd b ys) (hits : xs.length = ys.length → HitsH prog w A s ys xs r) (h : Q (xs.length == ys.length && r) s) :
    wpAny (model prog w) A (Builtin.Dict.samePairs nm a b) Q E s := by
  obtain ⟨oa, es, ep, hoa, _, hda, hea, hia, hna⟩ := da
  obtain ⟨ob, es', ep', hob, _, hdb, heb, hib, hnb⟩ := db
  have hla : xs.length = es.size := (size_of_entries hea).symm
  have hlb : ys.length = es'.size := (size_of_entries heb).symm
  rw [hla, hlb] at h
  unfold Builtin.Dict.samePairs Builtin.Dict.showsAll
  rw [if_neg (show ¬ (a == sysModules) = true by rw [ha]; exact Bool.false_ne_true), if_neg (show ¬ (b == sysModules) = true by rw [hb]; exact Bool.false_ne_true)]
  refine wpAny_bind (wpAny_pure (wpAny_bind (wpAny_pure ?_)))
  refine wpAny_bind (wpAny_dictEntries hoa hda ?_)
  dsimp only
  refine wpAny_bind (wpAny_dictEntries hob hdb ?_)
  by_cases hsz : es.size = es'.size
  case neg =>
    rw [if_pos (by simpa using hsz)]
    have hbf : (es.size == es'.size) = false := by simpa using hsz
    rw [hbf, Bool.false_and] at h
    exact wpAny_bind (wpAny_rule (wpAny_pure h))
  case pos =>
    have h' : Q r s := by simpa [hsz] using h
    have hits' := hits (by rw [hla, hlb]; exact hsz)
    rw [if_neg (by rw [hsz]; simp)]
    refine wpAny_bind (wpAny_dictEpoch hoa hda ?_)
    refine wpAny_bind ?_
    rw [Std.Legacy.Range.forIn_eq_forIn_range']
    simp only [Std.Legacy.Range.size, Nat.sub_zero, Nat.add_sub_cancel, Nat.div_one]
    refine wpAny_forIn_list _
      (fun rest q s' => s' = s ∧ q = (none, ()) ∧ ∃ i, rest = List.range' i (es.size - i) ∧ i ≤ es.size ∧ HitsH prog w A s ys (xs.drop i) r)
      _ ?_ ?_ _ _ ⟨rfl, rfl, 0, by simp, Nat.zero_le _, hits'⟩
    · rintro x rest q s' ⟨rfl, rfl, i, hr, hi, hpre⟩
      have hlt : i < es.size := by
        rcases Nat.lt_or_ge i es.size with h | h
        · exact h
        · rw [Nat.sub_eq_zero_of_le h] at hr; simp at hr
      obtain ⟨rfl, hrest⟩ : x = i ∧ rest = List.range' (i + 1) (es.size - (i + 1)) := by
        have e : es.size - i = (es.size - (i + 1)) + 1 := by omega
        rw [e, List.range'_succ] at hr
        injection hr with h1 h2
        exact ⟨h1, h2⟩
      refine wpAny_bind (wpAny_dictEntries hoa hda ?_)
      have hlt' : x < xs.length := by rw [hla]; exact hlt
      obtain ⟨y, hy⟩ : ∃ y, xs[x] = y := ⟨_, rfl⟩
      have hyi : xs[x]? = some y := by rw [List.getElem?_eq_getElem hlt', hy]
      have hex : es[x]? = some (entryOfKey knd y) := by rw [entry_at hea x, hyi]; rfl
      have hiy := hia y (List.mem_of_getElem? hyi)
      have hdrop : xs.drop x = y :: xs.drop (x + 1) := by rw [← hy]; exact List.drop_eq_getElem_cons hlt'
      rw [hex]
      rw [hdrop] at hpre
      show wpAny _ _ (holding [.ref y.2.1, y.2.2] _ >>= _) _ _ _
      refine wpAny_bind (wpAny_holding (wpAny_bind (wpAny_dictFind_heap hu hiy hob hdb heb hib hnb (fun hno => ?_) fun j p hj => ?_)))
      · have hn := atKey_none_of_get hno
        rcases hpre.inv with ⟨_, er⟩ | ⟨p, _, _, hp, _⟩
        · rw [er] at h'
          refine wpAny_pure ?_
          show wpAny _ _ (if (!false) = true then _ else _) _ _ _
          rw [if_pos (by decide)]
          exact wpAny_pure (wpAny_pure h')
        · rw [hn] at hp; exact nomatch hp
      · have hk := atKey_of_get hnb hj
        have hej : es'[j]? = some (entryOfKey knd (y.1, p)) := by rw [entry_at heb j, hj]; rfl
        refine wpAny_bind (wpAny_dictEntries hob hdb ?_)
        rw [hej]
        rcases hpre.inv with ⟨hn, _⟩ | ⟨p', e, b', hp, he, hrr, er⟩
        · rw [hk] at hn; exact nomatch hn
        · rw [hk] at hp
          cases hp
          refine wpAny_holding (he _ _ ?_)
          cases e with
          | false =>
            rw [er, Bool.false_and] at h'
            show wpAny _ _ (if (!false) = true then _ else _) _ _ _
            rw [if_pos (by decide)]
            exact wpAny_pure (wpAny_pure h')
          | true =>
            rw [Bool.true_and] at er
            rw [← er] at hrr
            show wpAny _ _ (if (!true) = true then _ else _) _ _ _
            rw [if_neg (by decide)]
            refine wpAny_bind (wpAny_dictEpoch hoa hda ?_)
            rw [if_neg (by simp)]
            exact wpAny_pure ⟨rfl, rfl, x + 1, hrest, hlt, hrr⟩
    · rintro q s' ⟨rfl, rfl, i, hr, hi, hpre⟩
      have hin : i = es.size := by
        rcases Nat.lt_or_ge i es.size with h | h
        · have e : es.size - i = (es.size - (i + 1)) + 1 := by omega
          rw [e, List.range'_succ] at hr; exact nomatch hr
        · exact Nat.le_antisymm hi h
      refine wpAny_pure ?_
      rw [hin, ← hla, List.drop_length] at hpre
      cases hpre
      exact h'
theorem rcH_dicts {a b : Addr} {xs ys : List (K × Addr × Value)} {r : Bool} {Q : Value → Shared → Prop} (hr : knd.room A.in1) (ha : (a == sysModules) = false) (hb : (b == sysModules) = false)
    (da : s.heap.DictOfH knd a xs) (db : s.heap.DictOfH knd b ys) (hu : A.units < cLine) (hits : xs.length = ys.length → HitsH prog w A.in1 s ys xs r) (h : Q (.bool (xs.length == ys.length && r)) s) : wpAny (model prog w) A (richCompare .Eq (.ref a) (.ref b)) Q E s := by
  refine wpAny_richCompare_same_room (op := .Eq) da.typeIs db.typeIs PySem.F.slot_dict_eq (wpAny_call_entry PySem.F.slot_dict_eq da.typeIs PySem.F.entry_dict_eq ?_ (PySem.F.args_dict_eq_2 _ _)) hu
  show wpAny _ _ (Builtin.Dict.dictSlotArgs "__eq__" ⟨[.ref a, .ref b], []⟩ >>= _) _ _ s
  refine wpAny_bind ?_
  unfold Builtin.Dict.dictSlotArgs
  refine wpAny_bind (wpAny_notOrdered_dict da.typeIs ?_)
  show wpAny _ _ (pure (Value.ref a, Value.ref b)) _ _ s
  refine wpAny_pure ?_
  refine wpAny_bind (wpAny_isInstance (T := "dict") db.typeIs PySem.F.sub_dict_dict ?_)
  simp only [Bool.not_true, Bool.false_eq_true, if_false]
  refine wpAny_bind (wpAny_pure (wpAny_bind (wpAny_pure ?_)))
  refine wpAny_bind (samePairsH hr ha hb da db hits ?_)
  refine wpAny_pure ⟨_, rfl, ?_, ?_⟩
  · exact fun x => nomatch x
  · simpa using h
end
end PySem.W
namespace PH
open PySem PySem.Spec PyProof.Rows L2
def eqN (kvs lvs : List (NestedKey × Int)) : Bool := kvs.length == lvs.length && kvs.all fun kv => decide (lookN lvs kv.1 = some kv.2)
section
variable {X : Cx} {pins : List (Addr × Obj)} {σ : L2.St} {M M' : Addr → Prop} {H : Hp} {s : Shared} {a b : Addr} {A : Around}
theorem hits_nd {lvs : List (NestedKey × Int)} {ys : List (NestedKey × Addr × Value)} (ry : Paired (NdR M' H) (iV lvs) ys) : ∀ {kvs : List (NestedKey × Int)} {xs : List (NestedKey × Addr × Value)}, Paired (NdR M H) (iV kvs) xs →
    PySem.W.HitsH X.prog X.w A s ys xs (kvs.all fun kv => decide (lookN lvs kv.1 = some kv.2))
  | [], xs, r => by cases r; exact .nil
  | (k, i) :: kvs, xs, r => by
    rw [show iV ((k, i) :: kvs) = (k, .int i) :: iV kvs from rfl] at r
    cases r with
    | @cons _ x _ rest f t =>
      obtain ⟨k', ad, u⟩ := x
      obtain ⟨f1, _, f2⟩ := f
      have f1' : k = k' := f1
      subst f1'
      obtain ⟨tk, rfl⟩ := (show ∃ tk, u = Value.int i tk from f2)
      have v := nd_val ry k
      rw [look_iV] at v
      cases hl : lookN lvs k with
      | none =>
        rw [hl] at v
        have e : atKey ys k = none := by
          cases z : atKey ys k with
          | none => rfl
          | some p => rw [z] at v; exact v.elim
        have e2 : (((k, i) :: kvs).all fun kv => decide (lookN lvs kv.1 = some kv.2)) = false := by rw [List.all_cons, hl]; rfl
        rw [e2]
        exact .miss e
      | some j =>
        rw [hl] at v
        obtain ⟨p, e, q⟩ : ∃ p, atKey ys k = some p ∧ RelV (.int j) p.2 := by
          cases z : atKey ys k with
          | none => rw [z] at v; exact v.elim
          | some p => rw [z] at v; exact ⟨p, rfl, v⟩
        obtain ⟨t2, e2⟩ := (show ∃ t2, p.2 = Value.int j t2 from q)
        have e3 : (((k, i) :: kvs).all fun kv => decide (lookN lvs kv.1 = some kv.2)) = ((i == j) && kvs.all fun kv => decide (lookN lvs kv.1 = some kv.2)) := by
          rw [List.all_cons, hl]
          congr 1
          by_cases c : i = j
          · subst c; simp
          · rw [decide_eq_false (fun z => c (Option.some.inj z).symm)]; simp [c]
        rw [e3]
        exact .hit e (by rw [e2]; exact (SeqAt.EqAt.int_int i tk j t2).eqP) (hits_nd ry t)
def rEqN : R2 := fun x y H Q => ∃ (M M' : Addr → Prop) (a b : Addr) (kvs lvs : List (NestedKey × Int)), x = .ref a ∧ y = .ref b ∧ NdAt M H a (iV kvs) ∧ NdAt M' H b (iV lvs) ∧ Q (.bl (eqN kvs lvs)) H
theorem op_eqN (hu : X.A.units + 10 < cLine) : OpR X (compareOp .Eq) rEqN := by
  intro pins s σ H x y v u Q I rx ry h
  obtain ⟨M, M', a, b, kvs, lvs, rfl, rfl, ha, hb, q⟩ := h
  obtain rfl : v = Value.ref a := rx
  obtain rfl : u = Value.ref b := ry
  obtain ⟨o, xs, es, ep, e, x, l, hd⟩ := ha
  obtain ⟨o', ys, es', ep', e', x', l', hd'⟩ := hb
  have l1 : xs.length = kvs.length := by rw [← Paired.length x.rel]; unfold iV; rw [List.length_map]
  have l2 : ys.length = lvs.length := by rw [← Paired.length x'.rel]; unfold iV; rw [List.length_map]
  refine PySem.W.cmp_ofEq (PySem.W.rcH_dicts (nd_room hu) hd hd' (nd_dict I.hok e x) (nd_dict I.hok e' x') (by omega) (fun _ => hits_nd x'.rel x.rel) ?_)
  rw [l1, l2]
  exact ⟨.bl _, H, I, rfl, q⟩
def dEqN : DR2 := fun d e Q => ∃ kvs lvs : List (NestedKey × Int), d = ndD kvs ∧ e = ndD lvs ∧ Q (.bool (eqN kvs lvs))
theorem lr_eqN : LR rEqN dEqN := by
  intro S M H x y dx dy Qd Q hm rx ry h k
  obtain ⟨kvs, lvs, rfl, rfl, q⟩ := h
  obtain ⟨a, rfl, _, n⟩ := rx.ndAt
  obtain ⟨b, rfl, _, n'⟩ := ry.ndAt
  exact ⟨M, M, a, b, kvs, lvs, rfl, rfl, n, n', k _ _ H q (Same.refl _) (.bl _)⟩
end
structure HpE (K : PySem.W.Frag) (C : Addr) : Prop where
  top : PySem.W.subIn K (.ref C) (.type "object") = some true
  ne : PySem.W.findIn K (.ref C) "__ne__" = some (some (.builtin "object.__ne__"))
  nf : PySem.W.notFirst K C (.ref C) = true
  ni : PySem.W.notFirst K C (.type "int") = true
  nl : PySem.W.notFirst K C (.type "list") = true
section
variable {X : Cx} {k j : Nat} {f C : Addr} {fd : FuncData} {ps : List Str} {sp : Sp} {spd : DSp} {pos : Pos} {a b : Expr} {ma mb : DE}
def dHE (n : Bool) (spd : DSp) (ma mb : DE) : DE := fun σd Q => ma σd fun d => mb σd fun e => (∃ k1, d = hpD k1) ∧ ((∃ k2, e = hpD k2) ∨ (∃ i, e = .int i) ∨ ∃ xs, e = .list xs) ∧ spd [d, e] fun z => ∃ r, z = .bool r ∧ Q (.bool (if n then !r else r))
variable (hp : ∃ C, hpCls = some C ∧ HpE X.K C) (hr : Room (k + 1) X.A) (hj : j ≤ k) (hg : X.A.guards = some []) (ha : PD X a ma) (hb : PD X b mb)
include hp hr hj hg ha hb
end
section
variable {X : Cx} {k j : Nat} {f C : Addr} {fd : FuncData} {ps : List Str} {sp : Sp} {spd : DSp} {pos p : Pos} {e : Expr} {x : Str} {ma : DE}
def dLenH (spd : DSp) (m : DE) : DE := fun σd Q => m σd fun d => (∃ kvs, d = hpD kvs) ∧ spd [d] fun z => ∃ n : Nat, z = .int n ∧ n < 2 ^ 62 ∧ Q (.int n)
end
section
variable {X : Cx} {Wx : WX}
end
end PH

namespace PySem.W
open PySem PySem.Calls PyProof.Rows Builtin
section
variable {prog : Program} {w : World} {A : Around} {E : Value → Shared → Prop} {s : Shared} {K : Frag} {x C L f : Addr} {h₀ : Heap} {m : Str → Option Value} {ox : Obj} {od : Option Obj} {b : Value} {nm T : String}
def mro2 (K : Frag) (C : Addr) : Bool := (clsIn K C).any fun cd => cd.mro == [.ref C, .type "object"]
end
end PySem.W
namespace PH
open PySem PySem.Spec PyProof.Rows L2
structure HpP (K : PySem.W.Frag) (C : Addr) : Prop where
  o : HpO K C
  m : PySem.W.mro2 K C = true
  a1 : PySem.W.findIn K (.ref C) (dunderI "add") = some none
  a2 : PySem.W.findIn K (.type "object") (dunderI "add") = some none
  m1 : PySem.W.findIn K (.ref C) (dunderI "mul") = some none
  m2 : PySem.W.findIn K (.type "object") (dunderI "mul") = some none
section
variable {X : Cx} {k j : Nat} {f C : Addr} {fd : FuncData} {ps : List Str} {sp : Sp} {spd : DSp} {m : Str} {pos : Pos} {a b : Expr} {ma mb : DE}
variable (hp : ∃ C, hpCls = some C ∧ HpP X.K C) (hr : Room k X.A) (hj : j ≤ k) (hg : X.A.guards = some []) {x : Str} {i : Nat} {e : Expr} {me : DE} {pos' : Pos} {Wx : WX}
include hp hr hj hg
end
end PH

namespace PH
open PySem PySem.Spec L2
abbrev TR := List (List Pt × Int)
def ptN (p : Pt) : NestedKey := .tup [.num p.x, .num p.y, .num p.d]
def plN (H : List Pt) : NestedKey := .tup (H.map ptN)
theorem nkDs_pts : ∀ H : List Pt, nkDs (H.map ptN) = H.map pD
  | [] => rfl
  | p :: H => by simp only [List.map_cons, nkDs, nkDs_pts H]; rfl
theorem plN_D (H : List Pt) : nkD (plN H) = .tuple (H.map pD) := by unfold plN; simp only [nkD, nkDs_pts]
theorem ptN_inj {p q : Pt} (h : ptN p = ptN q) : p = q := by
  unfold ptN at h
  simp at h
  exact Pt.ext' h.1 h.2.1 h.2.2
theorem plN_inj {H G : List Pt} (h : plN H = plN G) : H = G := by
  unfold plN at h
  injection h with h
  exact map_inj' (fun _ _ => ptN_inj) h
theorem nints_pts : ∀ H : List Pt, nints (H.map ptN) = true
  | [] => rfl
  | p :: H => by simp [nints, nint, ptN, nints_pts H]
theorem depth_pts : ∀ H : List Pt, NestedKey.depthAll (H.map ptN) ≤ 1
  | [] => by simp [NestedKey.depthAll]
  | p :: H => by
    have := depth_pts H
    simp only [List.map_cons, NestedKey.depthAll, ptN, NestedKey.depth]
    omega
theorem plN_ok (H : List Pt) : KeyOk (plN H) := ⟨by unfold plN; simp only [nint]; exact nints_pts H, by have := depth_pts H; unfold plN; simp only [NestedKey.depth]; omega, _, rfl⟩
def nkR (R : TR) : Rws := R.map fun r => (plN r.1, r.2)
theorem krD_row (r : List Pt × Int) : krD (plN r.1, r.2) = rowD r := by show PyData.tuple [nkD (plN r.1), .int r.2] = _; rw [plN_D]
theorem nkR_rows (R : TR) : (nkR R).map krD = R.map rowD := by
  unfold nkR; rw [List.map_map]; exact List.map_congr_left fun r _ => krD_row r
theorem nkR_inj {R S : TR} (h : nkR R = nkR S) : R = S := by
  unfold nkR at h
  refine map_inj' (fun a b e => ?_) h
  injection e with e1 e2
  exact Prod.ext (plN_inj e1) e2
theorem nkR_ok (R : TR) : ∀ x ∈ nkR R, KeyOk x.1 := fun x hx => by
  obtain ⟨r, _, rfl⟩ := List.mem_map.mp hx; exact plN_ok _
abbrev hpT (R : TR) : D := hpD (nkR R)
def wtT (R : TR) (H : List Pt) : Int := ((R.filter fun r => decide (r.1 = H)).map (·.2)).sum
theorem wtT_cons (r : List Pt × Int) (R : TR) (H : List Pt) : wtT (r :: R) H = (if r.1 = H then r.2 else 0) + wtT R H := by
  unfold wtT
  by_cases c : r.1 = H
  · rw [List.filter_cons, if_pos (by simpa using c), if_pos c]; simp
  · rw [List.filter_cons, if_neg (by simpa using c), if_neg c]; simp
theorem wtT_nil (H : List Pt) : wtT [] H = 0 := rfl
theorem wtT_app (R S : TR) (H : List Pt) : wtT (R ++ S) H = wtT R H + wtT S H := by
  induction R with
  | nil => simp [wtT_nil]
  | cons r R ih => rw [List.cons_append, wtT_cons, wtT_cons, ih]; omega
theorem wtT_out {R : TR} {H : List Pt} (h : H ∉ R.map (·.1)) : wtT R H = 0 := by
  induction R with
  | nil => rfl
  | cons r R ih =>
    simp only [List.map_cons, List.mem_cons, not_or] at h
    rw [wtT_cons, if_neg (fun z => h.1 z.symm), ih h.2]; rfl
def lookT (acc : TR) (H : List Pt) : Option Int := (acc.find? fun x => decide (x.1 = H)).map (·.2)
theorem lookN_nk (acc : TR) (H : List Pt) : lookN (nkR acc) (plN H) = lookT acc H := by
  unfold lookN lookT nkR
  induction acc with
  | nil => rfl
  | cons x r ih =>
    simp only [List.map_cons, List.find?_cons]
    by_cases c : x.1 = H
    · simp [c]
    · have : ¬ plN x.1 = plN H := fun z => c (plN_inj z)
      simp only [c, this, decide_false]
      exact ih
def putT (acc : TR) (H : List Pt) (w : Int) : TR := if H ∈ acc.map (·.1) then acc.map fun x => if x.1 = H then (x.1, w) else x else acc ++ [(H, w)]
theorem putN_nk (acc : TR) (H : List Pt) (w : Int) : putN (nkR acc) (plN H) w = nkR (putT acc H w) := by
  have h1 : ((nkR acc).any fun x => decide (x.1 = plN H)) = decide (H ∈ acc.map (·.1)) := by
    unfold nkR
    rw [List.any_map]
    by_cases c : H ∈ acc.map (·.1)
    · rw [decide_eq_true c]
      obtain ⟨x, hx, e⟩ := List.mem_map.mp c
      exact List.any_eq_true.mpr ⟨x, hx, by simp [e]⟩
    · rw [decide_eq_false c]
      refine Bool.eq_false_iff.mpr fun z => c ?_
      obtain ⟨x, hx, e⟩ := List.any_eq_true.mp z
      exact List.mem_map.mpr ⟨x, hx, plN_inj (by simpa using e)⟩
  unfold putN putT
  rw [h1]
  by_cases c : H ∈ acc.map (·.1)
  · rw [if_pos (by simpa using c), if_pos c]
    unfold nkR
    rw [List.map_map, List.map_map]
    refine List.map_congr_left fun x _ => ?_
    show (if plN x.1 = plN H then (plN x.1, w) else (plN x.1, x.2)) = _
    by_cases z : x.1 = H
    · simp [z]
    · have : ¬ plN x.1 = plN H := fun y => z (plN_inj y)
      simp [z, this]
  · rw [if_neg (by simpa using c), if_neg c]
    unfold nkR; rw [List.map_append]; rfl
theorem putT_keys (acc : TR) (H : List Pt) (w : Int) : (putT acc H w).map (·.1) = if H ∈ acc.map (·.1) then acc.map (·.1) else acc.map (·.1) ++ [H] := by
  unfold putT
  by_cases c : H ∈ acc.map (·.1)
  · rw [if_pos c, if_pos c, List.map_map]
    refine List.map_congr_left fun x _ => ?_
    show (if x.1 = H then (x.1, w) else x).1 = x.1
    split <;> rfl
  · rw [if_neg c, if_neg c, List.map_append]; rfl
theorem lookT_none {acc : TR} {H : List Pt} (h : H ∉ acc.map (·.1)) : lookT acc H = none := by
  unfold lookT
  rw [Option.map_eq_none_iff, List.find?_eq_none]
  intro x hx z
  exact h (List.mem_map.mpr ⟨x, hx, by simpa using z⟩)
theorem lookT_cons (x : List Pt × Int) (acc : TR) (G : List Pt) : lookT (x :: acc) G = if x.1 = G then some x.2 else lookT acc G := by
  unfold lookT
  rw [List.find?_cons]
  by_cases c : x.1 = G
  · simp [c]
  · simp [c]
theorem lookT_app (acc bcc : TR) (G : List Pt) : lookT (acc ++ bcc) G = (lookT acc G).or (lookT bcc G) := by
  induction acc with
  | nil => simp [lookT]
  | cons x acc ih => rw [List.cons_append, lookT_cons, lookT_cons, ih]; split <;> simp
theorem lookT_put (acc : TR) (H G : List Pt) (w : Int) : lookT (putT acc H w) G = if H = G then some w else lookT acc G := by
  unfold putT
  by_cases c : H ∈ acc.map (·.1)
  · rw [if_pos c]
    induction acc with
    | nil => simp at c
    | cons x acc ih =>
      rw [List.map_cons, lookT_cons, lookT_cons]
      by_cases z : x.1 = H
      · rw [if_pos z]
        by_cases y : H = G
        · simp [z, y]
        · have : ¬ x.1 = G := fun q => y (z.symm.trans q)
          simp only [this, y, if_false]
          by_cases c' : H ∈ acc.map (·.1)
          · rw [ih c', if_neg y]
          · congr 1
            refine (List.map_congr_left fun v hv => ?_).trans (List.map_id _)
            rw [if_neg fun q => c' (List.mem_map.mpr ⟨v, hv, q⟩)]; rfl
      · rw [if_neg z]
        have c' : H ∈ acc.map (·.1) := by
          simp only [List.map_cons, List.mem_cons] at c
          exact c.resolve_left fun q => z q.symm
        rw [ih c']
        by_cases y : H = G
        · have : ¬ x.1 = G := fun q => z (q.trans y.symm)
          simp [y, this]
        · simp [y]
  · rw [if_neg c, lookT_app]
    by_cases y : H = G
    · subst y; rw [lookT_none c]; simp [lookT]
    · rw [if_neg y]
      have : lookT [(H, w)] G = none := lookT_none (by simpa using fun q => y q.symm)
      rw [this]; simp
theorem sumN_nk (R : TR) : ∃ acc : TR, sumN (nkR R) = nkR acc ∧ (acc.map (·.1)).Nodup ∧ (∀ H, H ∈ acc.map (·.1) ↔ H ∈ R.map (·.1)) ∧ (∀ H, H ∈ R.map (·.1) → lookT acc H = some (wtT R H)) ∧ acc.length ≤ R.length := by
  suffices h : ∀ (n : Nat) (R : TR), R.length = n → ∃ acc : TR, sumN (nkR R) = nkR acc ∧ (acc.map (·.1)).Nodup ∧ (∀ H, H ∈ acc.map (·.1) ↔ H ∈ R.map (·.1)) ∧ (∀ H, H ∈ R.map (·.1) → lookT acc H = some (wtT R H)) ∧ acc.length ≤ R.length from h _ R rfl
  intro n
  induction n with
  | zero =>
    intro R h
    rw [List.length_eq_zero_iff.mp h]
    exact ⟨[], rfl, List.nodup_nil, fun _ => Iff.rfl, fun H h => by simp at h, Nat.le_refl _⟩
  | succ n ih =>
    intro R h
    obtain ⟨l, x, rfl⟩ : ∃ l x, R = l ++ [x] := ⟨R.dropLast, R.getLast (by intro z; rw [z] at h; simp at h), (List.dropLast_concat_getLast _).symm⟩
    obtain ⟨acc, e, nd, hm, hl, hn⟩ := ih l (by simpa using h)
    have e1 : nkR (l ++ [x]) = nkR l ++ [(plN x.1, x.2)] := by unfold nkR; rw [List.map_append]; rfl
    rw [e1, sumN_snoc, e]
    unfold stepN
    rw [lookN_nk, putN_nk]
    have ek := putT_keys acc x.1 ((lookT acc x.1).getD 0 + x.2)
    have v : (lookT acc x.1).getD 0 = wtT l x.1 := by
      by_cases c : x.1 ∈ l.map (·.1)
      · rw [hl _ c]; rfl
      · rw [lookT_none (fun z => c ((hm _).mp z)), wtT_out c]; rfl
    refine ⟨_, rfl, ?_, fun H => ?_, fun H hH => ?_, ?_⟩
    · rw [ek]
      split
      · exact nd
      · rename_i c
        exact List.nodup_append.mpr ⟨nd, by simp, fun a ha b hb => by simp at hb; subst hb; exact fun q => c (q ▸ ha)⟩
    · rw [ek, List.map_append, List.mem_append]
      split
      · rename_i c
        rw [hm]
        refine ⟨.inl, fun z => z.elim id fun z => ?_⟩
        simp at z; rw [z]; exact (hm _).mp c
      · rw [List.mem_append, hm]; simp
    · rw [lookT_put, v, wtT_app]
      have e2 : wtT [x] H = if x.1 = H then x.2 else 0 := by rw [wtT_cons, wtT_nil]; omega
      rw [e2]
      by_cases c : x.1 = H
      · rw [if_pos c, if_pos c, c]
      · rw [if_neg c, if_neg c]
        have : H ∈ l.map (·.1) := by
          rw [List.map_append, List.mem_append] at hH
          exact hH.resolve_right (by simpa using fun q => c q.symm)
        rw [hl _ this]; simp
    · rw [List.length_append]
      have := congrArg List.length ek
      rw [List.length_map] at this
      rw [this]
      split
      · simp; omega
      · simp; omega
end PH

namespace PH
open PySem PySem.Spec L2
def plt : List Pt → List Pt → Bool
  | [], [] => false
  | [], _ :: _ => true
  | _ :: _, [] => false
  | p :: H, q :: G => if p = q then plt H G else Pt.lt p q
theorem Pt.lt_tot {p q : Pt} (h : p ≠ q) : Pt.lt q p = !Pt.lt p q := by
  cases e : Pt.lt p q with
  | true =>
    cases e2 : Pt.lt q p with
    | false => rfl
    | true =>
      have h1 := (Pt.lt_iff p q).mp e
      have h2 := (Pt.lt_iff q p).mp e2
      rw [Pt.sx_neg p q, Pt.sy_neg p q] at h2
      omega
  | false =>
    cases e2 : Pt.lt q p with
    | true => rfl
    | false =>
      exfalso
      have h1 : ¬ _ := fun z => by rw [(Pt.lt_iff p q).mpr z] at e; cases e
      have h2 : ¬ _ := fun z => by rw [(Pt.lt_iff q p).mpr z] at e2; cases e2
      rw [Pt.sx_neg p q, Pt.sy_neg p q] at h2
      exact h (Pt.cop_of (by omega) (by omega))
theorem plt_irr : ∀ H : List Pt, plt H H = false
  | [] => rfl
  | p :: H => by unfold plt; rw [if_pos rfl]; exact plt_irr H
theorem plt_tot : ∀ H G : List Pt, H ≠ G → plt G H = !plt H G
  | [], [], h => absurd rfl h
  | [], _ :: _, _ => rfl
  | _ :: _, [], _ => rfl
  | p :: H, q :: G, h => by
    unfold plt
    by_cases c : p = q
    · rw [if_pos c, if_pos c.symm]
      exact plt_tot H G fun z => h (by rw [c, z])
    · rw [if_neg c, if_neg (fun z => c z.symm)]
      exact Pt.lt_tot c
theorem Pt.lt_irr (p : Pt) : Pt.lt p p = false := by
  cases e : Pt.lt p p with
  | false => rfl
  | true =>
    have h1 := (Pt.lt_iff p p).mp e
    unfold Pt.sx Pt.sy at h1
    omega
theorem plt_tr : ∀ H G F : List Pt, plt H G = true → plt G F = true → plt H F = true
  | [], [], _, h, _ => by cases h
  | [], _ :: _, [], _, h => by cases h
  | [], _ :: _, _ :: _, _, _ => rfl
  | _ :: _, [], _, h, _ => by cases h
  | _ :: _, _ :: _, [], _, h => by cases h
  | p :: H, q :: G, r :: F, h1, h2 => by
    unfold plt at *
    by_cases c : p = q
    · subst c
      rw [if_pos rfl] at h1
      by_cases c2 : p = r
      · subst c2
        rw [if_pos rfl] at h2 ⊢
        exact plt_tr H G F h1 h2
      · rw [if_neg c2] at h2 ⊢
        exact h2
    · rw [if_neg c] at h1
      by_cases c2 : q = r
      · subst c2
        rw [if_neg c]; exact h1
      · rw [if_neg c2] at h2
        have h3 := Pt.tr' h1 h2
        have : p ≠ r := fun z => by subst z; rw [Pt.lt_irr] at h3; cases h3
        rw [if_neg this]; exact h3
theorem ordP_ok (hs : List (List Pt)) : Srt plt (ordT plt hs) ∧ (∀ x, x ∈ ordT plt hs ↔ x ∈ hs) ∧ (ordT plt hs).length ≤ hs.length := ord_ok plt_tr plt_tot hs
theorem ordP_nodup (hs : List (List Pt)) : (ordT plt hs).Nodup := by
  have := (ordP_ok hs).1
  unfold Srt at this
  exact this.imp fun {a b} h z => by subst z; rw [plt_irr] at h; cases h
def kyD (f : Int) (H : List Pt) : List D := H.map fun p => keyP f (pD p)
def kdD (f : Int) (H : List Pt) : D := .tuple [.list (kyD f H), .tuple (H.map pD)]
theorem key_alike (f : Int) (p q : Pt) : PySem.W.alike (keyP f (pD p)) (keyP f (pD q)) = true := by simp [keyP, PySem.W.alike, PySem.W.alikeAll]
theorem key_eqv {g : Int} {p q : Pt} (hp : p.d ≤ g) (hq : q.d ≤ g) : PyData.eqv (keyP (g * g) (pD p)) (keyP (g * g) (pD q)) = decide (p = q) := by
  have e : PyData.eqv (keyP (g * g) (pD p)) (keyP (g * g) (pD q)) = (decide (p.x * (g * g) / p.d = q.x * (g * g) / q.d) && decide (p.y * (g * g) / p.d = q.y * (g * g) / q.d)) := eqv_ff
  rw [e]
  have x1 := fl_lt_iff (a := p.x) (c := q.x) p.pos q.pos hp hq
  have x2 := fl_lt_iff (a := q.x) (c := p.x) q.pos p.pos hq hp
  have y1 := fl_lt_iff (a := p.y) (c := q.y) p.pos q.pos hp hq
  have y2 := fl_lt_iff (a := q.y) (c := p.y) q.pos p.pos hq hp
  by_cases c : p = q
  · subst c; simp
  · rw [decide_eq_false c]
    refine Bool.eq_false_iff.mpr fun z => c ?_
    simp only [Bool.and_eq_true, decide_eq_true_eq] at z
    refine Pt.cop_of ?_ ?_
    · unfold Pt.sx; omega
    · unfold Pt.sy; omega
theorem key_lt {g : Int} {p q : Pt} (hp : p.d ≤ g) (hq : q.d ≤ g) : PySem.W.dataLt (keyP (g * g) (pD p)) (keyP (g * g) (pD q)) = Pt.lt p q := by
  have h := key_le (g := g) hq hp
  have h2 : (!PySem.W.dataLt (keyP (g * g) (pD p)) (keyP (g * g) (pD q))) = leP q p := h
  unfold leP at h2
  have := congrArg (fun b => !b) h2
  simpa using this
theorem kys_lt {g : Int} : ∀ {H G : List Pt}, (∀ p ∈ H, p.d ≤ g) → (∀ p ∈ G, p.d ≤ g) → PySem.W.dataLt (.list (kyD (g * g) H)) (.list (kyD (g * g) G)) = plt H G
  | [], [], _, _ => by rw [PySem.W.dataLt_list]; rfl
  | [], q :: G, _, _ => by rw [PySem.W.dataLt_list]; rfl
  | p :: H, [], _, _ => by rw [PySem.W.dataLt_list]; rfl
  | p :: H, q :: G, h1, h2 => by
    have hp := h1 p (by simp)
    have hq := h2 q (by simp)
    rw [PySem.W.dataLt_list]
    unfold kyD
    rw [List.map_cons, List.map_cons]
    unfold plt
    by_cases c : p = q
    · rw [if_pos c, PySem.W.dataLt_all_yes (key_alike _ p q) (by rw [key_eqv hp hq, decide_eq_true c]), ← PySem.W.dataLt_list]
      exact kys_lt (fun p hp => h1 p (by simp [hp])) (fun p hp => h2 p (by simp [hp]))
    · rw [if_neg c, PySem.W.dataLt_all_no (key_alike _ p q) (by rw [key_eqv hp hq, decide_eq_false c])]
      exact key_lt hp hq
theorem kys_alike (f : Int) : ∀ H G : List Pt, PySem.W.alikeAll (kyD f H) (kyD f G) = true
  | [], _ => rfl
  | _ :: _, [] => rfl
  | p :: H, q :: G => by
    unfold kyD
    rw [List.map_cons, List.map_cons, PySem.W.alikeAll, key_alike, Bool.true_and]
    exact kys_alike f H G
theorem pts_alike : ∀ H G : List Pt, PySem.W.alikeAll (H.map pD) (G.map pD) = true
  | [], _ => rfl
  | _ :: _, [] => rfl
  | p :: H, q :: G => by
    rw [List.map_cons, List.map_cons, PySem.W.alikeAll, pts_alike H G, Bool.and_true]
    simp [PySem.W.alike, PySem.W.alikeAll]
theorem kys_eqv {g : Int} : ∀ {H G : List Pt}, (∀ p ∈ H, p.d ≤ g) → (∀ p ∈ G, p.d ≤ g) → PyData.eqv (.list (kyD (g * g) H)) (.list (kyD (g * g) G)) = decide (H = G)
  | [], [], _, _ => by simp [kyD, PyData.eqv, PyData.eqvAll]
  | [], q :: G, _, _ => by simp [kyD, PyData.eqv, PyData.eqvAll]
  | p :: H, [], _, _ => by simp [kyD, PyData.eqv, PyData.eqvAll]
  | p :: H, q :: G, h1, h2 => by
    have hp := h1 p (by simp)
    have hq := h2 q (by simp)
    have ih := kys_eqv (g := g) (H := H) (G := G) (fun p hp => h1 p (by simp [hp])) (fun p hp => h2 p (by simp [hp]))
    unfold kyD at ih ⊢
    rw [List.map_cons, List.map_cons]
    simp only [PyData.eqv, PyData.eqvAll] at ih ⊢
    rw [ih, key_eqv hp hq]
    by_cases c : p = q
    · by_cases c2 : H = G
      · simp [c, c2]
      · simp [c, c2]
    · simp [c]
theorem kd_lt {g : Int} {H G : List Pt} (h1 : ∀ p ∈ H, p.d ≤ g) (h2 : ∀ p ∈ G, p.d ≤ g) : PySem.W.dataLt (kdD (g * g) H) (kdD (g * g) G) = plt H G := by
  unfold kdD
  rw [PySem.W.dataLt_tuple]
  have al : PySem.W.alike (.list (kyD (g * g) H)) (.list (kyD (g * g) G)) = true := kys_alike _ H G
  by_cases c : H = G
  · subst c
    rw [← PySem.W.dataLt_tuple, plt_irr]
    exact PyProof.Rows.lex_irrefl _
  · rw [PySem.W.dataLt_all_no al (by rw [kys_eqv h1 h2, decide_eq_false c])]
    exact kys_lt h1 h2
def lePl (H G : List Pt) : Bool := !plt G H
theorem lePl_tr (a b c : List Pt) (h1 : lePl a b = true) (h2 : lePl b c = true) : lePl a c = true := by
  unfold lePl at *
  rw [Bool.not_eq_true'] at *
  cases e : plt c a with
  | false => rfl
  | true =>
    by_cases z : b = a
    · subst z; rw [h2] at e; cases e
    · have h3 : plt a b = true := by have := plt_tot b a z; rw [h1] at this; rw [this]; simpa using (by have := plt_tot a b (fun q => z q.symm); rw [h1] at this; cases q : plt a b <;> simp [q] at this ⊢)
      have := plt_tr c a b e h3
      rw [h2] at this
      cases this
theorem lePl_tot (a b : List Pt) : (lePl a b || lePl b a) = true := by
  unfold lePl
  by_cases c : a = b
  · subst c; rw [plt_irr]; rfl
  · rw [plt_tot a b c]; cases plt a b <;> rfl
theorem sortPl {g : Int} {hs os : List (List Pt)} (hg : ∀ H ∈ os, ∀ p ∈ H, p.d ≤ g) (hn : os.Nodup) (hm : ∀ H, H ∈ os ↔ H ∈ hs) : sortD (os.map (kdD (g * g))) = (ordT plt hs).map (kdD (g * g)) := by
  have e : sortD (os.map (kdD (g * g))) = (os.mergeSort lePl).map (kdD (g * g)) :=
    (List.map_mergeSort fun a ha b hb => by
      show lePl a b = !PySem.W.dataLt (kdD (g * g) b) (kdD (g * g) a)
      rw [kd_lt (hg b hb) (hg a ha)]; rfl).symm
  rw [e]
  congr 1
  have p := List.mergeSort_perm os lePl
  refine srt_ext plt_tr plt_irr ?_ (ordP_ok hs).1 fun x => by rw [p.mem_iff, hm, (ordP_ok hs).2.1]
  have s := List.pairwise_mergeSort lePl_tr lePl_tot os
  have nd : (os.mergeSort lePl).Nodup := p.nodup_iff.mpr hn
  unfold Srt
  refine List.Pairwise.imp₂ (R := fun a b => lePl a b = true) (S := fun a b => a ≠ b) (fun a b h1 h2 => ?_) s nd
  unfold lePl at h1
  have := plt_tot a b h2
  rw [Bool.not_eq_true'] at h1
  rw [h1] at this
  cases q : plt a b
  · rw [q] at this; cases this
  · rfl
theorem noS_pts : ∀ H : List Pt, noSs (H.map pD) = true
  | [] => rfl
  | p :: H => by rw [List.map_cons, noSs, noS_pts H]; rfl
theorem noS_kys (f : Int) : ∀ H : List Pt, noSs (kyD f H) = true
  | [] => rfl
  | p :: H => by unfold kyD; rw [List.map_cons, noSs]; have := noS_kys f H; unfold kyD at this; rw [this]; rfl
theorem dep_pts : ∀ H : List Pt, PyData.depthAll (H.map pD) ≤ 2
  | [] => by simp [PyData.depthAll]
  | p :: H => by have := dep_pts H; simp only [List.map_cons, PyData.depthAll, PyData.depth]; omega
theorem dep_kys (f : Int) : ∀ H : List Pt, PyData.depthAll (kyD f H) ≤ 2
  | [] => by simp [kyD, PyData.depthAll]
  | p :: H => by
    have := dep_kys f H
    have hk : (keyP f (pD p)).depth ≤ 2 := by simp [keyP, PyData.depth, PyData.depthAll]
    unfold kyD at this ⊢
    rw [List.map_cons, PyData.depthAll]
    omega
theorem sOk_kd (f : Int) (os : List (List Pt)) (hl : os.length ≤ 1000000) : sOk (os.map (kdD f)) where
  ns := by
    induction os with
    | nil => rfl
    | cons H os ih =>
      rw [List.map_cons, noSs, ih (by simp at hl; omega), Bool.and_true]
      unfold kdD
      simp only [noS, noSs, Bool.and_true]
      rw [noS_kys, noS_pts]; rfl
  al := fun d hd d' hd' => by
    obtain ⟨H, _, rfl⟩ := List.mem_map.mp hd
    obtain ⟨G, _, rfl⟩ := List.mem_map.mp hd'
    unfold kdD
    simp only [PySem.W.alike, PySem.W.alikeAll, Bool.and_true]
    rw [kys_alike, pts_alike]; rfl
  so := .inl fun d hd => by
    obtain ⟨H, _, rfl⟩ := List.mem_map.mp hd
    exact ⟨_, _, rfl⟩
  dp := fun d hd => by
    obtain ⟨H, _, rfl⟩ := List.mem_map.mp hd
    have h1 := dep_kys f H
    have h2 := dep_pts H
    unfold kdD
    simp only [PyData.depth, PyData.depthAll]
    omega
  ln := by rw [List.length_map]; exact hl
end PH

namespace PH
open PySem PySem.Spec L2
def keysT (R : TR) : List (List Pt) := ordT plt ((R.map (·.1)).filter fun H => decide (wtT R H ≠ 0))
def addT (R : TR) : TR := (keysT R).map fun H => (H, wtT R H)
theorem keysT_mem {R : TR} {H : List Pt} : H ∈ keysT R ↔ H ∈ R.map (·.1) ∧ wtT R H ≠ 0 := by
  unfold keysT
  rw [(ordP_ok _).2.1, List.mem_filter]
  simp
theorem addT_keys (R : TR) : (addT R).map (·.1) = keysT R := by unfold addT; rw [List.map_map]; exact (List.map_congr_left fun _ _ => rfl).trans (List.map_id _)
theorem addT_nodup (R : TR) : ((addT R).map (·.1)).Nodup := by rw [addT_keys]; exact ordP_nodup _
theorem addT_mem {R : TR} {r : List Pt × Int} (h : r ∈ addT R) : r.1 ∈ R.map (·.1) ∧ r.2 = wtT R r.1 ∧ r.2 ≠ 0 := by
  obtain ⟨H, hH, rfl⟩ := List.mem_map.mp h
  have := keysT_mem.mp hH
  exact ⟨this.1, rfl, this.2⟩
theorem addT_len (R : TR) : (addT R).length ≤ R.length := by
  unfold addT keysT
  rw [List.length_map]
  refine Nat.le_trans (ordP_ok _).2.2 ?_
  exact Nat.le_trans (List.length_filter_le _ _) (by rw [List.length_map]; exact Nat.le_refl _)
theorem lookT_in : ∀ {acc : TR} {r : List Pt × Int}, (acc.map (·.1)).Nodup → r ∈ acc → lookT acc r.1 = some r.2
  | [], _, _, h => by simp at h
  | x :: acc, r, nd, h => by
    rw [List.map_cons, List.nodup_cons] at nd
    rw [lookT_cons]
    rcases List.mem_cons.mp h with e | h
    · rw [e, if_pos rfl]
    · rw [if_neg (fun z : x.1 = r.1 => nd.1 (z ▸ List.mem_map_of_mem h))]
      exact lookT_in nd.2 h
theorem nodup_take {α : Type} {L : List α} {i : Nat} {x : α} (nd : L.Nodup) (h : L[i]? = some x) : x ∉ L.take i := fun z => by
  obtain ⟨j, hj⟩ := List.getElem?_of_mem z
  rw [List.getElem?_take] at hj
  split at hj
  · rename_i c
    obtain ⟨hi, e1⟩ := List.getElem?_eq_some_iff.mp h
    obtain ⟨hj2, e2⟩ := List.getElem?_eq_some_iff.mp hj
    exact List.pairwise_iff_getElem.mp nd j i hj2 hi c (e2.trans e1.symm)
  · cases hj
def sumP_ (f : List Pt → Int) (R : TR) : Int := (R.map fun r => r.2 * f r.1).sum
theorem sumP__cons (f : List Pt → Int) (r : List Pt × Int) (R : TR) : sumP_ f (r :: R) = r.2 * f r.1 + sumP_ f R := by unfold sumP_; simp
theorem one_key {f : List Pt → Int} {a : List Pt} {w : Int} : ∀ {L : List (List Pt)}, L.Nodup → a ∈ L → (L.map fun H => (if a = H then w else 0) * f H).sum = w * f a
  | [], _, h => by simp at h
  | b :: L, nd, h => by
    rw [List.nodup_cons] at nd
    rw [List.map_cons, List.sum_cons]
    by_cases c : a = b
    · subst c
      have z : (L.map fun H => (if a = H then w else 0) * f H).sum = 0 := by
        have : (L.map fun H => (if a = H then w else 0) * f H) = L.map fun _ => (0 : Int) := List.map_congr_left fun H hH => by
          rw [if_neg (fun q : a = H => nd.1 (q ▸ hH))]; simp
        rw [this]
        clear nd h this
        induction L with
        | nil => rfl
        | cons x L ih => rw [List.map_cons, List.sum_cons, ih]; rfl
      rw [if_pos rfl, z]; simp
    · rw [if_neg c, one_key nd.2 ((List.mem_cons.mp h).resolve_left c)]; simp
theorem sum_map_add {α : Type} (f g : α → Int) : ∀ L : List α, (L.map fun x => f x + g x).sum = (L.map f).sum + (L.map g).sum
  | [] => rfl
  | x :: L => by rw [List.map_cons, List.map_cons, List.map_cons, List.sum_cons, List.sum_cons, List.sum_cons, sum_map_add f g L]; omega
theorem sum_over {f : List Pt → Int} {L : List (List Pt)} (nd : L.Nodup) : ∀ {R : TR}, (∀ r ∈ R, r.1 ∈ L) → (L.map fun H => wtT R H * f H).sum = sumP_ f R
  | [], hx => by
    have : (L.map fun H => wtT [] H * f H) = L.map fun _ => (0 : Int) := List.map_congr_left fun H _ => by simp [wtT_nil]
    rw [this]
    show _ = 0
    clear nd this hx
    induction L with
    | nil => rfl
    | cons x L ih => rw [List.map_cons, List.sum_cons, ih]; rfl
  | r :: R, h => by
    have e : (L.map fun H => wtT (r :: R) H * f H) = L.map fun H => (if r.1 = H then r.2 else 0) * f H + wtT R H * f H := List.map_congr_left fun H _ => by rw [wtT_cons, Int.add_mul]
    rw [e, sum_map_add, one_key nd (h r (by simp)), sum_over nd fun r hr => h r (by simp [hr]), sumP__cons]
theorem sum_drop0 {g : List Pt → Int} {p : List Pt → Bool} (h : ∀ H, p H = false → g H = 0) : ∀ L : List (List Pt), ((L.filter p).map g).sum = (L.map g).sum
  | [] => rfl
  | H :: L => by
    rw [List.map_cons, List.sum_cons, ← sum_drop0 h L, List.filter_cons]
    cases c : p H with
    | true => simp
    | false => rw [if_neg (by simp), h H c]; omega
theorem sumP__addT (f : List Pt → Int) (R : TR) : sumP_ f (addT R) = sumP_ f R := by
  have all := ordP_ok (R.map (·.1))
  have e : keysT R = (ordT plt (R.map (·.1))).filter fun H => decide (wtT R H ≠ 0) := by
    refine srt_ext plt_tr plt_irr (ordP_ok _).1 ?_ fun H => ?_
    · have := all.1; unfold Srt at *; exact this.filter _
    · rw [List.mem_filter, all.2.1]
      have := keysT_mem (R := R) (H := H)
      rw [this]; simp
  have h1 : sumP_ f (addT R) = ((keysT R).map fun H => wtT R H * f H).sum := by unfold sumP_ addT; rw [List.map_map]; rfl
  rw [h1, e, sum_drop0 (g := fun H => wtT R H * f H) (fun H hH => by
    have : wtT R H = 0 := by simpa using hH
    rw [this]; simp)]
  exact sum_over (ordP_nodup _) fun r hr => (all.2.1 _).mpr (List.mem_map_of_mem hr)
def mulT (n : Int) (R : TR) : TR := R.map fun r => (r.1, n * r.2)
def negT (R : TR) : TR := R.map fun r => (r.1, -r.2)
theorem sumP__mul (f : List Pt → Int) (n : Int) : ∀ R : TR, sumP_ f (mulT n R) = n * sumP_ f R
  | [] => by simp [mulT, sumP_]
  | r :: R => by
    have ih := sumP__mul f n R
    unfold mulT at *
    rw [List.map_cons, sumP__cons, sumP__cons, ih, Int.mul_add, Int.mul_assoc]
theorem negT_mul (R : TR) : negT R = mulT (-1) R := List.map_congr_left fun r _ => by simp
structure Pk (k : Nat) (H : List Pt) : Prop where
  x : PlateX H
  b : ∀ p ∈ H, PB k p
  l : H.length ≤ 100
theorem Pk.mono {j k : Nat} {H : List Pt} (h : Pk j H) (l : j ≤ k) : Pk k H := ⟨h.x, fun p hp => (h.b p hp).mono l, h.l⟩
structure ROk (k n : Nat) (R : TR) : Prop where
  p : ∀ r ∈ R, Pk k r.1
  l : R.length ≤ n
theorem ROk.mono {j k m n : Nat} {R : TR} (h : ROk j m R) (l : j ≤ k) (l2 : m ≤ n) : ROk k n R := ⟨fun r hr => (h.p r hr).mono l, Nat.le_trans h.l l2⟩
theorem ROk.app {k m n : Nat} {R S : TR} (h : ROk k m R) (h2 : ROk k n S) : ROk k (m + n) (R ++ S) :=
  ⟨fun r hr => (List.mem_append.mp hr).elim (h.p r) (h2.p r), by rw [List.length_append]; have := h.l; have := h2.l; omega⟩
theorem ROk.nil {k n : Nat} : ROk k n [] := ⟨fun r hr => (nomatch hr), Nat.zero_le _⟩
theorem ROk.addT {k n : Nat} {R : TR} (h : ROk k n R) : ROk k n (addT R) := ⟨fun r hr => (by
  obtain ⟨s, hs, e⟩ := List.mem_map.mp (addT_mem hr).1
  rw [← e]; exact h.p s hs), Nat.le_trans (addT_len R) h.l⟩
theorem ROk.mul {k n : Nat} {R : TR} (h : ROk k n R) (c : Int) : ROk k n (mulT c R) := ⟨fun r hr => (by
  obtain ⟨s, hs, rfl⟩ := List.mem_map.mp hr
  exact h.p s hs), by unfold mulT; rw [List.length_map]; exact h.l⟩
theorem ROk.neg {k n : Nat} {R : TR} (h : ROk k n R) : ROk k n (negT R) := by rw [negT_mul]; exact h.mul _
abbrev KB : Nat := 300
abbrev NB : Nat := 5000
def OKh (rows : Rws) : Prop := ∃ R : TR, rows = nkR R ∧ ROk KB NB R
open Classical in
noncomputable def awh (rows : Rws) : Rws := if h : ∃ R : TR, rows = nkR R then nkR (PH.addT h.choose) else []
theorem awh_nk (R : TR) : awh (nkR R) = nkR (addT R) := by
  unfold awh
  have h : ∃ S : TR, nkR R = nkR S := ⟨R, rfl⟩
  rw [dif_pos h]
  have := h.choose_spec
  rw [← nkR_inj this]
theorem OKh.nil : OKh ([] : Rws) := ⟨[], rfl, .nil⟩
def IsRows (d : D) (R : TR) : Prop := d = .list (R.map rowD) ∨ d = .tuple (R.map rowD)
theorem IsRows.kr {d : D} {R : TR} (h : IsRows d R) : d = .list ((nkR R).map krD) ∨ d = .tuple ((nkR R).map krD) := by rw [nkR_rows]; exact h
def spFineW : DSp := fun ds Q => ∃ (b : Bool) (ps : List Pt), PsS b 500000 ds ps ∧ Q (.int (fineP ps))
def spPlAsc : DSp := fun ds Q => ∃ Hs : List (List Pt), ds = [.list (Hs.map plD)] ∧ Hs.Nodup ∧ (∀ H ∈ Hs, Pk KB H) ∧ Hs.length ≤ NB ∧ Q (.list ((ordT plt Hs).map plD))
def spAdded : DSp := fun ds Q => ∃ (d : D) (R : TR), ds = [d] ∧ IsRows d R ∧ ROk KB NB R ∧ Q (ndD (nkR (addT R)))
def spIsRow : DSp := fun ds Q => ∃ r : List Pt × Int, ds = [rowD r] ∧ Pk KB r.1 ∧ Q (.bool true)
def spRowsM : DSp := fun ds Q => ∃ R : TR, ds = [hpT R] ∧ (R.map (·.1)).Nodup ∧ R.length ≤ 100000 ∧ Q (.list (R.map rowD))
def NH (n : Nat) (R : TR) : Prop := (R.map (·.1)).Nodup ∧ ROk KB n R
def spHAdd : DSp := fun ds Q => ∃ R S : TR, ds = [hpT R, hpT S] ∧ NH 2000 R ∧ NH 2000 S ∧ Q (hpT (addT (R ++ S)))
def spHSub : DSp := fun ds Q => ∃ R S : TR, ds = [hpT R, hpT S] ∧ NH 2000 R ∧ NH 2000 S ∧ Q (hpT (addT (R ++ negT S)))
def spHMul : DSp := fun ds Q => ∃ (R : TR) (n : Int), ds = [hpT R, .int n] ∧ NH NB R ∧ (∃ k : Nat, k ≤ 100000 ∧ Bd k n ∧ ∀ r ∈ R, Bd k r.2) ∧ Q (hpT (addT (mulT n R)))
theorem NH.of {n : Nat} {R : TR} (h : ROk KB n R) : NH n (addT R) := ⟨addT_nodup R, h.addT⟩
theorem spSumd_c {R : TR} {Q : D → Prop} (h : ROk KB NB R) (q : Q (hpT (addT R))) : spSummed OKh awh [.list (R.map rowD)] Q := ⟨nkR R, by rw [nkR_rows], ⟨R, rfl, h⟩, by rw [awh_nk]; exact q⟩
theorem bulk_pts : ∀ H : List Pt, PyData.bulkAll (H.map pD) = 4 * H.length
  | [] => rfl
  | p :: H => by simp only [List.map_cons, PyData.bulkAll, PyData.bulk, bulk_pts H, List.length_cons]; omega
theorem nd_pts : ∀ H : List Pt, PyData.hasDictAll (H.map pD) = false
  | [] => rfl
  | p :: H => by simp only [List.map_cons, PyData.hasDictAll, PyData.hasDict, nd_pts H]; rfl
theorem tames_pts {k : Nat} (hk : k ≤ 900) : ∀ {H : List Pt}, (∀ p ∈ H, PB k p) → tames (H.map pD)
  | [], _ => True.intro
  | p :: H, h => ⟨tame_pt hk (h p (by simp)), tames_pts hk fun q hq => h q (by simp [hq])⟩
theorem Pk.vok {k : Nat} {H : List Pt} (h : Pk k H) (hk : k ≤ 900) : VOK 900 (plD H) := by
  refine VOK.mkD ?_ ?_ ?_ ?_
  · show tames (H.map pD); exact tames_pts hk h.b
  · show PyData.bulkAll (H.map pD) ≤ 900; rw [bulk_pts]; have := h.l; omega
  · show PyData.depthAll (H.map pD) + 1 ≤ 20; have := dep_pts H; omega
  · show PyData.hasDictAll (H.map pD) = false; exact nd_pts H
theorem eqv_pts : ∀ H : List Pt, PyData.eqvAll (H.map pD) (H.map pD) = true
  | [] => rfl
  | p :: H => by
    rw [List.map_cons, PyData.eqvAll, eqv_pts H, eqv_pD, decide_eq_true rfl]; rfl
theorem Pk.is {k : Nat} {H : List Pt} (h : Pk k H) : isPlate (plD H) = true := by
  unfold isPlate
  have ne := h.x.ne
  have e1 : (H.map pD).isEmpty = false := by cases H <;> first | rfl | exact absurd rfl ne
  have e2 : (H.map pD).all isPlace = true := List.all_eq_true.mpr fun d hd => by
    obtain ⟨p, _, rfl⟩ := List.mem_map.mp hd
    have h1 := p.pos
    have h2 := p.cop
    unfold isPlace
    simp only [Bool.and_eq_true, decide_eq_true_eq]
    exact ⟨areNum3.mpr ⟨_, _, _, rfl⟩, h1, h2⟩
  show (!(H.map pD).isEmpty && ((H.map pD).all isPlace && PyData.eqv (.tuple ((hullP ((H.map pD).map unP)).map pD)) (.tuple (H.map pD)))) = true
  rw [e1, e2, unP_map, h.x.self]
  simp only [PyData.eqv, Bool.not_false, Bool.true_and]
  exact eqv_pts H
end PH

namespace PH
open PySem PySem.Spec L2
def tysB : List String := ["NoneType", "bool", "int", "str", "list", "tuple", "dict"]
def hpB (K : PySem.W.Frag) (C : Addr) : Bool :=
  decide (He.ga K "Heap" = C) && (decide (PySem.W.findIn K (.ref C) "__class__" = some (some (.builtin "object.__class__"))) && (decide (PySem.W.specialIn K (.builtin "object.__class__") "__get__" = some (some (.builtin "getset_descriptor.__get__"))) &&
  (decide (PySem.W.takesIn K (.builtin "object.__class__") = some true) && (decide (PySem.W.mroIn K C (.type "object") = some true) && ((["int", "bool", "tuple", "list", "str", "dict"].all fun t => decide (PySem.W.kitOne K (.ref C) (.type t) = some false)) &&
  (decide (PySem.W.kitOne K (.ref C) (.ref C) = some true) && (PySem.W.selfFirst K C && (decide (PySem.W.subIn K (.ref C) (.type "int") = some false) && (decide (PySem.W.subIn K (.type "int") (.ref C) = some false) &&
  ((PySem.W.findIn K (.type "int") (PySem.dunder "mul")).isSome && ((PySem.W.findIn K (.type "int") (dunderR "mul")).isSome && (decide (PySem.W.subIn K (.ref C) (.type "object") = some true) && (decide (PySem.W.findIn K (.ref C) "__ne__" = some (some (.builtin "object.__ne__"))) && (PySem.W.notFirst K C (.ref C) && (PySem.W.notFirst K C (.type "int") && (PySem.W.notFirst K C (.type "list") && (PySem.W.mro2 K C && (decide (PySem.W.findIn K (.ref C) (dunderI "add") = some none) && (decide (PySem.W.findIn K (.type "object") (dunderI "add") = some none) && (decide (PySem.W.findIn K (.ref C) (dunderI "mul") = some none) && (decide (PySem.W.findIn K (.type "object") (dunderI "mul") = some none) && (tysB.all fun t => decide (PySem.W.kitOne K (.type t) (.ref C) = some false)))))))))))))))))))))))
structure HpAll (K : PySem.W.Frag) (C : Addr) : Prop where
  c : HpC K C
  o : HpO K C
  n : HpN K C
  k : kitNo K C
  e : HpE K C
  p : HpP K C
theorem hp_all {K : PySem.W.Frag} {C : Addr} (h : hpB K C = true) (c1 : (He.Fa.cls "Heap").ok K = true) (c2 : (He.Fa.noat "Heap" "_weights").ok K = true) (c3 : (He.Fa.mkr "Heap").ok K = true) : HpAll K C := by
  unfold hpB at h
  simp only [Bool.and_eq_true, decide_eq_true_eq, List.all_cons, List.all_nil, Bool.and_true, Option.isSome_iff_exists, tysB] at h
  obtain ⟨e, h1, h2, h3, h4, ⟨k1, k2, k3, k4, k5, k6⟩, h5, h6, h7, h8, h9, h10, e1, e2, e3, e4, e5, p1, p2, p3, p4, p5, t1, t2, t3, t4, t5, t6, t7⟩ := h
  have m1 := He.cls_ok c1
  have m2 := He.noat_ok c2
  have m3 := He.mkr_ok c3
  rw [e] at m1 m2 m3
  refine ⟨⟨m1, h1, h2, h3, h4, m2, k1, k2, k3, k4, k5, k6, h5⟩, ⟨h6, h7, h8, h9, h10⟩, ⟨m3.makes, m3.kp⟩, fun d => ?_, ⟨e1, e2, e3, e4, e5⟩, ⟨⟨h6, h7, h8, h9, h10⟩, p1, p2, p3, p4, p5⟩⟩
  cases d <;> assumption
theorem hp_addr {K : PySem.W.Frag} {C : Addr} (h : hpB K C = true) : He.ga K "Heap" = C := by
  unfold hpB at h
  simp only [Bool.and_eq_true, decide_eq_true_eq] at h
  exact h.1
theorem hp_meth {K : PySem.W.Frag} {C : Addr} {m q : Str} {st : Stmt} {f : Addr} {fd : FuncData} (h : hpB K C = true) (hC : hpCls = some C) (c : (He.Fa.meth "Heap" m).ok K = true) (e : f = He.ma K (He.ga K "Heap") m)
    (F : FunD K m q (defArgs st) (defBody st) (defScope st) [] [] f fd) : MDfn K m q st := by
  have M := He.meth_ok c
  subst e
  refine ⟨_, fd, fun C' h' => ?_, toFun F⟩
  rw [hC] at h'
  cases h'
  rw [hp_addr h] at M ⊢
  exact M
end PH

namespace PH
open PySem PySem.Spec L2
theorem _root_.L2.Room.u10 {k : Nat} {A : PySem.Around} (r : L2.Room k A) : A.units + 10 < PySem.cLine := by have := r.un; omega
theorem _root_.L2.Room.u8 {k : Nat} {A : PySem.Around} (r : L2.Room k A) : A.units + 8 < PySem.cLine := by have := r.un; omega
theorem MDfn.m {K : PySem.W.Frag} {m q : Str} {st : Stmt} (h : MDfn K m q st) : ∃ g, ∀ C, hpCls = some C → Meth K C m g := let ⟨g, _, h, _⟩ := h; ⟨g, h⟩
def dEnumS (m : DA) : DA := fun σd Q => dEnum m σd Q ∨ dEnumT m σd Q
theorem pdi_enumS {X : Cx} {a : Expr} {n : Nat} {md : DA} {pos : Pos} {p tpos : Pos} {elts : List Expr} {kk : Nat} (hg : Gl X "enumerate") (hm : X.mg "enumerate" = none) (ha : PDA X [a] n md) (hs : starEach [a] X.env = [(false, eval a X.env)] := by rfl) :
    PDI X (.Tuple elts kk tpos) (.Call (.Name "enumerate" p) [a] [] pos) (dEnumS md) := by
  obtain ⟨w1, p1, l1⟩ := pdi_enum (tpos := tpos) (elts := elts) (kk := kk) (p := p) (pos := pos) hg hm ha hs
  obtain ⟨w2, p2, l2⟩ := pdi_enumT (tpos := tpos) (elts := elts) (kk := kk) (p := p) (pos := pos) hg hm ha hs
  refine ⟨_, PI.or p1 p2, fun S M H0 H σ σd Qd R E hm k => ?_⟩
  rcases hm with hm | hm
  · exact .inl (l1 S M H0 H σ σd Qd R E hm k)
  · exact .inr (l2 S M H0 H σ σd Qd R E hm k)
end PH

namespace PH
open PySem PySem.Spec L2
structure D8 (H : List Pt) : Prop where
  x : PlateX H
  b : ∀ p ∈ H, PBd 24 2 p
  l : H.length ≤ 8
theorem D8.pk {H : List Pt} (h : D8 H) : Pk 24 H := ⟨h.x, fun p hp => (h.b p hp).pb (by decide), Nat.le_trans h.l (by decide)⟩
structure DR (m : Nat) (R : TR) : Prop where
  p : ∀ r ∈ R, D8 r.1
  w : ∀ r ∈ R, r.2.natAbs ≤ 3
  l : R.length ≤ m
theorem DR.ok {m n : Nat} {R : TR} (h : DR m R) (l : m ≤ n) : ROk KB n R := ⟨fun r hr => (h.p r hr).pk.mono (by decide), Nat.le_trans h.l l⟩
theorem DR.app {m n : Nat} {R S : TR} (h : DR m R) (h2 : DR n S) : DR (m + n) (R ++ S) :=
  ⟨fun r hr => (List.mem_append.mp hr).elim (h.p r) (h2.p r), fun r hr => (List.mem_append.mp hr).elim (h.w r) (h2.w r), by rw [List.length_append]; have := h.l; have := h2.l; omega⟩
def spDrawRows : DSp := fun ds Q => ∃ (ps : List Pt) (m : Nat), ds = [SRC, .list (ps.map pD), .int m] ∧ ps ≠ [] ∧ ps.length ≤ 1000 ∧ (∀ p ∈ ps, PBd 24 2 p) ∧ m ≤ 50 ∧ ∀ R : TR, DR m R → Q (.list (R.map rowD))
theorem wtT_bd {c : Nat} (H : List Pt) : ∀ {R : TR}, (∀ r ∈ R, r.2.natAbs ≤ c) → (wtT R H).natAbs ≤ c * R.length
  | [], _ => by rw [wtT_nil]; simp
  | r :: R, h => by
    have h1 := h r (by simp)
    have h2 := wtT_bd H (R := R) fun s hs => h s (by simp [hs])
    rw [wtT_cons, List.length_cons, Nat.mul_succ]
    split <;> omega
theorem addT_bd {c : Nat} {R : TR} (h : ∀ r ∈ R, r.2.natAbs ≤ c) : ∀ r ∈ addT R, r.2.natAbs ≤ c * R.length := fun r hr => by
  rw [(addT_mem hr).2.1]; exact wtT_bd _ h
theorem bd_of_le {i : Int} {c k : Nat} (h : i.natAbs ≤ c) (hk : c < 2 ^ k := by decide) : Bd k i := ⟨Nat.lt_of_le_of_lt h hk⟩
theorem NH.up {m n : Nat} {R : TR} (h : NH m R) (l : m ≤ n) : NH n R := ⟨h.1, h.2.mono (Nat.le_refl _) l⟩
theorem DR.nh {m : Nat} {R : TR} (h : DR m R) (hm : m ≤ 50) (n : Nat) (hn : 50 ≤ n) : NH n (addT R) := .of (h.ok (by omega))
end PH

namespace PH
open PySem PySem.Spec L2
theorem wtT_sum (H : List Pt) : ∀ R : TR, wtT R H = sumP_ (fun G => if G = H then 1 else 0) R
  | [] => rfl
  | r :: R => by
    rw [wtT_cons, sumP__cons, wtT_sum H R]
    by_cases c : r.1 = H <;> simp [c]
theorem wtT_addT (R : TR) (H : List Pt) : wtT (addT R) H = wtT R H := by rw [wtT_sum, wtT_sum, sumP__addT]
theorem wtT_in {R : TR} {H : List Pt} (h : wtT R H ≠ 0) : H ∈ R.map (·.1) := Classical.byContradiction fun n => h (wtT_out n)
theorem addT_ext {R S : TR} (h : ∀ H, wtT R H = wtT S H) : addT R = addT S := by
  have e : keysT R = keysT S := srt_ext plt_tr plt_irr (ordP_ok _).1 (ordP_ok _).1 fun H => by
    have a := keysT_mem (R := R) (H := H)
    have b := keysT_mem (R := S) (H := H)
    rw [h H] at a
    refine a.trans (Iff.trans ?_ b.symm)
    exact ⟨fun z => ⟨wtT_in z.2, z.2⟩, fun z => ⟨wtT_in (by rw [h]; exact z.2), z.2⟩⟩
  unfold addT
  rw [e]
  exact List.map_congr_left fun H _ => by rw [h]
theorem addT_app (R S : TR) : addT (addT R ++ addT S) = addT (R ++ S) := addT_ext fun H => by rw [wtT_app, wtT_app, wtT_addT, wtT_addT]
theorem wtT_neg (R : TR) (H : List Pt) : wtT (negT R) H = -wtT R H := by rw [negT_mul, wtT_sum, sumP__mul, ← wtT_sum]; omega
theorem wtT_mul (n : Int) (R : TR) (H : List Pt) : wtT (mulT n R) H = n * wtT R H := by rw [wtT_sum, sumP__mul, ← wtT_sum]
theorem addT_sub (R S : TR) : addT (addT R ++ negT (addT S)) = addT (R ++ negT S) := addT_ext fun H => by rw [wtT_app, wtT_app, wtT_neg, wtT_neg, wtT_addT, wtT_addT]
theorem addT_mulT (n : Int) (R : TR) : addT (mulT n (addT R)) = addT (mulT n R) := addT_ext fun H => by rw [wtT_mul, wtT_mul, wtT_addT]
def totT (R : TR) : Int := (R.map (·.2)).sum
theorem totT_sum (R : TR) : totT R = sumP_ (fun _ => 1) R := by
  unfold totT sumP_
  congr 1
  exact List.map_congr_left fun r _ => by simp
theorem nodup_lenG {α : Type} [DecidableEq α] : ∀ {xs ys : List α}, xs.Nodup → (∀ x ∈ xs, x ∈ ys) → xs.length ≤ ys.length
  | [], ys, _, _ => by simp
  | x :: xs, ys, nd, h => by
    rw [List.nodup_cons] at nd
    have hx := h x (by simp)
    have := nodup_lenG (xs := xs) (ys := ys.erase x) nd.2 fun z hz => by
      have ne : z ≠ x := fun e => nd.1 (by rw [← e]; exact hz)
      exact (List.mem_erase_of_ne ne).mpr (h z (List.mem_cons_of_mem _ hz))
    rw [List.length_erase_of_mem hx] at this
    have := List.length_pos_of_mem hx
    simp only [List.length_cons]; omega
theorem eqN_addT (R S : TR) : eqN (nkR (addT R)) (nkR (addT S)) = decide (addT R = addT S) := by
  by_cases c : addT R = addT S
  · rw [decide_eq_true c, c]
    unfold eqN
    rw [beq_self_eq_true, Bool.true_and, List.all_eq_true]
    intro x hx
    obtain ⟨r, hr, rfl⟩ := List.mem_map.mp hx
    rw [decide_eq_true_iff]
    show lookN (nkR (addT S)) (plN r.1) = some r.2
    rw [lookN_nk]
    exact lookT_in (addT_nodup S) hr
  · rw [decide_eq_false c]
    refine Bool.eq_false_iff.mpr fun z => c ?_
    unfold eqN at z
    rw [Bool.and_eq_true, List.all_eq_true] at z
    obtain ⟨z1, z2⟩ := z
    have hl : (addT R).length = (addT S).length := by
      have := beq_iff_eq.mp z1
      unfold nkR at this
      rwa [List.length_map, List.length_map] at this
    have lk : ∀ r ∈ addT R, lookT (addT S) r.1 = some r.2 := fun r hr => by
      have := of_decide_eq_true (z2 (plN r.1, r.2) (List.mem_map_of_mem hr))
      rwa [lookN_nk] at this
    have sub : ∀ r ∈ addT R, wtT S r.1 = r.2 ∧ r.1 ∈ keysT S := fun r hr => by
      have h1 := lk r hr
      have h2 : r.1 ∈ (addT S).map (·.1) := Classical.byContradiction fun n => by rw [lookT_none n] at h1; cases h1
      obtain ⟨s, hs, e⟩ := List.mem_map.mp h2
      have h3 := lookT_in (addT_nodup S) hs
      rw [e, h1] at h3
      have h4 := (addT_mem hs).2.1
      rw [e] at h4
      rw [addT_keys] at h2
      exact ⟨by rw [← h4]; exact (Option.some.inj h3).symm, h2⟩
    have ks : ∀ H, H ∈ keysT R → H ∈ keysT S := fun H hH => by
      rw [← addT_keys] at hH
      obtain ⟨r, hr, rfl⟩ := List.mem_map.mp hH
      exact (sub r hr).2
    have kl : (keysT R).length = (keysT S).length := by rw [← addT_keys, ← addT_keys, List.length_map, List.length_map]; exact hl
    have sk : ∀ H, H ∈ keysT S → H ∈ keysT R := fun H hH => Classical.byContradiction fun n => by
      have := nodup_lenG (xs := H :: keysT R) (ys := keysT S) (List.nodup_cons.mpr ⟨n, ordP_nodup _⟩) (fun x hx => (List.mem_cons.mp hx).elim (fun e => e ▸ hH) (ks x))
      rw [List.length_cons] at this
      omega
    refine addT_ext fun H => ?_
    by_cases h : H ∈ keysT R
    · have h2 := h
      rw [← addT_keys] at h2
      obtain ⟨r, hr, rfl⟩ := List.mem_map.mp h2
      rw [(sub r hr).1, (addT_mem hr).2.1]
    · have a : wtT R H = 0 := Classical.byContradiction fun n => h (keysT_mem.mpr ⟨wtT_in n, n⟩)
      have b : wtT S H = 0 := Classical.byContradiction fun n => h (sk H (keysT_mem.mpr ⟨wtT_in n, n⟩))
      rw [a, b]
def spHEq : DSp := fun ds Q => (∃ R S : TR, ds = [hpT (addT R), hpT (addT S)] ∧ Q (.bool (decide (addT R = addT S)))) ∨ (∃ (R : TR) (i : Int), ds = [hpT R, .int i] ∧ Q (.bool false)) ∨ ∃ (R : TR) (xs : List D), ds = [hpT R, .list xs] ∧ Q (.bool false)
def spLenM : DSp := fun ds Q => ∃ R : TR, ds = [hpT R] ∧ Q (.int R.length)
end PH

namespace PH
open PySem PySem.Spec PyProof.Rows L2
def dOwnG (i : Nat) (me : DE) (dg : DG) : DS := fun Dd σd => me σd fun d => ∀ p, dg d (σd.set i (Sl.own p [])) Dd.nx
section
variable {X : Cx} {Wx : WX} {b : Expr} {pos p1 : Pos}
end
end PH

namespace PH
open PySem PySem.Spec L2
theorem z_rows_c {X : TR} {n : Nat} (h : X.length ≤ n) (hn : n ≤ 100000) {Q : D → Prop} (q : Q (.list ((addT X).map rowD))) : (∃ kvs, hpT (addT X) = hpD kvs) ∧ spRowsM [hpT (addT X)] Q :=
  ⟨⟨_, rfl⟩, addT X, rfl, addT_nodup X, Nat.le_trans (addT_len X) (Nat.le_trans h hn), q⟩
end PH

namespace PH
open PySem PySem.Spec L2
theorem z_add_c {X Y : TR} (hX : ROk KB 900 X) (hY : ROk KB 900 Y) {Q : D → Prop} (q : Q (hpT (addT (X ++ Y)))) : (∃ k1 k2, hpT (addT X) = hpD k1 ∧ hpT (addT Y) = hpD k2) ∧ spHAdd [hpT (addT X), hpT (addT Y)] Q :=
  ⟨⟨_, _, rfl, rfl⟩, addT X, addT Y, rfl, (NH.of hX).up (by decide), (NH.of hY).up (by decide), by rw [addT_app]; exact q⟩
theorem z_sub_c {X Y : TR} (hX : ROk KB 900 X) (hY : ROk KB 900 Y) {Q : D → Prop} (q : Q (hpT (addT (X ++ negT Y)))) : (∃ k1 k2, hpT (addT X) = hpD k1 ∧ hpT (addT Y) = hpD k2) ∧ spHSub [hpT (addT X), hpT (addT Y)] Q :=
  ⟨⟨_, _, rfl, rfl⟩, addT X, addT Y, rfl, (NH.of hX).up (by decide), (NH.of hY).up (by decide), by rw [addT_sub]; exact q⟩
theorem z_mul0 {X : TR} {n : Int} (hX : ROk KB 900 X) (hn : Bd 200 n) (hw : ∀ r ∈ addT X, Bd 200 r.2) {Q : D → Prop} (q : Q (hpT (addT (mulT n X)))) : spHMul [hpT (addT X), .int n] Q :=
  ⟨addT X, n, rfl, (NH.of hX).up (by decide), ⟨200, by decide, hn, hw⟩, by rw [addT_mulT]; exact q⟩
theorem z_ih_c {X : TR} {n : Int} (hX : ROk KB 900 X) (hn : Bd 200 n) (hw : ∀ r ∈ addT X, Bd 200 r.2) {Q : D → Prop} (q : Q (hpT (addT (mulT n X)))) : (∃ i k1, PyData.int n = .int i ∧ hpT (addT X) = hpD k1) ∧ spHMul [hpT (addT X), .int n] Q :=
  ⟨⟨_, _, rfl, rfl⟩, z_mul0 hX hn hw q⟩
def Shw (n : Nat) (T : TR) : Prop := (∀ r ∈ T, (∀ p ∈ r.1, PB 900 p) ∧ r.1.length ≤ 8 ∧ Bd 900 r.2) ∧ T.length ≤ n
theorem Shw.okb {n : Nat} {T : TR} (h : Shw n T) : Okb (.list (T.map rowD)) (61 * n) 10 := by
  obtain ⟨c1, c2, c3, c4⟩ := okb_map rowD (fun r => 7 * r.1.length + 4) 9 T fun r hr => okb_row (Nat.le_refl 900) r (h.1 r hr).1 (h.1 r hr).2.2
  have s := sum_le (fun r : List Pt × Int => 7 * r.1.length + 4 + 1) 61 T fun r hr => by have := (h.1 r hr).2.1; omega
  have l := h.2
  refine ⟨c1, ?_, ?_, c4⟩
  · simp only [PyData.bulk]; omega
  · simp only [PyData.depth]; omega
theorem Shw.r {n : Nat} {T : TR} (h : Shw n T) (hn : n ≤ 600) : rOk (.list (T.map rowD)) := by
  obtain ⟨c1, c2, c3, c4⟩ := h.okb
  exact rOk_of c1 (by omega) (by omega) fun z => by rw [c4] at z; cases z
theorem Shw.rl {n : Nat} {Ts : List TR} (h : ∀ T ∈ Ts, Shw n T) (hn : n ≤ 20) (hl : Ts.length ≤ 10) : rOk (.list (Ts.map fun T => .list (T.map rowD))) := by
  obtain ⟨c1, c2, c3, c4⟩ := okb_map (fun T : TR => PyData.list (T.map rowD)) (fun _ => 61 * n) 10 Ts fun T hT => (h T hT).okb
  have s := sum_le (fun _ : TR => 61 * n + 1) 1221 Ts fun _ _ => by omega
  refine rOk_of (by simpa [tame] using c1) ?_ ?_ ?_
  · simp only [PyData.bulk]; omega
  · simp only [PyData.depth]; omega
  · intro z; simp only [PyData.hasDict] at z; rw [c4] at z; cases z
structure Drn (c n : Nat) (T : TR) : Prop where
  p : ∀ r ∈ T, D8 r.1
  w : ∀ r ∈ T, r.2.natAbs ≤ c
  l : T.length ≤ n
theorem DR.drn {n : Nat} {T : TR} (h : DR n T) : Drn 3 n T := ⟨h.p, h.w, h.l⟩
theorem Drn.mono {c d m n : Nat} {T : TR} (h : Drn c m T) (l : c ≤ d) (l2 : m ≤ n) : Drn d n T := ⟨h.p, fun r hr => Nat.le_trans (h.w r hr) l, Nat.le_trans h.l l2⟩
theorem Drn.app {c m n : Nat} {R S : TR} (h : Drn c m R) (h2 : Drn c n S) : Drn c (m + n) (R ++ S) :=
  ⟨fun r hr => (List.mem_append.mp hr).elim (h.p r) (h2.p r), fun r hr => (List.mem_append.mp hr).elim (h.w r) (h2.w r), by rw [List.length_append]; have := h.l; have := h2.l; omega⟩
theorem Drn.neg {c n : Nat} {R : TR} (h : Drn c n R) : Drn c n (negT R) := ⟨fun r hr => (by
  obtain ⟨s, hs, rfl⟩ := List.mem_map.mp hr; exact h.p s hs), fun r hr => (by
  obtain ⟨s, hs, rfl⟩ := List.mem_map.mp hr; show (-s.2).natAbs ≤ c; rw [Int.natAbs_neg]; exact h.w s hs), by unfold negT; rw [List.length_map]; exact h.l⟩
theorem Drn.mul {c n : Nat} {R : TR} (h : Drn c n R) (k : Int) : Drn (k.natAbs * c) n (mulT k R) := ⟨fun r hr => (by
  obtain ⟨s, hs, rfl⟩ := List.mem_map.mp hr; exact h.p s hs), fun r hr => (by
  obtain ⟨s, hs, rfl⟩ := List.mem_map.mp hr; show (k * s.2).natAbs ≤ _; rw [Int.natAbs_mul]; exact Nat.mul_le_mul_left _ (h.w s hs)), by unfold mulT; rw [List.length_map]; exact h.l⟩
theorem Drn.nil {c n : Nat} : Drn c n [] := ⟨fun r hr => (nomatch hr), fun r hr => (nomatch hr), Nat.zero_le _⟩
theorem Drn.ok {c m n : Nat} {R : TR} (h : Drn c m R) (l : m ≤ n) : ROk KB n R := ⟨fun r hr => (h.p r hr).pk.mono (by decide), Nat.le_trans h.l l⟩
theorem Drn.bd {c n k : Nat} {R : TR} (h : Drn c n R) (hk : c * n < 2 ^ k) : ∀ r ∈ addT R, Bd k r.2 := fun r hr => ⟨Nat.lt_of_le_of_lt (Nat.le_trans (addT_bd h.w r hr) (Nat.mul_le_mul_left c h.l)) hk⟩
theorem Drn.shw {c n : Nat} {R : TR} (h : Drn c n R) (hk : c * n < 2 ^ 900) : Shw n (addT R) := ⟨fun r hr => (by
  obtain ⟨s, hs, e⟩ := List.mem_map.mp (addT_mem hr).1
  have d := h.p s hs
  rw [e] at d
  exact ⟨fun p hp => (d.pk.b p hp).mono (by decide), d.l, h.bd hk r hr⟩), Nat.le_trans (addT_len R) h.l⟩
theorem addT_back (R S : TR) : addT ((R ++ S) ++ negT S) = addT R := addT_ext fun H => by rw [wtT_app, wtT_app, wtT_neg]; omega
theorem sh_i1 {i : Int} : SeqAt.shaped (.int i) = true := by simp [SeqAt.shaped, PyData.canLay0, PyData.depth]
end PH

namespace PH
open PySem PySem.Spec L2
def unRow : D → List Pt × Int
  | .tuple [.tuple ps, .int w] => (ps.map unP, w)
  | _ => ([], 0)
theorem unRow_D (r : List Pt × Int) : unRow (rowD r) = r := by
  obtain ⟨H, w⟩ := r
  show ((H.map pD).map unP, w) = _
  rw [unP_map]
theorem perm_rows {R : TR} {ys : List D} (h : ys.Perm (R.map rowD)) : ∃ S : TR, ys = S.map rowD ∧ S.Perm R := by
  refine ⟨ys.map unRow, ?_, ?_⟩
  · rw [List.map_map]
    refine ((List.map_congr_left fun y hy => ?_).trans (List.map_id _)).symm
    obtain ⟨r, _, rfl⟩ := List.mem_map.mp (h.mem_iff.mp hy)
    show rowD (unRow (rowD r)) = rowD r
    rw [unRow_D]
  · have := h.map unRow
    rw [List.map_map] at this
    have e : R.map (unRow ∘ rowD) = R := (List.map_congr_left fun r _ => unRow_D r).trans (List.map_id _)
    rwa [e] at this
theorem wtT_perm {R S : TR} (h : S.Perm R) (H : List Pt) : wtT S H = wtT R H := by
  induction h with
  | nil => rfl
  | cons x _ ih => rw [wtT_cons, wtT_cons, ih]
  | swap x y l => rw [wtT_cons, wtT_cons, wtT_cons, wtT_cons]; omega
  | trans _ _ a b => rw [a, b]
theorem addT_perm {R S : TR} (h : S.Perm R) : addT S = addT R := addT_ext fun H => wtT_perm h H
theorem DR.perm {m : Nat} {R S : TR} (d : DR m R) (h : S.Perm R) : DR m S := ⟨fun r hr => d.p r (h.mem_iff.mp hr), fun r hr => d.w r (h.mem_iff.mp hr), by rw [h.length_eq]; exact d.l⟩
def P152 : Pt := ⟨1, 5, 2, by decide, by decide⟩
def P371 : Pt := ⟨3, 7, 1, by decide, by decide⟩
def MORE : TR := [([O1, P152], 2), ([P371], -1)]
theorem two_plate {a b : Pt} (h : Pt.lt a b = true) : PlateX [a, b] := ⟨[a, b], by simp, by
  have ne : a ≠ b := fun z => by rw [z, Pt.lt_irr] at h; cases h
  rw [hull_two ne, if_pos h]⟩
theorem MORE_ok : ROk 24 2 MORE := ⟨fun r hr => by
  simp only [MORE, List.mem_cons, List.not_mem_nil, or_false] at hr
  rcases hr with rfl | rfl
  · refine ⟨two_plate ((Pt.lt_iff _ _).mpr (by decide)), fun p hp => ?_, by simp⟩
    simp only [List.mem_cons, List.not_mem_nil, or_false] at hp
    rcases hp with rfl | rfl <;> exact ⟨⟨by decide⟩, ⟨by decide⟩, ⟨by decide⟩⟩
  · refine ⟨one_plate _, fun p hp => ?_, by simp⟩
    rw [List.mem_singleton.mp hp]
    exact ⟨⟨by decide⟩, ⟨by decide⟩, ⟨by decide⟩⟩, by simp [MORE]⟩
theorem addT_neg2 (R : TR) : addT (mulT (-1) (mulT (-1) R)) = addT R := addT_ext fun H => by rw [wtT_mul, wtT_mul]; omega
theorem addT_sub2 (R : TR) : addT ([] ++ negT ([] ++ negT R)) = addT R := addT_ext fun H => by rw [wtT_app, wtT_neg, wtT_app, wtT_neg, wtT_nil]; omega
def spLHeap : DSp := fun ds Q => ∃ (R : TR), ds = [SRC, .list (R.map rowD)] ∧ DR 50 R ∧ Q (hpT (addT R))
def filS (f : List Pt → Bool) (R : TR) : Int := ((R.filter fun r => f r.1).map (·.2)).sum
theorem filS_sum (f : List Pt → Bool) : ∀ R : TR, filS f R = sumP_ (fun H => if f H = true then 1 else 0) R
  | [] => rfl
  | r :: R => by
    rw [sumP__cons, ← filS_sum f R]
    unfold filS
    rw [List.filter_cons]
    by_cases c : f r.1 = true
    · rw [if_pos c, if_pos c]; simp
    · rw [if_neg c, if_neg c]; simp
theorem filS_addT (f : List Pt → Bool) (R : TR) : filS f (addT R) = filS f R := by rw [filS_sum, filS_sum, sumP__addT]
def metE (e : Hf) (H : List Pt) : Bool := H.any fun p => decide (0 ≤ excess e.a e.b e.c p.x p.y p.d)
def linE (e : Hf) (H : List Pt) : Bool := metE e H && metE e.neg H
theorem met_or (e : Hf) {H : List Pt} (h : H ≠ []) : metE e H = true ∨ metE e.neg H = true := by
  obtain ⟨p, r, rfl⟩ := List.exists_cons_of_ne_nil h
  have e1 : excess e.neg.a e.neg.b e.neg.c p.x p.y p.d = -excess e.a e.b e.c p.x p.y p.d := by unfold excess Hf.neg; grind
  by_cases c : 0 ≤ excess e.a e.b e.c p.x p.y p.d
  · exact .inl (List.any_eq_true.mpr ⟨p, by simp, decide_eq_true c⟩)
  · exact .inr (List.any_eq_true.mpr ⟨p, by simp, decide_eq_true (by rw [e1]; omega)⟩)
theorem lin_sum (e : Hf) : ∀ {R : TR}, (∀ r ∈ R, r.1 ≠ []) → filS (linE e) R = filS (metE e) R + filS (metE e.neg) R - totT R
  | [], _ => rfl
  | r :: R, h => by
    have ih := lin_sum e (R := R) fun s hs => h s (by simp [hs])
    have o := met_or e (h r (by simp))
    rw [filS_sum, filS_sum, filS_sum, totT_sum] at ih ⊢
    rw [sumP__cons, sumP__cons, sumP__cons, sumP__cons, ih]
    unfold linE
    cases c : metE e r.1 <;> cases d : metE e.neg r.1
    · rw [c, d] at o; rcases o with o | o <;> cases o
    · simp; omega
    · simp; omega
    · simp; omega
theorem neg_e (e : Hf) : e.neg.neg = e := by
  obtain ⟨a, b, c, h⟩ := e
  simp [Hf.neg]
theorem lin_neg (e : Hf) : linE e.neg = linE e := funext fun H => by unfold linE; rw [neg_e, Bool.and_comm]
def spHalfS : DSp := fun ds Q => ∃ (R : TR) (e : Hf) (k : Nat), ds = [hpT R, heD e] ∧ (R.map (·.1)).Nodup ∧ ROk k NB R ∧ HB k e ∧ k ≤ 1000 ∧ Q (.int (filS (metE e) R))
def spLineS : DSp := fun ds Q => ∃ (R : TR) (e : Hf) (k : Nat), ds = [hpT R, heD e] ∧ (R.map (·.1)).Nodup ∧ ROk k NB R ∧ HB k e ∧ k ≤ 1000 ∧ Q (.int (filS (linE e) R))
def spLHalfS : DSp := fun ds Q => ∃ (R : TR) (e : Hf) (k : Nat), ds = [.list (R.map rowD), heD e] ∧ ROk k 1000 R ∧ HB k e ∧ k ≤ 1000 ∧ Q (.int (filS (metE e) R))
def spDrawH41 : DSp := fun ds Q => ∃ (d : D) (ps : List Pt), ds = [SRC, d, .list (ps.map pD)] ∧ ps ≠ [] ∧ ps.length ≤ 100 ∧ (∀ p ∈ ps, PBd 5 2 p) ∧ ∀ e : Hf, HB 70 e → Q (heD e)
end PH


namespace K41
open PySem PySem.Spec L2 PH
open PyProof.Rows (envOfC)
/-! ### the text by places -/
def top (i : Nat) : Stmt := PySem.Challenge.pw_plateheaps_k41_half_plane_sums.main.body.getD i (.Pass ⟨0, 0, 0, 0⟩)
abbrev s__wall : Stmt := top 1
abbrev s_is_number : Stmt := top 3
abbrev s_are_numbers : Stmt := top 4
abbrev s_copied : Stmt := top 5
abbrev s_is_place : Stmt := top 11
abbrev s_turn : Stmt := top 12
abbrev s_fineness : Stmt := top 13
abbrev s_place_key : Stmt := top 14
abbrev s_ascending : Stmt := top 15
abbrev s_excess : Stmt := top 17
abbrev s_has : Stmt := top 18
abbrev s_facing : Stmt := top 19
abbrev s_left_turns : Stmt := top 21
abbrev s_hull : Stmt := top 22
abbrev s_is_plate : Stmt := top 23
abbrev s_is_met : Stmt := top 24
abbrev s_half_sum : Stmt := top 26
abbrev s_line_sum : Stmt := top 27
abbrev s_is_row : Stmt := top 29
abbrev s_plates_ascending : Stmt := top 30
abbrev s_added_weights : Stmt := top 31
abbrev s_summed : Stmt := top 33
abbrev s_l_open_cells : Stmt := top 35
abbrev s_l_pick : Stmt := top 36
abbrev s_l_any_order : Stmt := top 37
abbrev s_l_common : Stmt := top 38
abbrev s_l_place : Stmt := top 39
abbrev s_l_direction : Stmt := top 40
abbrev s_l_first : Stmt := top 41
abbrev s_l_places : Stmt := top 42
abbrev s_l_step : Stmt := top 43
abbrev s_l_turn : Stmt := top 44
abbrev s_l_chain : Stmt := top 45
abbrev s_l_hull : Stmt := top 46
abbrev s_l_half : Stmt := top 47
abbrev s_l_meets : Stmt := top 48
abbrev s_l_half_sum : Stmt := top 49
abbrev s_l_side : Stmt := top 50
abbrev s_l_ahead : Stmt := top 51
abbrev s_l_round : Stmt := top 52
abbrev s_l_across : Stmt := top 53
abbrev s_l_draw_place : Stmt := top 54
abbrev s_l_draw_pool : Stmt := top 55
abbrev s_l_draw_plate : Stmt := top 56
abbrev s_l_draw_rows : Stmt := top 57
abbrev s_l_heap : Stmt := top 58
abbrev s_l_draw_half : Stmt := top 59
abbrev s_law : Stmt := top 60
def mth (i j : Nat) : Stmt := match top i with
  | .ClassDef _ _ _ b _ _ _ _ _ _ _ => b.getD j (.Pass ⟨0, 0, 0, 0⟩)
  | _ => .Pass ⟨0, 0, 0, 0⟩
abbrev s_m___init__ : Stmt := mth 32 0
abbrev s_m_rows : Stmt := mth 32 1
abbrev s_m_weight : Stmt := mth 32 2
abbrev s_m___len__ : Stmt := mth 32 4
abbrev s_m___eq__ : Stmt := mth 32 5
abbrev s_m___add__ : Stmt := mth 32 6
abbrev s_m___sub__ : Stmt := mth 32 7
abbrev s_m___mul__ : Stmt := mth 32 8
abbrev s_m___rmul__ : Stmt := mth 32 9
/-! ### the head: facts by names -/
def d__wall : He.DefD := ⟨("_wall", none), "_wall", "_wall", defArgs s__wall, defBody s__wall, defScope s__wall, [], []⟩
def d_is_number : He.DefD := ⟨("is_number", none), "is_number", "is_number", defArgs s_is_number, defBody s_is_number, defScope s_is_number, [], []⟩
def d_are_numbers : He.DefD := ⟨("are_numbers", none), "are_numbers", "are_numbers", defArgs s_are_numbers, defBody s_are_numbers, defScope s_are_numbers, [], []⟩
def d_copied : He.DefD := ⟨("copied", none), "copied", "copied", defArgs s_copied, defBody s_copied, defScope s_copied, [], []⟩
def d_is_place : He.DefD := ⟨("is_place", none), "is_place", "is_place", defArgs s_is_place, defBody s_is_place, defScope s_is_place, [], []⟩
def d_turn : He.DefD := ⟨("turn", none), "turn", "turn", defArgs s_turn, defBody s_turn, defScope s_turn, [], []⟩
def d_fineness : He.DefD := ⟨("fineness", none), "fineness", "fineness", defArgs s_fineness, defBody s_fineness, defScope s_fineness, [], []⟩
def d_place_key : He.DefD := ⟨("place_key", none), "place_key", "place_key", defArgs s_place_key, defBody s_place_key, defScope s_place_key, [], []⟩
def d_ascending : He.DefD := ⟨("ascending", none), "ascending", "ascending", defArgs s_ascending, defBody s_ascending, defScope s_ascending, [], []⟩
def d_excess : He.DefD := ⟨("excess", none), "excess", "excess", defArgs s_excess, defBody s_excess, defScope s_excess, [], []⟩
def d_has : He.DefD := ⟨("has", none), "has", "has", defArgs s_has, defBody s_has, defScope s_has, [], []⟩
def d_facing : He.DefD := ⟨("facing", none), "facing", "facing", defArgs s_facing, defBody s_facing, defScope s_facing, [], []⟩
def d_left_turns : He.DefD := ⟨("left_turns", none), "left_turns", "left_turns", defArgs s_left_turns, defBody s_left_turns, defScope s_left_turns, [], []⟩
def d_hull : He.DefD := ⟨("hull", none), "hull", "hull", defArgs s_hull, defBody s_hull, defScope s_hull, [], []⟩
def d_is_plate : He.DefD := ⟨("is_plate", none), "is_plate", "is_plate", defArgs s_is_plate, defBody s_is_plate, defScope s_is_plate, [], []⟩
def d_is_met : He.DefD := ⟨("is_met", none), "is_met", "is_met", defArgs s_is_met, defBody s_is_met, defScope s_is_met, [], []⟩
def d_half_sum : He.DefD := ⟨("half_sum", none), "half_sum", "half_sum", defArgs s_half_sum, defBody s_half_sum, defScope s_half_sum, [], []⟩
def d_line_sum : He.DefD := ⟨("line_sum", none), "line_sum", "line_sum", defArgs s_line_sum, defBody s_line_sum, defScope s_line_sum, [], []⟩
def d_is_row : He.DefD := ⟨("is_row", none), "is_row", "is_row", defArgs s_is_row, defBody s_is_row, defScope s_is_row, [], []⟩
def d_plates_ascending : He.DefD := ⟨("plates_ascending", none), "plates_ascending", "plates_ascending", defArgs s_plates_ascending, defBody s_plates_ascending, defScope s_plates_ascending, [], []⟩
def d_added_weights : He.DefD := ⟨("added_weights", none), "added_weights", "added_weights", defArgs s_added_weights, defBody s_added_weights, defScope s_added_weights, [], []⟩
def d_summed : He.DefD := ⟨("summed", none), "summed", "summed", defArgs s_summed, defBody s_summed, defScope s_summed, [], []⟩
def d_l_open_cells : He.DefD := ⟨("_law_open_cells", none), "_law_open_cells", "_law_open_cells", defArgs s_l_open_cells, defBody s_l_open_cells, defScope s_l_open_cells, [], []⟩
def d_l_pick : He.DefD := ⟨("_law_pick", none), "_law_pick", "_law_pick", defArgs s_l_pick, defBody s_l_pick, defScope s_l_pick, [], []⟩
def d_l_any_order : He.DefD := ⟨("_law_any_order", none), "_law_any_order", "_law_any_order", defArgs s_l_any_order, defBody s_l_any_order, defScope s_l_any_order, [], []⟩
def d_l_common : He.DefD := ⟨("_law_common", none), "_law_common", "_law_common", defArgs s_l_common, defBody s_l_common, defScope s_l_common, [], []⟩
def d_l_place : He.DefD := ⟨("_law_place", none), "_law_place", "_law_place", defArgs s_l_place, defBody s_l_place, defScope s_l_place, [], []⟩
def d_l_direction : He.DefD := ⟨("_law_direction", none), "_law_direction", "_law_direction", defArgs s_l_direction, defBody s_l_direction, defScope s_l_direction, [], []⟩
def d_l_first : He.DefD := ⟨("_law_first", none), "_law_first", "_law_first", defArgs s_l_first, defBody s_l_first, defScope s_l_first, [], []⟩
def d_l_places : He.DefD := ⟨("_law_places", none), "_law_places", "_law_places", defArgs s_l_places, defBody s_l_places, defScope s_l_places, [], []⟩
def d_l_step : He.DefD := ⟨("_law_step", none), "_law_step", "_law_step", defArgs s_l_step, defBody s_l_step, defScope s_l_step, [], []⟩
def d_l_turn : He.DefD := ⟨("_law_turn", none), "_law_turn", "_law_turn", defArgs s_l_turn, defBody s_l_turn, defScope s_l_turn, [], []⟩
def d_l_chain : He.DefD := ⟨("_law_chain", none), "_law_chain", "_law_chain", defArgs s_l_chain, defBody s_l_chain, defScope s_l_chain, [], []⟩
def d_l_hull : He.DefD := ⟨("_law_hull", none), "_law_hull", "_law_hull", defArgs s_l_hull, defBody s_l_hull, defScope s_l_hull, [], []⟩
def d_l_half : He.DefD := ⟨("_law_half", none), "_law_half", "_law_half", defArgs s_l_half, defBody s_l_half, defScope s_l_half, [], []⟩
def d_l_meets : He.DefD := ⟨("_law_meets", none), "_law_meets", "_law_meets", defArgs s_l_meets, defBody s_l_meets, defScope s_l_meets, [], []⟩
def d_l_half_sum : He.DefD := ⟨("_law_half_sum", none), "_law_half_sum", "_law_half_sum", defArgs s_l_half_sum, defBody s_l_half_sum, defScope s_l_half_sum, [], []⟩
def d_l_side : He.DefD := ⟨("_law_side", none), "_law_side", "_law_side", defArgs s_l_side, defBody s_l_side, defScope s_l_side, [], []⟩
def d_l_ahead : He.DefD := ⟨("_law_ahead", none), "_law_ahead", "_law_ahead", defArgs s_l_ahead, defBody s_l_ahead, defScope s_l_ahead, [], []⟩
def d_l_round : He.DefD := ⟨("_law_round", none), "_law_round", "_law_round", defArgs s_l_round, defBody s_l_round, defScope s_l_round, [], []⟩
def d_l_across : He.DefD := ⟨("_law_across", none), "_law_across", "_law_across", defArgs s_l_across, defBody s_l_across, defScope s_l_across, [], []⟩
def d_l_draw_place : He.DefD := ⟨("_law_draw_place", none), "_law_draw_place", "_law_draw_place", defArgs s_l_draw_place, defBody s_l_draw_place, defScope s_l_draw_place, [], []⟩
def d_l_draw_pool : He.DefD := ⟨("_law_draw_pool", none), "_law_draw_pool", "_law_draw_pool", defArgs s_l_draw_pool, defBody s_l_draw_pool, defScope s_l_draw_pool, [], []⟩
def d_l_draw_plate : He.DefD := ⟨("_law_draw_plate", none), "_law_draw_plate", "_law_draw_plate", defArgs s_l_draw_plate, defBody s_l_draw_plate, defScope s_l_draw_plate, [], []⟩
def d_l_draw_rows : He.DefD := ⟨("_law_draw_rows", none), "_law_draw_rows", "_law_draw_rows", defArgs s_l_draw_rows, defBody s_l_draw_rows, defScope s_l_draw_rows, [], []⟩
def d_l_heap : He.DefD := ⟨("_law_heap", none), "_law_heap", "_law_heap", defArgs s_l_heap, defBody s_l_heap, defScope s_l_heap, [], []⟩
def d_l_draw_half : He.DefD := ⟨("_law_draw_half", none), "_law_draw_half", "_law_draw_half", defArgs s_l_draw_half, defBody s_l_draw_half, defScope s_l_draw_half, [], []⟩
def d_law : He.DefD := ⟨("law", none), "law", "law", defArgs s_law, defBody s_law, defScope s_law, [], []⟩
def d_m___init__ : He.DefD := ⟨("Heap", some "__init__"), "__init__", "Heap.__init__", defArgs s_m___init__, defBody s_m___init__, defScope s_m___init__, [], []⟩
def d_m_rows : He.DefD := ⟨("Heap", some "rows"), "rows", "Heap.rows", defArgs s_m_rows, defBody s_m_rows, defScope s_m_rows, [], []⟩
def d_m_weight : He.DefD := ⟨("Heap", some "weight"), "weight", "Heap.weight", defArgs s_m_weight, defBody s_m_weight, defScope s_m_weight, [], []⟩
def d_m___len__ : He.DefD := ⟨("Heap", some "__len__"), "__len__", "Heap.__len__", defArgs s_m___len__, defBody s_m___len__, defScope s_m___len__, [], []⟩
def d_m___eq__ : He.DefD := ⟨("Heap", some "__eq__"), "__eq__", "Heap.__eq__", defArgs s_m___eq__, defBody s_m___eq__, defScope s_m___eq__, [], []⟩
def d_m___add__ : He.DefD := ⟨("Heap", some "__add__"), "__add__", "Heap.__add__", defArgs s_m___add__, defBody s_m___add__, defScope s_m___add__, [], []⟩
def d_m___sub__ : He.DefD := ⟨("Heap", some "__sub__"), "__sub__", "Heap.__sub__", defArgs s_m___sub__, defBody s_m___sub__, defScope s_m___sub__, [], []⟩
def d_m___mul__ : He.DefD := ⟨("Heap", some "__mul__"), "__mul__", "Heap.__mul__", defArgs s_m___mul__, defBody s_m___mul__, defScope s_m___mul__, [], []⟩
def d_m___rmul__ : He.DefD := ⟨("Heap", some "__rmul__"), "__rmul__", "Heap.__rmul__", defArgs s_m___rmul__, defBody s_m___rmul__, defScope s_m___rmul__, [], []⟩
def fnL : List He.DefD := [d__wall, d_is_number, d_are_numbers, d_copied, d_is_place, d_turn, d_fineness, d_place_key, d_ascending, d_excess, d_has, d_facing, d_left_turns, d_hull, d_is_plate, d_is_met, d_half_sum, d_line_sum, d_is_row, d_plates_ascending, d_added_weights, d_summed, d_l_open_cells, d_l_pick, d_l_any_order, d_l_common, d_l_place, d_l_direction, d_l_first, d_l_places, d_l_step, d_l_turn, d_l_chain, d_l_hull, d_l_half, d_l_meets, d_l_half_sum, d_l_side, d_l_ahead, d_l_round, d_l_across, d_l_draw_place, d_l_draw_pool, d_l_draw_plate, d_l_draw_rows, d_l_heap, d_l_draw_half, d_law, d_m___init__, d_m_rows, d_m_weight, d_m___len__, d_m___eq__, d_m___add__, d_m___sub__, d_m___mul__, d_m___rmul__]
def faL : List He.Fa := [.glo "_wall", .glo "is_number", .glo "are_numbers", .glo "copied", .glo "is_place", .glo "turn", .glo "fineness", .glo "place_key", .glo "ascending", .glo "excess", .glo "has", .glo "facing", .glo "left_turns", .glo "hull", .glo "is_plate", .glo "is_met", .glo "half_sum", .glo "line_sum", .glo "is_row", .glo "plates_ascending", .glo "added_weights", .glo "summed", .glo "_law_open_cells", .glo "_law_pick", .glo "_law_any_order", .glo "_law_common", .glo "_law_place", .glo "_law_direction", .glo "_law_first", .glo "_law_places", .glo "_law_step", .glo "_law_turn", .glo "_law_chain", .glo "_law_hull", .glo "_law_half", .glo "_law_meets", .glo "_law_half_sum", .glo "_law_side", .glo "_law_ahead", .glo "_law_round", .glo "_law_across", .glo "_law_draw_place", .glo "_law_draw_pool", .glo "_law_draw_plate", .glo "_law_draw_rows", .glo "_law_heap", .glo "_law_draw_half", .glo "law", .free "NotImplemented", .free "abs", .free "all", .free "any", .free "bool", .free "dict", .free "enumerate", .free "int", .free "isinstance", .free "len", .free "list", .free "max", .free "range", .free "repr", .free "sorted", .free "sum", .free "tuple", .glo "Heap", .cls "Heap", .noat "Heap" "_weights", .mkr "Heap", .meth "Heap" "__init__", .meth "Heap" "rows", .meth "Heap" "weight", .meth "Heap" "__len__", .meth "Heap" "__eq__", .meth "Heap" "__add__", .meth "Heap" "__sub__", .meth "Heap" "__mul__", .meth "Heap" "__rmul__"]
def exB (K : PySem.W.Frag) : Bool := bltB K "gcd" "math.gcd" && ownB K "NoPlaces" && lamB K "ascending" 142 138 && hpB K 289
structure Tx (K : PySem.W.Frag) (mg : Str → Option Value) (base : Heap) : Prop where
  b_NotImplemented : mg "NotImplemented" = none
  b_abs : mg "abs" = none
  b_all : mg "all" = none
  b_any : mg "any" = none
  b_bool : mg "bool" = none
  b_dict : mg "dict" = none
  b_enumerate : mg "enumerate" = none
  b_int : mg "int" = none
  b_isinstance : mg "isinstance" = none
  b_len : mg "len" = none
  b_list : mg "list" = none
  b_max : mg "max" = none
  b_range : mg "range" = none
  b_repr : mg "repr" = none
  b_sorted : mg "sorted" = none
  b_sum : mg "sum" = none
  b_tuple : mg "tuple" = none
  i_gcd : mg "gcd" = some (.builtin "math.gcd")
  x_NoPlaces : OwnV K mg "NoPlaces"
  hp : hpCls = some 289
  hgl : mg "Heap" = some (.ref 289)
  ha : HpAll K 289
  m___init__ : MDfn K "__init__" "Heap.__init__" s_m___init__
  m_rows : MDfn K "rows" "Heap.rows" s_m_rows
  m_weight : MDfn K "weight" "Heap.weight" s_m_weight
  m___len__ : MDfn K "__len__" "Heap.__len__" s_m___len__
  m___eq__ : MDfn K "__eq__" "Heap.__eq__" s_m___eq__
  m___add__ : MDfn K "__add__" "Heap.__add__" s_m___add__
  m___sub__ : MDfn K "__sub__" "Heap.__sub__" s_m___sub__
  m___mul__ : MDfn K "__mul__" "Heap.__mul__" s_m___mul__
  m___rmul__ : MDfn K "__rmul__" "Heap.__rmul__" s_m___rmul__
  f__wall : Dfn K mg "_wall" s__wall
  f_is_number : Dfn K mg "is_number" s_is_number
  f_are_numbers : Dfn K mg "are_numbers" s_are_numbers
  f_copied : Dfn K mg "copied" s_copied
  f_is_place : Dfn K mg "is_place" s_is_place
  f_turn : Dfn K mg "turn" s_turn
  f_fineness : Dfn K mg "fineness" s_fineness
  f_place_key : Dfn K mg "place_key" s_place_key
  f_ascending : DfnC K mg "ascending" s_ascending 142
  f_excess : Dfn K mg "excess" s_excess
  f_has : Dfn K mg "has" s_has
  f_facing : Dfn K mg "facing" s_facing
  f_left_turns : Dfn K mg "left_turns" s_left_turns
  f_hull : Dfn K mg "hull" s_hull
  f_is_plate : Dfn K mg "is_plate" s_is_plate
  f_is_met : Dfn K mg "is_met" s_is_met
  f_half_sum : Dfn K mg "half_sum" s_half_sum
  f_line_sum : Dfn K mg "line_sum" s_line_sum
  f_is_row : Dfn K mg "is_row" s_is_row
  f_plates_ascending : Dfn K mg "plates_ascending" s_plates_ascending
  f_added_weights : Dfn K mg "added_weights" s_added_weights
  f_summed : Dfn K mg "summed" s_summed
  f_l_open_cells : Dfn K mg "_law_open_cells" s_l_open_cells
  f_l_pick : Dfn K mg "_law_pick" s_l_pick
  f_l_any_order : Dfn K mg "_law_any_order" s_l_any_order
  f_l_common : Dfn K mg "_law_common" s_l_common
  f_l_place : Dfn K mg "_law_place" s_l_place
  f_l_direction : Dfn K mg "_law_direction" s_l_direction
  f_l_first : Dfn K mg "_law_first" s_l_first
  f_l_places : Dfn K mg "_law_places" s_l_places
  f_l_step : Dfn K mg "_law_step" s_l_step
  f_l_turn : Dfn K mg "_law_turn" s_l_turn
  f_l_chain : Dfn K mg "_law_chain" s_l_chain
  f_l_hull : Dfn K mg "_law_hull" s_l_hull
  f_l_half : Dfn K mg "_law_half" s_l_half
  f_l_meets : Dfn K mg "_law_meets" s_l_meets
  f_l_half_sum : Dfn K mg "_law_half_sum" s_l_half_sum
  f_l_side : Dfn K mg "_law_side" s_l_side
  f_l_ahead : Dfn K mg "_law_ahead" s_l_ahead
  f_l_round : Dfn K mg "_law_round" s_l_round
  f_l_across : Dfn K mg "_law_across" s_l_across
  f_l_draw_place : Dfn K mg "_law_draw_place" s_l_draw_place
  f_l_draw_pool : Dfn K mg "_law_draw_pool" s_l_draw_pool
  f_l_draw_plate : Dfn K mg "_law_draw_plate" s_l_draw_plate
  f_l_draw_rows : Dfn K mg "_law_draw_rows" s_l_draw_rows
  f_l_heap : Dfn K mg "_law_heap" s_l_heap
  f_l_draw_half : Dfn K mg "_law_draw_half" s_l_draw_half
  f_law : Dfn K mg "law" s_law
  t_ascending : TabM base mg 142 138 "ascending.<locals>.<lambda>"
theorem tx_of {K : PySem.W.Frag} {h base : Heap} {mg : Str → Option Value} (X : K.In h) (G : h.Ns mainGlobals mg) (c : SaysE faL fnL exB K) (HPC : hpCls = some 289) (B_ascending : TabM base mg 142 138 "ascending.<locals>.<lambda>") : Tx K mg base where
  b_NotImplemented := He.free_ok X G (c.d.fact 48 (f := .free "NotImplemented") rfl)
  b_abs := He.free_ok X G (c.d.fact 49 (f := .free "abs") rfl)
  b_all := He.free_ok X G (c.d.fact 50 (f := .free "all") rfl)
  b_any := He.free_ok X G (c.d.fact 51 (f := .free "any") rfl)
  b_bool := He.free_ok X G (c.d.fact 52 (f := .free "bool") rfl)
  b_dict := He.free_ok X G (c.d.fact 53 (f := .free "dict") rfl)
  b_enumerate := He.free_ok X G (c.d.fact 54 (f := .free "enumerate") rfl)
  b_int := He.free_ok X G (c.d.fact 55 (f := .free "int") rfl)
  b_isinstance := He.free_ok X G (c.d.fact 56 (f := .free "isinstance") rfl)
  b_len := He.free_ok X G (c.d.fact 57 (f := .free "len") rfl)
  b_list := He.free_ok X G (c.d.fact 58 (f := .free "list") rfl)
  b_max := He.free_ok X G (c.d.fact 59 (f := .free "max") rfl)
  b_range := He.free_ok X G (c.d.fact 60 (f := .free "range") rfl)
  b_repr := He.free_ok X G (c.d.fact 61 (f := .free "repr") rfl)
  b_sorted := He.free_ok X G (c.d.fact 62 (f := .free "sorted") rfl)
  b_sum := He.free_ok X G (c.d.fact 63 (f := .free "sum") rfl)
  b_tuple := He.free_ok X G (c.d.fact 64 (f := .free "tuple") rfl)
  t_ascending := B_ascending
  i_gcd := bltB_ok X G (by have := c.more; simp only [exB, Bool.and_eq_true] at this; exact this.1.1.1)
  x_NoPlaces := ownB_ok X G (by have := c.more; simp only [exB, Bool.and_eq_true] at this; exact this.1.1.2)
  f_ascending := lamB_code X G (let ⟨fd, F⟩ := c.d.def_ 8 (d := d_ascending) rfl; ⟨_, fd, He.glo_ok X G (c.d.fact 8 (f := .glo "ascending") rfl), toFun F⟩) (by have := c.more; simp only [exB, Bool.and_eq_true] at this; exact this.1.2)
  hp := HPC
  hgl := (hp_addr (show hpB K 289 = true from (by have := c.more; simp only [exB, Bool.and_eq_true] at this; exact this.2))) ▸ He.glo_ok X G (c.d.fact 65 (f := .glo "Heap") rfl)
  ha := hp_all (show hpB K 289 = true from (by have := c.more; simp only [exB, Bool.and_eq_true] at this; exact this.2)) (c.d.fact 66 (f := .cls "Heap") rfl) (c.d.fact 67 (f := .noat "Heap" "_weights") rfl) (c.d.fact 68 (f := .mkr "Heap") rfl)
  m___init__ := let ⟨fd, F⟩ := c.d.def_ 48 (d := d_m___init__) rfl; hp_meth (show hpB K 289 = true from (by have := c.more; simp only [exB, Bool.and_eq_true] at this; exact this.2)) HPC (c.d.fact 69 (f := .meth "Heap" "__init__") rfl) rfl F
  m_rows := let ⟨fd, F⟩ := c.d.def_ 49 (d := d_m_rows) rfl; hp_meth (show hpB K 289 = true from (by have := c.more; simp only [exB, Bool.and_eq_true] at this; exact this.2)) HPC (c.d.fact 70 (f := .meth "Heap" "rows") rfl) rfl F
  m_weight := let ⟨fd, F⟩ := c.d.def_ 50 (d := d_m_weight) rfl; hp_meth (show hpB K 289 = true from (by have := c.more; simp only [exB, Bool.and_eq_true] at this; exact this.2)) HPC (c.d.fact 71 (f := .meth "Heap" "weight") rfl) rfl F
  m___len__ := let ⟨fd, F⟩ := c.d.def_ 51 (d := d_m___len__) rfl; hp_meth (show hpB K 289 = true from (by have := c.more; simp only [exB, Bool.and_eq_true] at this; exact this.2)) HPC (c.d.fact 72 (f := .meth "Heap" "__len__") rfl) rfl F
  m___eq__ := let ⟨fd, F⟩ := c.d.def_ 52 (d := d_m___eq__) rfl; hp_meth (show hpB K 289 = true from (by have := c.more; simp only [exB, Bool.and_eq_true] at this; exact this.2)) HPC (c.d.fact 73 (f := .meth "Heap" "__eq__") rfl) rfl F
  m___add__ := let ⟨fd, F⟩ := c.d.def_ 53 (d := d_m___add__) rfl; hp_meth (show hpB K 289 = true from (by have := c.more; simp only [exB, Bool.and_eq_true] at this; exact this.2)) HPC (c.d.fact 74 (f := .meth "Heap" "__add__") rfl) rfl F
  m___sub__ := let ⟨fd, F⟩ := c.d.def_ 54 (d := d_m___sub__) rfl; hp_meth (show hpB K 289 = true from (by have := c.more; simp only [exB, Bool.and_eq_true] at this; exact this.2)) HPC (c.d.fact 75 (f := .meth "Heap" "__sub__") rfl) rfl F
  m___mul__ := let ⟨fd, F⟩ := c.d.def_ 55 (d := d_m___mul__) rfl; hp_meth (show hpB K 289 = true from (by have := c.more; simp only [exB, Bool.and_eq_true] at this; exact this.2)) HPC (c.d.fact 76 (f := .meth "Heap" "__mul__") rfl) rfl F
  m___rmul__ := let ⟨fd, F⟩ := c.d.def_ 56 (d := d_m___rmul__) rfl; hp_meth (show hpB K 289 = true from (by have := c.more; simp only [exB, Bool.and_eq_true] at this; exact this.2)) HPC (c.d.fact 77 (f := .meth "Heap" "__rmul__") rfl) rfl F
  f__wall := let ⟨fd, F⟩ := c.d.def_ 0 (d := d__wall) rfl; ⟨_, fd, He.glo_ok X G (c.d.fact 0 (f := .glo "_wall") rfl), toFun F⟩
  f_is_number := let ⟨fd, F⟩ := c.d.def_ 1 (d := d_is_number) rfl; ⟨_, fd, He.glo_ok X G (c.d.fact 1 (f := .glo "is_number") rfl), toFun F⟩
  f_are_numbers := let ⟨fd, F⟩ := c.d.def_ 2 (d := d_are_numbers) rfl; ⟨_, fd, He.glo_ok X G (c.d.fact 2 (f := .glo "are_numbers") rfl), toFun F⟩
  f_copied := let ⟨fd, F⟩ := c.d.def_ 3 (d := d_copied) rfl; ⟨_, fd, He.glo_ok X G (c.d.fact 3 (f := .glo "copied") rfl), toFun F⟩
  f_is_place := let ⟨fd, F⟩ := c.d.def_ 4 (d := d_is_place) rfl; ⟨_, fd, He.glo_ok X G (c.d.fact 4 (f := .glo "is_place") rfl), toFun F⟩
  f_turn := let ⟨fd, F⟩ := c.d.def_ 5 (d := d_turn) rfl; ⟨_, fd, He.glo_ok X G (c.d.fact 5 (f := .glo "turn") rfl), toFun F⟩
  f_fineness := let ⟨fd, F⟩ := c.d.def_ 6 (d := d_fineness) rfl; ⟨_, fd, He.glo_ok X G (c.d.fact 6 (f := .glo "fineness") rfl), toFun F⟩
  f_place_key := let ⟨fd, F⟩ := c.d.def_ 7 (d := d_place_key) rfl; ⟨_, fd, He.glo_ok X G (c.d.fact 7 (f := .glo "place_key") rfl), toFun F⟩
  f_excess := let ⟨fd, F⟩ := c.d.def_ 9 (d := d_excess) rfl; ⟨_, fd, He.glo_ok X G (c.d.fact 9 (f := .glo "excess") rfl), toFun F⟩
  f_has := let ⟨fd, F⟩ := c.d.def_ 10 (d := d_has) rfl; ⟨_, fd, He.glo_ok X G (c.d.fact 10 (f := .glo "has") rfl), toFun F⟩
  f_facing := let ⟨fd, F⟩ := c.d.def_ 11 (d := d_facing) rfl; ⟨_, fd, He.glo_ok X G (c.d.fact 11 (f := .glo "facing") rfl), toFun F⟩
  f_left_turns := let ⟨fd, F⟩ := c.d.def_ 12 (d := d_left_turns) rfl; ⟨_, fd, He.glo_ok X G (c.d.fact 12 (f := .glo "left_turns") rfl), toFun F⟩
  f_hull := let ⟨fd, F⟩ := c.d.def_ 13 (d := d_hull) rfl; ⟨_, fd, He.glo_ok X G (c.d.fact 13 (f := .glo "hull") rfl), toFun F⟩
  f_is_plate := let ⟨fd, F⟩ := c.d.def_ 14 (d := d_is_plate) rfl; ⟨_, fd, He.glo_ok X G (c.d.fact 14 (f := .glo "is_plate") rfl), toFun F⟩
  f_is_met := let ⟨fd, F⟩ := c.d.def_ 15 (d := d_is_met) rfl; ⟨_, fd, He.glo_ok X G (c.d.fact 15 (f := .glo "is_met") rfl), toFun F⟩
  f_half_sum := let ⟨fd, F⟩ := c.d.def_ 16 (d := d_half_sum) rfl; ⟨_, fd, He.glo_ok X G (c.d.fact 16 (f := .glo "half_sum") rfl), toFun F⟩
  f_line_sum := let ⟨fd, F⟩ := c.d.def_ 17 (d := d_line_sum) rfl; ⟨_, fd, He.glo_ok X G (c.d.fact 17 (f := .glo "line_sum") rfl), toFun F⟩
  f_is_row := let ⟨fd, F⟩ := c.d.def_ 18 (d := d_is_row) rfl; ⟨_, fd, He.glo_ok X G (c.d.fact 18 (f := .glo "is_row") rfl), toFun F⟩
  f_plates_ascending := let ⟨fd, F⟩ := c.d.def_ 19 (d := d_plates_ascending) rfl; ⟨_, fd, He.glo_ok X G (c.d.fact 19 (f := .glo "plates_ascending") rfl), toFun F⟩
  f_added_weights := let ⟨fd, F⟩ := c.d.def_ 20 (d := d_added_weights) rfl; ⟨_, fd, He.glo_ok X G (c.d.fact 20 (f := .glo "added_weights") rfl), toFun F⟩
  f_summed := let ⟨fd, F⟩ := c.d.def_ 21 (d := d_summed) rfl; ⟨_, fd, He.glo_ok X G (c.d.fact 21 (f := .glo "summed") rfl), toFun F⟩
  f_l_open_cells := let ⟨fd, F⟩ := c.d.def_ 22 (d := d_l_open_cells) rfl; ⟨_, fd, He.glo_ok X G (c.d.fact 22 (f := .glo "_law_open_cells") rfl), toFun F⟩
  f_l_pick := let ⟨fd, F⟩ := c.d.def_ 23 (d := d_l_pick) rfl; ⟨_, fd, He.glo_ok X G (c.d.fact 23 (f := .glo "_law_pick") rfl), toFun F⟩
  f_l_any_order := let ⟨fd, F⟩ := c.d.def_ 24 (d := d_l_any_order) rfl; ⟨_, fd, He.glo_ok X G (c.d.fact 24 (f := .glo "_law_any_order") rfl), toFun F⟩
  f_l_common := let ⟨fd, F⟩ := c.d.def_ 25 (d := d_l_common) rfl; ⟨_, fd, He.glo_ok X G (c.d.fact 25 (f := .glo "_law_common") rfl), toFun F⟩
  f_l_place := let ⟨fd, F⟩ := c.d.def_ 26 (d := d_l_place) rfl; ⟨_, fd, He.glo_ok X G (c.d.fact 26 (f := .glo "_law_place") rfl), toFun F⟩
  f_l_direction := let ⟨fd, F⟩ := c.d.def_ 27 (d := d_l_direction) rfl; ⟨_, fd, He.glo_ok X G (c.d.fact 27 (f := .glo "_law_direction") rfl), toFun F⟩
  f_l_first := let ⟨fd, F⟩ := c.d.def_ 28 (d := d_l_first) rfl; ⟨_, fd, He.glo_ok X G (c.d.fact 28 (f := .glo "_law_first") rfl), toFun F⟩
  f_l_places := let ⟨fd, F⟩ := c.d.def_ 29 (d := d_l_places) rfl; ⟨_, fd, He.glo_ok X G (c.d.fact 29 (f := .glo "_law_places") rfl), toFun F⟩
  f_l_step := let ⟨fd, F⟩ := c.d.def_ 30 (d := d_l_step) rfl; ⟨_, fd, He.glo_ok X G (c.d.fact 30 (f := .glo "_law_step") rfl), toFun F⟩
  f_l_turn := let ⟨fd, F⟩ := c.d.def_ 31 (d := d_l_turn) rfl; ⟨_, fd, He.glo_ok X G (c.d.fact 31 (f := .glo "_law_turn") rfl), toFun F⟩
  f_l_chain := let ⟨fd, F⟩ := c.d.def_ 32 (d := d_l_chain) rfl; ⟨_, fd, He.glo_ok X G (c.d.fact 32 (f := .glo "_law_chain") rfl), toFun F⟩
  f_l_hull := let ⟨fd, F⟩ := c.d.def_ 33 (d := d_l_hull) rfl; ⟨_, fd, He.glo_ok X G (c.d.fact 33 (f := .glo "_law_hull") rfl), toFun F⟩
  f_l_half := let ⟨fd, F⟩ := c.d.def_ 34 (d := d_l_half) rfl; ⟨_, fd, He.glo_ok X G (c.d.fact 34 (f := .glo "_law_half") rfl), toFun F⟩
  f_l_meets := let ⟨fd, F⟩ := c.d.def_ 35 (d := d_l_meets) rfl; ⟨_, fd, He.glo_ok X G (c.d.fact 35 (f := .glo "_law_meets") rfl), toFun F⟩
  f_l_half_sum := let ⟨fd, F⟩ := c.d.def_ 36 (d := d_l_half_sum) rfl; ⟨_, fd, He.glo_ok X G (c.d.fact 36 (f := .glo "_law_half_sum") rfl), toFun F⟩
  f_l_side := let ⟨fd, F⟩ := c.d.def_ 37 (d := d_l_side) rfl; ⟨_, fd, He.glo_ok X G (c.d.fact 37 (f := .glo "_law_side") rfl), toFun F⟩
  f_l_ahead := let ⟨fd, F⟩ := c.d.def_ 38 (d := d_l_ahead) rfl; ⟨_, fd, He.glo_ok X G (c.d.fact 38 (f := .glo "_law_ahead") rfl), toFun F⟩
  f_l_round := let ⟨fd, F⟩ := c.d.def_ 39 (d := d_l_round) rfl; ⟨_, fd, He.glo_ok X G (c.d.fact 39 (f := .glo "_law_round") rfl), toFun F⟩
  f_l_across := let ⟨fd, F⟩ := c.d.def_ 40 (d := d_l_across) rfl; ⟨_, fd, He.glo_ok X G (c.d.fact 40 (f := .glo "_law_across") rfl), toFun F⟩
  f_l_draw_place := let ⟨fd, F⟩ := c.d.def_ 41 (d := d_l_draw_place) rfl; ⟨_, fd, He.glo_ok X G (c.d.fact 41 (f := .glo "_law_draw_place") rfl), toFun F⟩
  f_l_draw_pool := let ⟨fd, F⟩ := c.d.def_ 42 (d := d_l_draw_pool) rfl; ⟨_, fd, He.glo_ok X G (c.d.fact 42 (f := .glo "_law_draw_pool") rfl), toFun F⟩
  f_l_draw_plate := let ⟨fd, F⟩ := c.d.def_ 43 (d := d_l_draw_plate) rfl; ⟨_, fd, He.glo_ok X G (c.d.fact 43 (f := .glo "_law_draw_plate") rfl), toFun F⟩
  f_l_draw_rows := let ⟨fd, F⟩ := c.d.def_ 44 (d := d_l_draw_rows) rfl; ⟨_, fd, He.glo_ok X G (c.d.fact 44 (f := .glo "_law_draw_rows") rfl), toFun F⟩
  f_l_heap := let ⟨fd, F⟩ := c.d.def_ 45 (d := d_l_heap) rfl; ⟨_, fd, He.glo_ok X G (c.d.fact 45 (f := .glo "_law_heap") rfl), toFun F⟩
  f_l_draw_half := let ⟨fd, F⟩ := c.d.def_ 46 (d := d_l_draw_half) rfl; ⟨_, fd, He.glo_ok X G (c.d.fact 46 (f := .glo "_law_draw_half") rfl), toFun F⟩
  f_law := let ⟨fd, F⟩ := c.d.def_ 47 (d := d_law) rfl; ⟨_, fd, He.glo_ok X G (c.d.fact 47 (f := .glo "law") rfl), toFun F⟩
theorem Tx.hpk {K : PySem.W.Frag} {mg : Str → Option Value} {base : Heap} (T : Tx K mg base) : HpK K := fun C h => by rw [T.hp] at h; cases h; exact T.ha.c
theorem Tx.hpc {K : PySem.W.Frag} {mg : Str → Option Value} {base : Heap} (T : Tx K mg base) : ∃ C, hpCls = some C := ⟨_, T.hp⟩
theorem Tx.hpo {K : PySem.W.Frag} {mg : Str → Option Value} {base : Heap} (T : Tx K mg base) : ∃ C, hpCls = some C ∧ HpO K C := ⟨_, T.hp, T.ha.o⟩
theorem Tx.hpe {K : PySem.W.Frag} {mg : Str → Option Value} {base : Heap} (T : Tx K mg base) : ∃ C, hpCls = some C ∧ HpE K C := ⟨_, T.hp, T.ha.e⟩
theorem Tx.hpp {K : PySem.W.Frag} {mg : Str → Option Value} {base : Heap} (T : Tx K mg base) : ∃ C, hpCls = some C ∧ HpP K C := ⟨_, T.hp, T.ha.p⟩
theorem Tx.hpm {K : PySem.W.Frag} {mg : Str → Option Value} {base : Heap} (T : Tx K mg base) : ∃ C, hpCls = some C ∧ mg "Heap" = some (.ref C) ∧ HpN K C := ⟨_, T.hp, T.hgl, T.ha.n⟩
theorem Tx.hpi {K : PySem.W.Frag} {mg : Str → Option Value} {base : Heap} (T : Tx K mg base) : ∃ C, hpCls = some C ∧ mg "Heap" = some (.ref C) ∧ kitNo K C := ⟨_, T.hp, T.hgl, T.ha.k⟩
abbrev N__wall : List Str := ["k"]
theorem sc__wall : FnScope ["k"] ["k"] (defScope s__wall) := ⟨rfl, rfl, rfl, by decide +kernel, rfl, by decide +kernel, by decide +kernel⟩
theorem bn__wall : BindOk "_wall" ["k"] s__wall := fun _ _ _ _ _ _ us hl => match us, hl with | [_], _ => rfl
abbrev N_is_number : List Str := ["value"]
theorem sc_is_number : FnScope ["value"] ["value"] (defScope s_is_number) := ⟨rfl, rfl, rfl, by decide +kernel, rfl, by decide +kernel, by decide +kernel⟩
theorem bn_is_number : BindOk "is_number" ["value"] s_is_number := fun _ _ _ _ _ _ us hl => match us, hl with | [_], _ => rfl
abbrev N_are_numbers : List Str := ["value", "many", "part"]
theorem sc_are_numbers : FnScope ["value", "many", "part"] ["value", "many"] (defScope s_are_numbers) := ⟨rfl, rfl, rfl, by decide +kernel, rfl, by decide +kernel, by decide +kernel⟩
theorem bn_are_numbers : BindOk "are_numbers" ["value", "many"] s_are_numbers := fun _ _ _ _ _ _ us hl => match us, hl with | [_, _], _ => rfl
abbrev N_copied : List Str := ["value", "part", "key"]
theorem sc_copied : FnScope ["value", "part", "key"] ["value"] (defScope s_copied) := ⟨rfl, rfl, rfl, by decide +kernel, rfl, by decide +kernel, by decide +kernel⟩
theorem bn_copied : BindOk "copied" ["value"] s_copied := fun _ _ _ _ _ _ us hl => match us, hl with | [_], _ => rfl
abbrev N_is_place : List Str := ["value"]
theorem sc_is_place : FnScope ["value"] ["value"] (defScope s_is_place) := ⟨rfl, rfl, rfl, by decide +kernel, rfl, by decide +kernel, by decide +kernel⟩
theorem bn_is_place : BindOk "is_place" ["value"] s_is_place := fun _ _ _ _ _ _ us hl => match us, hl with | [_], _ => rfl
abbrev N_turn : List Str := ["p", "q", "r", "across", "along", "left"]
theorem sc_turn : FnScope ["p", "q", "r", "across", "along", "left"] ["p", "q", "r"] (defScope s_turn) := ⟨rfl, rfl, rfl, by decide +kernel, rfl, by decide +kernel, by decide +kernel⟩
theorem bn_turn : BindOk "turn" ["p", "q", "r"] s_turn := fun _ _ _ _ _ _ us hl => match us, hl with | [_, _, _], _ => rfl
abbrev N_fineness : List Str := ["places", "greatest", "p"]
theorem sc_fineness : FnScope ["places", "greatest", "p"] ["places"] (defScope s_fineness) := ⟨rfl, rfl, rfl, by decide +kernel, rfl, by decide +kernel, by decide +kernel⟩
theorem bn_fineness : BindOk "fineness" ["places"] s_fineness := fun _ _ _ _ _ _ us hl => match us, hl with | [_], _ => rfl
abbrev N_place_key : List Str := ["p", "fine"]
theorem sc_place_key : FnScope ["p", "fine"] ["p", "fine"] (defScope s_place_key) := ⟨rfl, rfl, rfl, by decide +kernel, rfl, by decide +kernel, by decide +kernel⟩
theorem bn_place_key : BindOk "place_key" ["p", "fine"] s_place_key := fun _ _ _ _ _ _ us hl => match us, hl with | [_, _], _ => rfl
abbrev N_ascending : List Str := ["places", "fine"]
theorem sc_ascending : FnScope ["places", "fine"] ["places"] (defScope s_ascending) := ⟨rfl, rfl, rfl, by decide +kernel, rfl, by decide +kernel, by decide +kernel⟩
theorem bn_ascending : BindOk "ascending" ["places"] s_ascending := fun _ _ _ _ _ _ us hl => match us, hl with | [_], _ => rfl
abbrev N_excess : List Str := ["plane", "p"]
theorem sc_excess : FnScope ["plane", "p"] ["plane", "p"] (defScope s_excess) := ⟨rfl, rfl, rfl, by decide +kernel, rfl, by decide +kernel, by decide +kernel⟩
theorem bn_excess : BindOk "excess" ["plane", "p"] s_excess := fun _ _ _ _ _ _ us hl => match us, hl with | [_, _], _ => rfl
abbrev N_has : List Str := ["plane", "p"]
theorem sc_has : FnScope ["plane", "p"] ["plane", "p"] (defScope s_has) := ⟨rfl, rfl, rfl, by decide +kernel, rfl, by decide +kernel, by decide +kernel⟩
theorem bn_has : BindOk "has" ["plane", "p"] s_has := fun _ _ _ _ _ _ us hl => match us, hl with | [_, _], _ => rfl
abbrev N_facing : List Str := ["plane"]
theorem sc_facing : FnScope ["plane"] ["plane"] (defScope s_facing) := ⟨rfl, rfl, rfl, by decide +kernel, rfl, by decide +kernel, by decide +kernel⟩
theorem bn_facing : BindOk "facing" ["plane"] s_facing := fun _ _ _ _ _ _ us hl => match us, hl with | [_], _ => rfl
abbrev N_left_turns : List Str := ["row", "path", "p"]
theorem sc_left_turns : FnScope ["row", "path", "p"] ["row"] (defScope s_left_turns) := ⟨rfl, rfl, rfl, by decide +kernel, rfl, by decide +kernel, by decide +kernel⟩
theorem bn_left_turns : BindOk "left_turns" ["row"] s_left_turns := fun _ _ _ _ _ _ us hl => match us, hl with | [_], _ => rfl
abbrev N_hull : List Str := ["places", "row", "once", "k", "p"]
theorem sc_hull : FnScope ["places", "row", "once", "k", "p"] ["places"] (defScope s_hull) := ⟨rfl, rfl, rfl, by decide +kernel, rfl, by decide +kernel, by decide +kernel⟩
theorem bn_hull : BindOk "hull" ["places"] s_hull := fun _ _ _ _ _ _ us hl => match us, hl with | [_], _ => rfl
abbrev N_is_plate : List Str := ["value", "part"]
theorem sc_is_plate : FnScope ["value", "part"] ["value"] (defScope s_is_plate) := ⟨rfl, rfl, rfl, by decide +kernel, rfl, by decide +kernel, by decide +kernel⟩
theorem bn_is_plate : BindOk "is_plate" ["value"] s_is_plate := fun _ _ _ _ _ _ us hl => match us, hl with | [_], _ => rfl
abbrev N_is_met : List Str := ["plate", "plane", "p"]
theorem sc_is_met : FnScope ["plate", "plane", "p"] ["plate", "plane"] (defScope s_is_met) := ⟨rfl, rfl, rfl, by decide +kernel, rfl, by decide +kernel, by decide +kernel⟩
theorem bn_is_met : BindOk "is_met" ["plate", "plane"] s_is_met := fun _ _ _ _ _ _ us hl => match us, hl with | [_, _], _ => rfl
abbrev N_half_sum : List Str := ["heap", "plane", "plate", "weight"]
theorem sc_half_sum : FnScope ["heap", "plane", "plate", "weight"] ["heap", "plane"] (defScope s_half_sum) := ⟨rfl, rfl, rfl, by decide +kernel, rfl, by decide +kernel, by decide +kernel⟩
theorem bn_half_sum : BindOk "half_sum" ["heap", "plane"] s_half_sum := fun _ _ _ _ _ _ us hl => match us, hl with | [_, _], _ => rfl
abbrev N_line_sum : List Str := ["heap", "plane", "beyond", "plate", "weight"]
theorem sc_line_sum : FnScope ["heap", "plane", "beyond", "plate", "weight"] ["heap", "plane"] (defScope s_line_sum) := ⟨rfl, rfl, rfl, by decide +kernel, rfl, by decide +kernel, by decide +kernel⟩
theorem bn_line_sum : BindOk "line_sum" ["heap", "plane"] s_line_sum := fun _ _ _ _ _ _ us hl => match us, hl with | [_, _], _ => rfl
abbrev N_is_row : List Str := ["value"]
theorem sc_is_row : FnScope ["value"] ["value"] (defScope s_is_row) := ⟨rfl, rfl, rfl, by decide +kernel, rfl, by decide +kernel, by decide +kernel⟩
theorem bn_is_row : BindOk "is_row" ["value"] s_is_row := fun _ _ _ _ _ _ us hl => match us, hl with | [_], _ => rfl
abbrev N_plates_ascending : List Str := ["plates", "fine", "keyed", "plate", "key", "p"]
theorem sc_plates_ascending : FnScope ["plates", "fine", "keyed", "plate", "key", "p"] ["plates"] (defScope s_plates_ascending) := ⟨rfl, rfl, rfl, by decide +kernel, rfl, by decide +kernel, by decide +kernel⟩
theorem bn_plates_ascending : BindOk "plates_ascending" ["plates"] s_plates_ascending := fun _ _ _ _ _ _ us hl => match us, hl with | [_], _ => rfl
abbrev N_added_weights : List Str := ["rows", "sums", "plate", "weight", "kept"]
theorem sc_added_weights : FnScope ["rows", "sums", "plate", "weight", "kept"] ["rows"] (defScope s_added_weights) := ⟨rfl, rfl, rfl, by decide +kernel, rfl, by decide +kernel, by decide +kernel⟩
theorem bn_added_weights : BindOk "added_weights" ["rows"] s_added_weights := fun _ _ _ _ _ _ us hl => match us, hl with | [_], _ => rfl
abbrev N_summed : List Str := ["rows", "made"]
theorem sc_summed : FnScope ["rows", "made"] ["rows"] (defScope s_summed) := ⟨rfl, rfl, rfl, by decide +kernel, rfl, by decide +kernel, by decide +kernel⟩
theorem bn_summed : BindOk "summed" ["rows"] s_summed := fun _ _ _ _ _ _ us hl => match us, hl with | [_], _ => rfl
abbrev N_l_open_cells : List Str := ["_law_script", "_law_mixed", "_law_cell", "_law_digits"]
theorem sc_l_open_cells : FnScope ["_law_script", "_law_mixed", "_law_cell", "_law_digits"] ["_law_script"] (defScope s_l_open_cells) := ⟨rfl, rfl, rfl, by decide +kernel, rfl, by decide +kernel, by decide +kernel⟩
theorem bn_l_open_cells : BindOk "_law_open_cells" ["_law_script"] s_l_open_cells := fun _ _ _ _ _ _ us hl => match us, hl with | [_], _ => rfl
abbrev N_l_pick : List Str := ["_law_source", "_law_most", "_law_digits", "_law_left", "_law_laps", "_law_mixed"]
theorem sc_l_pick : FnScope ["_law_source", "_law_most", "_law_digits", "_law_left", "_law_laps", "_law_mixed"] ["_law_source", "_law_most"] (defScope s_l_pick) := ⟨rfl, rfl, rfl, by decide +kernel, rfl, by decide +kernel, by decide +kernel⟩
theorem bn_l_pick : BindOk "_law_pick" ["_law_source", "_law_most"] s_l_pick := fun _ _ _ _ _ _ us hl => match us, hl with | [_, _], _ => rfl
abbrev N_l_any_order : List Str := ["_law_source", "_law_things", "_law_rest", "_law_lap"]
theorem sc_l_any_order : FnScope ["_law_source", "_law_things", "_law_rest", "_law_lap"] ["_law_source", "_law_things"] (defScope s_l_any_order) := ⟨rfl, rfl, rfl, by decide +kernel, rfl, by decide +kernel, by decide +kernel⟩
theorem bn_l_any_order : BindOk "_law_any_order" ["_law_source", "_law_things"] s_l_any_order := fun _ _ _ _ _ _ us hl => match us, hl with | [_, _], _ => rfl
abbrev N_l_common : List Str := ["_law_a", "_law_b"]
theorem sc_l_common : FnScope ["_law_a", "_law_b"] ["_law_a", "_law_b"] (defScope s_l_common) := ⟨rfl, rfl, rfl, by decide +kernel, rfl, by decide +kernel, by decide +kernel⟩
theorem bn_l_common : BindOk "_law_common" ["_law_a", "_law_b"] s_l_common := fun _ _ _ _ _ _ us hl => match us, hl with | [_, _], _ => rfl
abbrev N_l_place : List Str := ["_law_x", "_law_y", "_law_d", "_law_n"]
theorem sc_l_place : FnScope ["_law_x", "_law_y", "_law_d", "_law_n"] ["_law_x", "_law_y", "_law_d"] (defScope s_l_place) := ⟨rfl, rfl, rfl, by decide +kernel, rfl, by decide +kernel, by decide +kernel⟩
theorem bn_l_place : BindOk "_law_place" ["_law_x", "_law_y", "_law_d"] s_l_place := fun _ _ _ _ _ _ us hl => match us, hl with | [_, _, _], _ => rfl
abbrev N_l_direction : List Str := ["_law_a", "_law_b", "_law_n"]
theorem sc_l_direction : FnScope ["_law_a", "_law_b", "_law_n"] ["_law_a", "_law_b"] (defScope s_l_direction) := ⟨rfl, rfl, rfl, by decide +kernel, rfl, by decide +kernel, by decide +kernel⟩
theorem bn_l_direction : BindOk "_law_direction" ["_law_a", "_law_b"] s_l_direction := fun _ _ _ _ _ _ us hl => match us, hl with | [_, _], _ => rfl
abbrev N_l_first : List Str := ["_law_p", "_law_q"]
theorem sc_l_first : FnScope ["_law_p", "_law_q"] ["_law_p", "_law_q"] (defScope s_l_first) := ⟨rfl, rfl, rfl, by decide +kernel, rfl, by decide +kernel, by decide +kernel⟩
theorem bn_l_first : BindOk "_law_first" ["_law_p", "_law_q"] s_l_first := fun _ _ _ _ _ _ us hl => match us, hl with | [_, _], _ => rfl
abbrev N_l_places : List Str := ["_law_places_here", "_law_found", "_law_p", "_law_ahead_here", "_law_q"]
theorem sc_l_places : FnScope ["_law_places_here", "_law_found", "_law_p", "_law_ahead_here", "_law_q"] ["_law_places_here"] (defScope s_l_places) := ⟨rfl, rfl, rfl, by decide +kernel, rfl, by decide +kernel, by decide +kernel⟩
theorem bn_l_places : BindOk "_law_places" ["_law_places_here"] s_l_places := fun _ _ _ _ _ _ us hl => match us, hl with | [_], _ => rfl
abbrev N_l_step : List Str := ["_law_p", "_law_q"]
theorem sc_l_step : FnScope ["_law_p", "_law_q"] ["_law_p", "_law_q"] (defScope s_l_step) := ⟨rfl, rfl, rfl, by decide +kernel, rfl, by decide +kernel, by decide +kernel⟩
theorem bn_l_step : BindOk "_law_step" ["_law_p", "_law_q"] s_l_step := fun _ _ _ _ _ _ us hl => match us, hl with | [_, _], _ => rfl
abbrev N_l_turn : List Str := ["_law_p", "_law_q", "_law_r", "_law_one", "_law_other", "_law_n"]
theorem sc_l_turn : FnScope ["_law_p", "_law_q", "_law_r", "_law_one", "_law_other", "_law_n"] ["_law_p", "_law_q", "_law_r"] (defScope s_l_turn) := ⟨rfl, rfl, rfl, by decide +kernel, rfl, by decide +kernel, by decide +kernel⟩
theorem bn_l_turn : BindOk "_law_turn" ["_law_p", "_law_q", "_law_r"] s_l_turn := fun _ _ _ _ _ _ us hl => match us, hl with | [_, _, _], _ => rfl
abbrev N_l_chain : List Str := ["_law_places_here", "_law_found", "_law_p"]
theorem sc_l_chain : FnScope ["_law_places_here", "_law_found", "_law_p"] ["_law_places_here"] (defScope s_l_chain) := ⟨rfl, rfl, rfl, by decide +kernel, rfl, by decide +kernel, by decide +kernel⟩
theorem bn_l_chain : BindOk "_law_chain" ["_law_places_here"] s_l_chain := fun _ _ _ _ _ _ us hl => match us, hl with | [_], _ => rfl
abbrev N_l_hull : List Str := ["_law_places_here", "_law_every"]
theorem sc_l_hull : FnScope ["_law_places_here", "_law_every"] ["_law_places_here"] (defScope s_l_hull) := ⟨rfl, rfl, rfl, by decide +kernel, rfl, by decide +kernel, by decide +kernel⟩
theorem bn_l_hull : BindOk "_law_hull" ["_law_places_here"] s_l_hull := fun _ _ _ _ _ _ us hl => match us, hl with | [_], _ => rfl
abbrev N_l_half : List Str := ["_law_u", "_law_p", "_law_a", "_law_b", "_law_c", "_law_n"]
theorem sc_l_half : FnScope ["_law_u", "_law_p", "_law_a", "_law_b", "_law_c", "_law_n"] ["_law_u", "_law_p"] (defScope s_l_half) := ⟨rfl, rfl, rfl, by decide +kernel, rfl, by decide +kernel, by decide +kernel⟩
theorem bn_l_half : BindOk "_law_half" ["_law_u", "_law_p"] s_l_half := fun _ _ _ _ _ _ us hl => match us, hl with | [_, _], _ => rfl
abbrev N_l_meets : List Str := ["_law_plate", "_law_edge", "_law_p"]
theorem sc_l_meets : FnScope ["_law_plate", "_law_edge", "_law_p"] ["_law_plate", "_law_edge"] (defScope s_l_meets) := ⟨rfl, rfl, rfl, by decide +kernel, rfl, by decide +kernel, by decide +kernel⟩
theorem bn_l_meets : BindOk "_law_meets" ["_law_plate", "_law_edge"] s_l_meets := fun _ _ _ _ _ _ us hl => match us, hl with | [_, _], _ => rfl
abbrev N_l_half_sum : List Str := ["_law_rows", "_law_edge", "_law_plate", "_law_weight"]
theorem sc_l_half_sum : FnScope ["_law_rows", "_law_edge", "_law_plate", "_law_weight"] ["_law_rows", "_law_edge"] (defScope s_l_half_sum) := ⟨rfl, rfl, rfl, by decide +kernel, rfl, by decide +kernel, by decide +kernel⟩
theorem bn_l_half_sum : BindOk "_law_half_sum" ["_law_rows", "_law_edge"] s_l_half_sum := fun _ _ _ _ _ _ us hl => match us, hl with | [_, _], _ => rfl
abbrev N_l_side : List Str := ["_law_u"]
theorem sc_l_side : FnScope ["_law_u"] ["_law_u"] (defScope s_l_side) := ⟨rfl, rfl, rfl, by decide +kernel, rfl, by decide +kernel, by decide +kernel⟩
theorem bn_l_side : BindOk "_law_side" ["_law_u"] s_l_side := fun _ _ _ _ _ _ us hl => match us, hl with | [_], _ => rfl
abbrev N_l_ahead : List Str := ["_law_u", "_law_v"]
theorem sc_l_ahead : FnScope ["_law_u", "_law_v"] ["_law_u", "_law_v"] (defScope s_l_ahead) := ⟨rfl, rfl, rfl, by decide +kernel, rfl, by decide +kernel, by decide +kernel⟩
theorem bn_l_ahead : BindOk "_law_ahead" ["_law_u", "_law_v"] s_l_ahead := fun _ _ _ _ _ _ us hl => match us, hl with | [_, _], _ => rfl
abbrev N_l_round : List Str := ["_law_directions", "_law_found", "_law_u", "_law_ahead_here", "_law_v"]
theorem sc_l_round : FnScope ["_law_directions", "_law_found", "_law_u", "_law_ahead_here", "_law_v"] ["_law_directions"] (defScope s_l_round) := ⟨rfl, rfl, rfl, by decide +kernel, rfl, by decide +kernel, by decide +kernel⟩
theorem bn_l_round : BindOk "_law_round" ["_law_directions"] s_l_round := fun _ _ _ _ _ _ us hl => match us, hl with | [_], _ => rfl
abbrev N_l_across : List Str := ["_law_places_here", "_law_found", "_law_p", "_law_q", "_law_a", "_law_b"]
theorem sc_l_across : FnScope ["_law_places_here", "_law_found", "_law_p", "_law_q", "_law_a", "_law_b"] ["_law_places_here"] (defScope s_l_across) := ⟨rfl, rfl, rfl, by decide +kernel, rfl, by decide +kernel, by decide +kernel⟩
theorem bn_l_across : BindOk "_law_across" ["_law_places_here"] s_l_across := fun _ _ _ _ _ _ us hl => match us, hl with | [_], _ => rfl
abbrev N_l_draw_place : List Str := ["_law_source", "_law_wide", "_law_d"]
theorem sc_l_draw_place : FnScope ["_law_source", "_law_wide", "_law_d"] ["_law_source", "_law_wide"] (defScope s_l_draw_place) := ⟨rfl, rfl, rfl, by decide +kernel, rfl, by decide +kernel, by decide +kernel⟩
theorem bn_l_draw_place : BindOk "_law_draw_place" ["_law_source", "_law_wide"] s_l_draw_place := fun _ _ _ _ _ _ us hl => match us, hl with | [_, _], _ => rfl
abbrev N_l_draw_pool : List Str := ["_law_source", "_law_many", "_law_wide", "_law_lap"]
theorem sc_l_draw_pool : FnScope ["_law_source", "_law_many", "_law_wide", "_law_lap"] ["_law_source", "_law_many", "_law_wide"] (defScope s_l_draw_pool) := ⟨rfl, rfl, rfl, by decide +kernel, rfl, by decide +kernel, by decide +kernel⟩
theorem bn_l_draw_pool : BindOk "_law_draw_pool" ["_law_source", "_law_many", "_law_wide"] s_l_draw_pool := fun _ _ _ _ _ _ us hl => match us, hl with | [_, _, _], _ => rfl
abbrev N_l_draw_plate : List Str := ["_law_source", "_law_pool", "_law_lap"]
theorem sc_l_draw_plate : FnScope ["_law_source", "_law_pool", "_law_lap"] ["_law_source", "_law_pool"] (defScope s_l_draw_plate) := ⟨rfl, rfl, rfl, by decide +kernel, rfl, by decide +kernel, by decide +kernel⟩
theorem bn_l_draw_plate : BindOk "_law_draw_plate" ["_law_source", "_law_pool"] s_l_draw_plate := fun _ _ _ _ _ _ us hl => match us, hl with | [_, _], _ => rfl
abbrev N_l_draw_rows : List Str := ["_law_source", "_law_pool", "_law_most", "_law_found", "_law_lap", "_law_weight"]
theorem sc_l_draw_rows : FnScope ["_law_source", "_law_pool", "_law_most", "_law_found", "_law_lap", "_law_weight"] ["_law_source", "_law_pool", "_law_most"] (defScope s_l_draw_rows) := ⟨rfl, rfl, rfl, by decide +kernel, rfl, by decide +kernel, by decide +kernel⟩
theorem bn_l_draw_rows : BindOk "_law_draw_rows" ["_law_source", "_law_pool", "_law_most"] s_l_draw_rows := fun _ _ _ _ _ _ us hl => match us, hl with | [_, _, _], _ => rfl
abbrev N_l_heap : List Str := ["_law_source", "_law_rows", "_law_told", "_law_road", "_law_more"]
theorem sc_l_heap : FnScope ["_law_source", "_law_rows", "_law_told", "_law_road", "_law_more"] ["_law_source", "_law_rows"] (defScope s_l_heap) := ⟨rfl, rfl, rfl, by decide +kernel, rfl, by decide +kernel, by decide +kernel⟩
theorem bn_l_heap : BindOk "_law_heap" ["_law_source", "_law_rows"] s_l_heap := fun _ _ _ _ _ _ us hl => match us, hl with | [_, _], _ => rfl
abbrev N_l_draw_half : List Str := ["_law_source", "_law_rows", "_law_pool", "_law_u", "_law_ways", "_law_spots"]
theorem sc_l_draw_half : FnScope ["_law_source", "_law_rows", "_law_pool", "_law_u", "_law_ways", "_law_spots"] ["_law_source", "_law_rows", "_law_pool"] (defScope s_l_draw_half) := ⟨rfl, rfl, rfl, by decide +kernel, rfl, by decide +kernel, by decide +kernel⟩
theorem bn_l_draw_half : BindOk "_law_draw_half" ["_law_source", "_law_rows", "_law_pool"] s_l_draw_half := fun _ _ _ _ _ _ us hl => match us, hl with | [_, _, _], _ => rfl
abbrev N_law : List Str := ["_law_script", "_law_source", "_law_lap", "_law_pool", "_law_rows", "_law_heap_here", "_law_total", "_law_held", "_law_turn_here", "_law_half_here", "_law_back", "_law_due", "_law_rest", "_law_line", "_law_plate", "_law_weight"]
theorem sc_law : FnScope ["_law_script", "_law_source", "_law_lap", "_law_pool", "_law_rows", "_law_heap_here", "_law_total", "_law_held", "_law_turn_here", "_law_half_here", "_law_back", "_law_due", "_law_rest", "_law_line", "_law_plate", "_law_weight"] ["_law_script"] (defScope s_law) := ⟨rfl, rfl, rfl, by decide +kernel, rfl, by decide +kernel, by decide +kernel⟩
theorem bn_law : BindOk "law" ["_law_script"] s_law := fun _ _ _ _ _ _ us hl => match us, hl with | [_], _ => rfl
abbrev N_m___init__ : List Str := ["self", "rows", "number", "row"]
theorem sc_m___init__ : FnScope ["self", "rows", "number", "row"] ["self", "rows"] (defScope s_m___init__) := ⟨rfl, rfl, rfl, by decide +kernel, rfl, by decide +kernel, by decide +kernel⟩
theorem bn_m___init__ : BindM "__init__" "Heap.__init__" ["self", "rows"] s_m___init__ := fun _ _ _ _ _ _ us hl => match us, hl with | [_, _], _ => rfl
abbrev N_m_rows : List Str := ["self", "plate"]
theorem sc_m_rows : FnScope ["self", "plate"] ["self"] (defScope s_m_rows) := ⟨rfl, rfl, rfl, by decide +kernel, rfl, by decide +kernel, by decide +kernel⟩
theorem bn_m_rows : BindM "rows" "Heap.rows" ["self"] s_m_rows := fun _ _ _ _ _ _ us hl => match us, hl with | [_], _ => rfl
abbrev N_m_weight : List Str := ["self", "plate"]
theorem sc_m_weight : FnScope ["self", "plate"] ["self", "plate"] (defScope s_m_weight) := ⟨rfl, rfl, rfl, by decide +kernel, rfl, by decide +kernel, by decide +kernel⟩
theorem bn_m_weight : BindM "weight" "Heap.weight" ["self", "plate"] s_m_weight := fun _ _ _ _ _ _ us hl => match us, hl with | [_, _], _ => rfl
abbrev N_m___len__ : List Str := ["self"]
theorem sc_m___len__ : FnScope ["self"] ["self"] (defScope s_m___len__) := ⟨rfl, rfl, rfl, by decide +kernel, rfl, by decide +kernel, by decide +kernel⟩
theorem bn_m___len__ : BindM "__len__" "Heap.__len__" ["self"] s_m___len__ := fun _ _ _ _ _ _ us hl => match us, hl with | [_], _ => rfl
abbrev N_m___eq__ : List Str := ["self", "other"]
theorem sc_m___eq__ : FnScope ["self", "other"] ["self", "other"] (defScope s_m___eq__) := ⟨rfl, rfl, rfl, by decide +kernel, rfl, by decide +kernel, by decide +kernel⟩
theorem bn_m___eq__ : BindM "__eq__" "Heap.__eq__" ["self", "other"] s_m___eq__ := fun _ _ _ _ _ _ us hl => match us, hl with | [_, _], _ => rfl
abbrev N_m___add__ : List Str := ["self", "other"]
theorem sc_m___add__ : FnScope ["self", "other"] ["self", "other"] (defScope s_m___add__) := ⟨rfl, rfl, rfl, by decide +kernel, rfl, by decide +kernel, by decide +kernel⟩
theorem bn_m___add__ : BindM "__add__" "Heap.__add__" ["self", "other"] s_m___add__ := fun _ _ _ _ _ _ us hl => match us, hl with | [_, _], _ => rfl
abbrev N_m___sub__ : List Str := ["self", "other", "plate", "weight"]
theorem sc_m___sub__ : FnScope ["self", "other", "plate", "weight"] ["self", "other"] (defScope s_m___sub__) := ⟨rfl, rfl, rfl, by decide +kernel, rfl, by decide +kernel, by decide +kernel⟩
theorem bn_m___sub__ : BindM "__sub__" "Heap.__sub__" ["self", "other"] s_m___sub__ := fun _ _ _ _ _ _ us hl => match us, hl with | [_, _], _ => rfl
abbrev N_m___mul__ : List Str := ["self", "n", "plate", "weight"]
theorem sc_m___mul__ : FnScope ["self", "n", "plate", "weight"] ["self", "n"] (defScope s_m___mul__) := ⟨rfl, rfl, rfl, by decide +kernel, rfl, by decide +kernel, by decide +kernel⟩
theorem bn_m___mul__ : BindM "__mul__" "Heap.__mul__" ["self", "n"] s_m___mul__ := fun _ _ _ _ _ _ us hl => match us, hl with | [_, _], _ => rfl
abbrev N_m___rmul__ : List Str := ["self", "n"]
theorem sc_m___rmul__ : FnScope ["self", "n"] ["self", "n"] (defScope s_m___rmul__) := ⟨rfl, rfl, rfl, by decide +kernel, rfl, by decide +kernel, by decide +kernel⟩
theorem bn_m___rmul__ : BindM "__rmul__" "Heap.__rmul__" ["self", "n"] s_m___rmul__ := fun _ _ _ _ _ _ us hl => match us, hl with | [_, _], _ => rfl
section
variable {P : Program} {w : World} {K : PySem.W.Frag} {mg : Str → Option Value} {base : Heap}
theorem ok_is_number (T : Tx K mg base) : DefOk P w K mg base 1 "is_number" ["value"] spIsNum := by
  refine defOk T.f_is_number sc_is_number bn_is_number (fun f cdv A outer s H hr hg => (pss_d1 (psd_ret (pd_and (pd_isi kit_int T.hpk.int (fun _ => rfl) rfl T.b_isinstance (by decide +kernel) rfl T.b_int (by decide +kernel) (pd_var 0)) (pd_one (pd_not (pd_isi kit_bool T.hpk.bool (fun _ => rfl) rfl T.b_isinstance (by decide +kernel) rfl T.b_bool (by decide +kernel) (pd_var 0)))))))) ?_
  rintro ds Qd _ ⟨d, rfl, h⟩
  simp only [dSeq, dNext, dRet, dIf, dDrop, dAsg, dgName, dgNil, dgCons, dgTup, dPar, dPar3, dOwn, dApp, dFrz, dVar, dC, dOp, dI, dI0, dB0, dNeg, dTup, dLst, dBoolT, dAndT, dOrT, dNotT, dAndV, dOrV, dNotV, dIfE, dCall, dCall0, dB, dIsi, dRepr, dAbs, dInt1, dInt2, dAll, dstart, dwipe, clean, Sl.clean, List.map_cons, List.map_nil, List.length_cons, List.length_nil, List.replicate, List.cons_append, List.nil_append, List.set_cons_zero, List.set_cons_succ, List.getElem?_cons_zero, List.getElem?_cons_succ, Nat.reduceAdd, Nat.reduceSub, Nat.add_zero, Nat.zero_add, Nat.add_sub_cancel, Nat.sub_self, atI_0, atI_1, atI_2, atI_3, dLtI, dLeI, dGtI, dGeI, dSub, dFd, dMod, dPow, eAdd_i, eAdd_l, eMul_i, eMul_l, eIx_l, eIx_t, eLen_l, eLen_t, eInt_i, eInt_b, eEq_i, eNe_i, eEq_e]
  cases d <;> simpa [isTy, tyN, isNum] using h
theorem ok_are_numbers (T : Tx K mg base) : DefOk P w K mg base 2 "are_numbers" ["value", "many"] spAreNum := by
  refine defOk T.f_are_numbers sc_are_numbers bn_are_numbers (fun f cdv A outer s H hr hg => (pss_dc (psd_if (pdt_w (pdw_or (pdt_not (pdt_val (pd_isi kit_tuple T.hpk.tuple (fun _ => rfl) rfl T.b_isinstance (by decide +kernel) rfl T.b_tuple (by decide +kernel) (pd_var 0)))) (pdw_or1 (pdt_ne hr.units (pd_blt call_len lc_len rfl T.b_len (by decide +kernel) (pda_cons (pd_var 0) pda_nil)) (pd_var 1))))) (pss_d1 (psd_ret pd_bl)) pss_d0)
      (pss_d1 (psd_ret (pd_blt (cr_all rfl) lc_all rfl T.b_all (by decide +kernel) (pda_cons (pd_new (pdn_lc (own := [("part", 2)]) rfl sc_are_numbers.nd (pdi_tup (pd_var 0)) (blk (N := N_are_numbers) (sc := defScope s_are_numbers) (by decide +kernel)) (fun _ _ _ _ _ => pg_name sc_are_numbers.nd rfl (Or.inl rfl)) (lg_name 2) (sets_name (by decide)) (fun _ _ _ _ _ => (pd_fn (ok_is_number T) hr (by decide) hg (pda_cons (pd_var 2) pda_nil))))) pda_nil)))))) ?_
  rintro ds Qd _ ⟨d, n, rfl, hd, h⟩
  simp only [dSeq, dNext, dRet, dIf, dDrop, dAsg, dgName, dgNil, dgCons, dgTup, dPar, dPar3, dOwn, dApp, dFrz, dVar, dC, dOp, dI, dI0, dB0, dNeg, dTup, dLst, dBoolT, dAndT, dOrT, dNotT, dAndV, dOrV, dNotV, dIfE, dCall, dCall0, dB, dIsi, dRepr, dAbs, dInt1, dInt2, dAll, dstart, dwipe, clean, Sl.clean, List.map_cons, List.map_nil, List.length_cons, List.length_nil, List.replicate, List.cons_append, List.nil_append, List.set_cons_zero, List.set_cons_succ, List.getElem?_cons_zero, List.getElem?_cons_succ, Nat.reduceAdd, Nat.reduceSub, Nat.add_zero, Nat.zero_add, Nat.add_sub_cancel, Nat.sub_self, atI_0, atI_1, atI_2, atI_3, dLtI, dLeI, dGtI, dGeI, dSub, dFd, dMod, dPow, eAdd_i, eAdd_l, eMul_i, eMul_l, eIx_l, eIx_t, eLen_l, eLen_t, eInt_i, eInt_b, eEq_i, eNe_i, eEq_e]
  cases d with
  | tuple xs =>
    simp only [isTy, tyN, eLen_t, eNe_i, dLcc, dItT, dVar, List.getElem?_cons_zero]
    by_cases hn : (xs.length : Int) = n
    · simp only [hn, beq_self_eq_true, Bool.true_or, Bool.not_true, Bool.false_eq_true, if_false, decide_true, if_true]
      have hl : xs.length ≤ 1000000 := Nat.le_trans (show xs.length ≤ 1000 from hd) (by decide)
      refine lcc (fun d => .bool (isNum d)) hl (fun y _ Q q => ?_) ?_
      · exact ⟨y, rfl, q⟩
      · have e : ∀ ys : List D, boolsD (ys.map fun d => PyData.bool (isNum d)) = some (ys.map isNum) := fun ys => by
          induction ys with
          | nil => rfl
          | cons y r ih => simp only [List.map_cons, boolsD, ih, Option.map_some]
        rw [e]
        simpa [areNum, hn, List.all_map] using h
    · simpa [hn, areNum] using h
  | _ => simpa [isTy, tyN, areNum] using h
theorem ok_is_place (T : Tx K mg base) : DefOk P w K mg base 3 "is_place" ["value"] spIsPlace := by
  refine defOk T.f_is_place sc_is_place bn_is_place (fun f cdv A outer s H hr hg => (pss_d1 (psd_ret (pd_and (pd_fn (ok_are_numbers T) hr (by decide) hg (pda_cons (pd_var 0) (pda_cons pd_int pda_nil))) (pd_and (pd_gt (pd_ix (pd_var 0) pd_int) pd_int) (pd_one (pd_eq hr.units (pd_bfun cr_gcd3 lc_gcd3 rfl T.i_gcd (pda_cons (pd_ix (pd_var 0) pd_int) (pda_cons (pd_ix (pd_var 0) pd_int) (pda_cons (pd_ix (pd_var 0) pd_int) pda_nil)))) pd_int))))))) ?_
  rintro ds Qd _ ⟨d, rfl, hd, h⟩
  simp only [dSeq, dNext, dRet, dIf, dDrop, dAsg, dgName, dgNil, dgCons, dgTup, dPar, dPar3, dOwn, dApp, dFrz, dVar, dC, dOp, dI, dI0, dB0, dNeg, dTup, dLst, dBoolT, dAndT, dOrT, dNotT, dAndV, dOrV, dNotV, dIfE, dCall, dCall0, dB, dIsi, dRepr, dAbs, dInt1, dInt2, dAll, dstart, dwipe, clean, Sl.clean, List.map_cons, List.map_nil, List.length_cons, List.length_nil, List.replicate, List.cons_append, List.nil_append, List.set_cons_zero, List.set_cons_succ, List.getElem?_cons_zero, List.getElem?_cons_succ, Nat.reduceAdd, Nat.reduceSub, Nat.add_zero, Nat.zero_add, Nat.add_sub_cancel, Nat.sub_self, atI_0, atI_1, atI_2, atI_3, dLtI, dLeI, dGtI, dGeI, dSub, dFd, dMod, dPow, eAdd_i, eAdd_l, eMul_i, eMul_l, eIx_l, eIx_t, eLen_l, eLen_t, eInt_i, eInt_b, eEq_i, eNe_i, eEq_e]
  refine ⟨d, 3, rfl, hd, ?_⟩
  by_cases ha : areNum d 3 = true
  · obtain ⟨p, q, r, rfl⟩ := areNum3.mp ha
    simp only [ha, if_true, dSeq, dNext, dRet, dIf, dDrop, dAsg, dgName, dgNil, dgCons, dgTup, dPar, dPar3, dOwn, dApp, dFrz, dVar, dC, dOp, dI, dI0, dB0, dNeg, dTup, dLst, dBoolT, dAndT, dOrT, dNotT, dAndV, dOrV, dNotV, dIfE, dCall, dCall0, dB, dIsi, dRepr, dAbs, dInt1, dInt2, dAll, dstart, dwipe, clean, Sl.clean, List.map_cons, List.map_nil, List.length_cons, List.length_nil, List.replicate, List.cons_append, List.nil_append, List.set_cons_zero, List.set_cons_succ, List.getElem?_cons_zero, List.getElem?_cons_succ, Nat.reduceAdd, Nat.reduceSub, Nat.add_zero, Nat.zero_add, Nat.add_sub_cancel, Nat.sub_self, atI_0, atI_1, atI_2, atI_3, dLtI, dLeI, dGtI, dGeI, dSub, dFd, dMod, dPow, eAdd_i, eAdd_l, eMul_i, eMul_l, eIx_l, eIx_t, eLen_l, eLen_t, eInt_i, eInt_b, eEq_i, eNe_i, eEq_e, dRaise, dRetX, dTry, dGcd3, dIsB]
    by_cases hr : 0 < r
    · rw [isPlace_g hr] at h
      exact ifT (decide_eq_true hr) h
    · rw [isPlace_n hr] at h
      exact ifF (decide_eq_false hr) h
  · have ha' : areNum d 3 = false := by simpa using ha
    rw [isPlace_0 ha'] at h
    simpa [ha'] using h
theorem ok_turn (T : Tx K mg base) : DefOk P w K mg base 1 "turn" ["p", "q", "r"] spTurnP := by
  refine defOk T.f_turn sc_turn bn_turn (fun f cdv A outer s H hr hg => (pss_dc (psd_set (i := 3) sc_turn.nd rfl (Or.inl rfl) (pd_mulA (pd_ix (pd_var 0) pd_int) (pd_sub (pd_mulA (pd_ix (pd_var 1) pd_int) (pd_ix (pd_var 2) pd_int)) (pd_mulA (pd_ix (pd_var 2) pd_int) (pd_ix (pd_var 1) pd_int)))))
      (pss_dc (psd_set (i := 4) sc_turn.nd rfl (Or.inl rfl) (pd_mulA (pd_ix (pd_var 0) pd_int) (pd_sub (pd_mulA (pd_ix (pd_var 2) pd_int) (pd_ix (pd_var 1) pd_int)) (pd_mulA (pd_ix (pd_var 1) pd_int) (pd_ix (pd_var 2) pd_int)))))
      (pss_dc (psd_set (i := 5) sc_turn.nd rfl (Or.inl rfl) (pd_addA (pd_addA (pd_var 3) (pd_var 4)) (pd_mulA (pd_ix (pd_var 0) pd_int) (pd_sub (pd_mulA (pd_ix (pd_var 1) pd_int) (pd_ix (pd_var 2) pd_int)) (pd_mulA (pd_ix (pd_var 2) pd_int) (pd_ix (pd_var 1) pd_int))))))
      (pss_dc (psd_if (pdt_gt (pd_var 5) pd_int) (pss_d1 (psd_ret pd_int)) pss_d0)
      (pss_dc (psd_if (pdt_lt (pd_var 5) pd_int) (pss_d1 (psd_ret (pd_neg pd_int))) pss_d0)
      (pss_d1 (psd_ret pd_int)))))))) ?_
  rintro ds Qd _ ⟨p, q, r, k, rfl, hp, hq, hr, hk, h⟩
  have A := hp.1; have B := hp.2.1; have C := hp.2.2
  have D' := hq.1; have E' := hq.2.1; have G := hq.2.2
  have H' := hr.1; have I' := hr.2.1; have J := hr.2.2
  simp only [dSeq, dNext, dRet, dIf, dDrop, dAsg, dgName, dgNil, dgCons, dgTup, dPar, dPar3, dOwn, dApp, dFrz, dVar, dC, dOp, dI, dI0, dB0, dNeg, dTup, dLst, dBoolT, dAndT, dOrT, dNotT, dAndV, dOrV, dNotV, dCall, dCall0, dB, dIsi, dRepr, dAbs, dInt1, dInt2, dAll, dstart, dwipe, clean, Sl.clean, List.map_cons, List.map_nil, List.length_cons, List.length_nil, List.replicate, List.cons_append, List.nil_append, List.set_cons_zero, List.set_cons_succ, List.getElem?_cons_zero, List.getElem?_cons_succ, Nat.reduceAdd, Nat.reduceSub, Nat.add_zero, Nat.zero_add, Nat.add_sub_cancel, Nat.sub_self, atI_0, atI_1, atI_2, atI_3, dLtI, dLeI, dGtI, dGeI, dSub, dFd, dMod, dPow, eAdd_i, eAdd_l, eMul_i, eMul_l, eIx_l, eIx_t, eLen_l, eLen_t, eInt_i, eInt_b, eEq_i, eNe_i, eEq_e, dRaise, dRetX, dTry, dGcd3, dIsB, dChain, dZip, dItT, dItL, dSl, dNoPart, dPart, dChain, dgUnl, dParO, notN_no, notN_t, isN_no, dRev]
  have s1 : Bd (k + k + (k + k) + 1) (q.y * r.d - r.y * q.d) := bd_sub (a := k + k) (b := k + k)
  have s2 : Bd (k + k + (k + k) + 1) (r.x * q.d - q.x * r.d) := bd_sub (a := k + k) (b := k + k)
  have s3 : Bd (k + k + (k + k) + 1) (q.x * r.y - r.x * q.y) := bd_sub (a := k + k) (b := k + k)
  refine ⟨cmb E' J (by omega), cmb I' G (by omega), cmb A s1 (by omega), cmb H' G (by omega), cmb D' J (by omega), cmb B s2 (by omega), cmb D' I' (by omega), cmb H' E' (by omega), cmb C s3 (by omega), ?_⟩
  have e0 : p.x * (q.y * r.d - r.y * q.d) + p.y * (r.x * q.d - q.x * r.d) + p.d * (q.x * r.y - r.x * q.y) = Pt.o p q r := rfl
  rw [e0]
  rcases Int.lt_trichotomy (Pt.o p q r) 0 with z | z | z
  · rw [Int.sign_eq_neg_one_of_neg z] at h
    refine ifF (decide_eq_false (by omega)) ?_
    exact ifT (decide_eq_true z) h
  · rw [z] at h ⊢
    exact ifF (by decide) (ifF (by decide) h)
  · rw [Int.sign_eq_one_of_pos z] at h
    exact ifT (decide_eq_true z) h
theorem ok_fineness (T : Tx K mg base) : DefOk P w K mg base 1 "fineness" ["places"] spFineW := by
  refine defOk T.f_fineness sc_fineness bn_fineness (fun f cdv A outer s H hr hg => (pss_dc (psd_set (i := 1) sc_fineness.nd rfl (Or.inl rfl) (pd_maxD rfl hr.units T.b_max (pd_new (pdn_lc (own := [("p", 2)]) rfl sc_fineness.nd (pdi_seq (pd_var 0)) (blk (N := N_fineness) (sc := defScope s_fineness) (by decide +kernel)) (fun _ _ _ _ _ => pg_name sc_fineness.nd rfl (Or.inl rfl)) (lg_name 2) (sets_name (by decide)) (fun _ _ _ _ _ => (pd_ix (pd_var 2) pd_int)))) pd_int))
      (pss_d1 (psd_ret (pd_mulA (pd_var 1) (pd_var 1)))))) ?_
  rintro ds Qd _ ⟨b, ps, ⟨rfl, ⟨k, hk, hb⟩, hl⟩, h⟩
  show dSeq _ _ _ [.val (seqD b (ps.map pD)), .emp, .emp]
  refine dSeq_g (fun σ => σ = [.val (seqD b (ps.map pD)), .val (.int (maxI 1 (ps.map Pt.d))), .emp]) ?_ ?_
  · intro N hN
    simp only [dSeq, dNext, dRet, dIf, dDrop, dAsg, dgName, dgNil, dgCons, dgTup, dPar, dPar3, dOwn, dApp, dFrz, dVar, dC, dOp, dI, dI0, dB0, dNeg, dTup, dLst, dBoolT, dAndT, dOrT, dNotT, dAndV, dOrV, dNotV, dCall, dCall0, dB, dIsi, dRepr, dAbs, dInt1, dInt2, dAll, dstart, dwipe, clean, Sl.clean, List.map_cons, List.map_nil, List.length_cons, List.length_nil, List.replicate, List.cons_append, List.nil_append, List.set_cons_zero, List.set_cons_succ, List.getElem?_cons_zero, List.getElem?_cons_succ, Nat.reduceAdd, Nat.reduceSub, Nat.add_zero, Nat.zero_add, Nat.add_sub_cancel, Nat.sub_self, atI_0, atI_1, atI_2, atI_3, dLtI, dLeI, dGtI, dGeI, dSub, dFd, dMod, dPow, eAdd_i, eAdd_l, eMul_i, eMul_l, eIx_l, eIx_t, eLen_l, eLen_t, eInt_i, eInt_b, eEq_i, eNe_i, eEq_e, dRaise, dRetX, dTry, dGcd3, dIsB, dChain, dZip, dItT, dItL, dSl, dNoPart, dPart, dChain, dgUnl, dParO, notN_no, notN_t, isN_no, dRev, dParC, dOwnC, dMaxD, dEnum, capD, dLstN]
    refine dLcc_m ps pD (fun p => .int p.d) (fun R hR => ?_) (by omega) ?_ ?_
    · refine dItS_m (b := b) (fun Q hQ => ?_) hR
      simp only [dSeq, dNext, dRet, dIf, dDrop, dAsg, dgName, dgNil, dgCons, dgTup, dPar, dPar3, dOwn, dApp, dFrz, dVar, dC, dOp, dI, dI0, dB0, dNeg, dTup, dLst, dBoolT, dAndT, dOrT, dNotT, dAndV, dOrV, dNotV, dCall, dCall0, dB, dIsi, dRepr, dAbs, dInt1, dInt2, dAll, dstart, dwipe, clean, Sl.clean, List.map_cons, List.map_nil, List.length_cons, List.length_nil, List.replicate, List.cons_append, List.nil_append, List.set_cons_zero, List.set_cons_succ, List.getElem?_cons_zero, List.getElem?_cons_succ, Nat.reduceAdd, Nat.reduceSub, Nat.add_zero, Nat.zero_add, Nat.add_sub_cancel, Nat.sub_self, atI_0, atI_1, atI_2, atI_3, dLtI, dLeI, dGtI, dGeI, dSub, dFd, dMod, dPow, eAdd_i, eAdd_l, eMul_i, eMul_l, eIx_l, eIx_t, eLen_l, eLen_t, eInt_i, eInt_b, eEq_i, eNe_i, eEq_e, dRaise, dRetX, dTry, dGcd3, dIsB, dChain, dZip, dItT, dItL, dSl, dNoPart, dPart, dChain, dgUnl, dParO, notN_no, notN_t, isN_no, dRev, dParC, dOwnC, dMaxD, dEnum, capD, dLstN]
      exact hQ
    · intro x hx Q hQ
      simp only [dSeq, dNext, dRet, dIf, dDrop, dAsg, dgName, dgNil, dgCons, dgTup, dPar, dPar3, dOwn, dApp, dFrz, dVar, dC, dOp, dI, dI0, dB0, dNeg, dTup, dLst, dBoolT, dAndT, dOrT, dNotT, dAndV, dOrV, dNotV, dCall, dCall0, dB, dIsi, dRepr, dAbs, dInt1, dInt2, dAll, dstart, dwipe, clean, Sl.clean, List.map_cons, List.map_nil, List.length_cons, List.length_nil, List.replicate, List.cons_append, List.nil_append, List.set_cons_zero, List.set_cons_succ, List.getElem?_cons_zero, List.getElem?_cons_succ, Nat.reduceAdd, Nat.reduceSub, Nat.add_zero, Nat.zero_add, Nat.add_sub_cancel, Nat.sub_self, atI_0, atI_1, atI_2, atI_3, dLtI, dLeI, dGtI, dGeI, dSub, dFd, dMod, dPow, eAdd_i, eAdd_l, eMul_i, eMul_l, eIx_l, eIx_t, eLen_l, eLen_t, eInt_i, eInt_b, eEq_i, eNe_i, eEq_e, dRaise, dRetX, dTry, dGcd3, dIsB, dChain, dZip, dItT, dItL, dSl, dNoPart, dPart, dChain, dgUnl, dParO, notN_no, notN_t, isN_no, dRev, dParC, dOwnC, dMaxD, dEnum, capD, dLstN]
      exact hQ
    · refine ⟨ps.map Pt.d, 1, ?_, rfl, ?_⟩
      · rw [List.map_map]; rfl
      · exact hN _ rfl
  rintro σ2 rfl
  have f1 := fine_bd hb
  simp only [dSeq, dNext, dRet, dIf, dDrop, dAsg, dgName, dgNil, dgCons, dgTup, dPar, dPar3, dOwn, dApp, dFrz, dVar, dC, dOp, dI, dI0, dB0, dNeg, dTup, dLst, dBoolT, dAndT, dOrT, dNotT, dAndV, dOrV, dNotV, dCall, dCall0, dB, dIsi, dRepr, dAbs, dInt1, dInt2, dAll, dstart, dwipe, clean, Sl.clean, List.map_cons, List.map_nil, List.length_cons, List.length_nil, List.replicate, List.cons_append, List.nil_append, List.set_cons_zero, List.set_cons_succ, List.getElem?_cons_zero, List.getElem?_cons_succ, Nat.reduceAdd, Nat.reduceSub, Nat.add_zero, Nat.zero_add, Nat.add_sub_cancel, Nat.sub_self, atI_0, atI_1, atI_2, atI_3, dLtI, dLeI, dGtI, dGeI, dSub, dFd, dMod, dPow, eAdd_i, eAdd_l, eMul_i, eMul_l, eIx_l, eIx_t, eLen_l, eLen_t, eInt_i, eInt_b, eEq_i, eNe_i, eEq_e, dRaise, dRetX, dTry, dGcd3, dIsB, dChain, dZip, dItT, dItL, dSl, dNoPart, dPart, dChain, dgUnl, dParO, notN_no, notN_t, isN_no, dRev, dParC, dOwnC, dMaxD, dEnum, capD, dLstN]
  exact ⟨cmb f1 f1 (by omega), h⟩
theorem ok_place_key (T : Tx K mg base) : DefOk P w K mg base 1 "place_key" ["p", "fine"] spKey := by
  refine defOk T.f_place_key sc_place_key bn_place_key (fun f cdv A outer s H hr hg => (pss_d1 (psd_ret (pd_tup (pda_cons (pd_fd (pd_mulA (pd_ix (pd_var 0) pd_int) (pd_var 1)) (pd_ix (pd_var 0) pd_int)) (pda_cons (pd_fd (pd_mulA (pd_ix (pd_var 0) pd_int) (pd_var 1)) (pd_ix (pd_var 0) pd_int)) pda_nil)))))) ?_
  rintro ds Qd _ ⟨p, f, k, rfl, hp, hf, hk, h⟩
  have d0 := p.pos
  simp only [dSeq, dNext, dRet, dIf, dDrop, dAsg, dgName, dgNil, dgCons, dgTup, dPar, dPar3, dOwn, dApp, dFrz, dVar, dC, dOp, dI, dI0, dB0, dNeg, dTup, dLst, dBoolT, dAndT, dOrT, dNotT, dAndV, dOrV, dNotV, dCall, dCall0, dB, dIsi, dRepr, dAbs, dInt1, dInt2, dAll, dstart, dwipe, clean, Sl.clean, List.map_cons, List.map_nil, List.length_cons, List.length_nil, List.replicate, List.cons_append, List.nil_append, List.set_cons_zero, List.set_cons_succ, List.getElem?_cons_zero, List.getElem?_cons_succ, Nat.reduceAdd, Nat.reduceSub, Nat.add_zero, Nat.zero_add, Nat.add_sub_cancel, Nat.sub_self, atI_0, atI_1, atI_2, atI_3, dLtI, dLeI, dGtI, dGeI, dSub, dFd, dMod, dPow, eAdd_i, eAdd_l, eMul_i, eMul_l, eIx_l, eIx_t, eLen_l, eLen_t, eInt_i, eInt_b, eEq_i, eNe_i, eEq_e, dRaise, dRetX, dTry, dGcd3, dIsB, dChain, dZip, dItT, dItL, dSl, dNoPart, dPart, dChain, dgUnl, dParO, notN_no, notN_t, isN_no, dRev, dParC, dOwnC, dMaxD, dEnum, capD, dLstN]
  have e1 : (p.x * f).fdiv p.d = p.x * f / p.d := Int.fdiv_eq_ediv_of_nonneg _ (by omega)
  have e2 : (p.y * f).fdiv p.d = p.y * f / p.d := Int.fdiv_eq_ediv_of_nonneg _ (by omega)
  refine ⟨cmb hp.1 hf (by omega), cfd (by omega) hp.2.2 (by omega), cmb hp.2.1 hf (by omega), cfd (by omega) hp.2.2 (by omega), ?_⟩
  rw [e1, e2]
  exact h
theorem ok_ascending (T : Tx K mg base) : DefOk P w K mg base 5 "ascending" ["places"] spAsc := by
  refine defOkC T.f_ascending sc_ascending bn_ascending (fun f cdv A outer s H ec hr hg => (pss_dc (psd_set (i := 1) sc_ascending.nd rfl (Or.inr rfl) (pd_fn (ok_fineness T) hr (by decide) hg (pda_cons (pd_var 0) pda_nil)))
      (pss_d1 (psd_ret (pd_new (pdn_sortK (k := 1) (x := "p") (N := ["p", "fine"]) (fr := ["fine"]) (js := [1]) T.t_ascending ec (hr.mono (by decide)) T.b_sorted (pd_var 0) (NdefX.nscope_by (by decide +kernel)) (by rfl) (fun ql cl d f outer s H hr => (pd_fn (ok_place_key T) hr (by decide) hg (pda_cons (pd_var 0) (pda_cons (pd_var 1) pda_nil)))))))))) ?_
  rintro ds Qd _ ⟨b, ps, ⟨rfl, ⟨k, hk, hb⟩, hl⟩, h⟩
  show dSeq _ _ _ [.val (seqD b (ps.map pD)), .emp]
  refine dSeq_g (fun σ => σ = [.val (seqD b (ps.map pD)), .val (.int (fineP ps))]) ?_ ?_
  · intro N hN
    simp only [dSeq, dNext, dRet, dIf, dDrop, dAsg, dgName, dgNil, dgCons, dgTup, dPar, dPar3, dOwn, dApp, dFrz, dVar, dC, dOp, dI, dI0, dB0, dNeg, dTup, dLst, dBoolT, dAndT, dOrT, dNotT, dAndV, dOrV, dNotV, dCall, dCall0, dB, dIsi, dRepr, dAbs, dInt1, dInt2, dAll, dstart, dwipe, clean, Sl.clean, List.map_cons, List.map_nil, List.length_cons, List.length_nil, List.replicate, List.cons_append, List.nil_append, List.set_cons_zero, List.set_cons_succ, List.getElem?_cons_zero, List.getElem?_cons_succ, Nat.reduceAdd, Nat.reduceSub, Nat.add_zero, Nat.zero_add, Nat.add_sub_cancel, Nat.sub_self, atI_0, atI_1, atI_2, atI_3, dLtI, dLeI, dGtI, dGeI, dSub, dFd, dMod, dPow, eAdd_i, eAdd_l, eMul_i, eMul_l, eIx_l, eIx_t, eLen_l, eLen_t, eInt_i, eInt_b, eEq_i, eNe_i, eEq_e, dRaise, dRetX, dTry, dGcd3, dIsB, dChain, dZip, dItT, dItL, dSl, dNoPart, dPart, dChain, dgUnl, dParO, notN_no, notN_t, isN_no, dRev, dParC, dOwnC, dMaxD, dEnum, capD, dLstN]
    exact ⟨b, ps, ⟨rfl, ⟨k, hk, hb⟩, Nat.le_trans hl (by decide)⟩, hN _ rfl⟩
  rintro σ2 rfl
  have f2 : Bd (2 * k + 2) (fineP ps) := (bd_mul (a := k + 1) (b := k + 1) (h1 := fine_bd hb) (h2 := fine_bd hb)).mono (by omega)
  obtain ⟨q1, q2, q3⟩ := keys_ok (f := fineP ps) ps
  simp only [dRet, dLst]
  refine dSort_seq (b := b) (es := ps.map pD) (fun R hR => hR) ⟨by rw [List.length_map]; omega, keyP (fineP ps), fun x hx => ?_, q1, q2, q3, by rw [asc_key]; exact h⟩
  obtain ⟨p, hp, rfl⟩ := List.mem_map.mp hx
  simp only [dSeq, dNext, dRet, dIf, dDrop, dAsg, dgName, dgNil, dgCons, dgTup, dPar, dPar3, dOwn, dApp, dFrz, dVar, dC, dOp, dI, dI0, dB0, dNeg, dTup, dLst, dBoolT, dAndT, dOrT, dNotT, dAndV, dOrV, dNotV, dCall, dCall0, dB, dIsi, dRepr, dAbs, dInt1, dInt2, dAll, dstart, dwipe, clean, Sl.clean, List.map_cons, List.map_nil, List.length_cons, List.length_nil, List.replicate, List.cons_append, List.nil_append, List.set_cons_zero, List.set_cons_succ, List.getElem?_cons_zero, List.getElem?_cons_succ, Nat.reduceAdd, Nat.reduceSub, Nat.add_zero, Nat.zero_add, Nat.add_sub_cancel, Nat.sub_self, atI_0, atI_1, atI_2, atI_3, dLtI, dLeI, dGtI, dGeI, dSub, dFd, dMod, dPow, eAdd_i, eAdd_l, eMul_i, eMul_l, eIx_l, eIx_t, eLen_l, eLen_t, eInt_i, eInt_b, eEq_i, eNe_i, eEq_e, dRaise, dRetX, dTry, dGcd3, dIsB, dChain, dZip, dItT, dItL, dSl, dNoPart, dPart, dChain, dgUnl, dParO, notN_no, notN_t, isN_no, dRev, dParC, dOwnC, dMaxD, dEnum, capD, dLstN]
  exact ⟨p, fineP ps, k, rfl, hb p hp, f2, hk, rfl⟩
theorem ok_excess (T : Tx K mg base) : DefOk P w K mg base 1 "excess" ["plane", "p"] (spHP fun a b c x y d => .int (excess a b c x y d)) := by
  refine defOk T.f_excess sc_excess bn_excess (fun f cdv A outer s H hr hg => (pss_d1 (psd_ret (pd_sub (pd_addA (pd_mulA (pd_ix (pd_var 0) pd_int) (pd_ix (pd_var 1) pd_int)) (pd_mulA (pd_ix (pd_var 0) pd_int) (pd_ix (pd_var 1) pd_int))) (pd_mulA (pd_ix (pd_var 0) pd_int) (pd_ix (pd_var 1) pd_int)))))) ?_
  rintro ds Qd _ ⟨a, b, c, x, y, d, k, rfl, h1, h2, h3, h4, h5, h6, hk, h⟩
  simp only [dSeq, dNext, dRet, dIf, dDrop, dAsg, dgName, dgNil, dgCons, dgTup, dPar, dPar3, dOwn, dApp, dFrz, dVar, dC, dOp, dI, dI0, dB0, dNeg, dTup, dLst, dBoolT, dAndT, dOrT, dNotT, dAndV, dOrV, dNotV, dCall, dCall0, dB, dIsi, dRepr, dAbs, dInt1, dInt2, dAll, dstart, dwipe, clean, Sl.clean, List.map_cons, List.map_nil, List.length_cons, List.length_nil, List.replicate, List.cons_append, List.nil_append, List.set_cons_zero, List.set_cons_succ, List.getElem?_cons_zero, List.getElem?_cons_succ, Nat.reduceAdd, Nat.reduceSub, Nat.add_zero, Nat.zero_add, Nat.add_sub_cancel, Nat.sub_self, atI_0, atI_1, atI_2, atI_3, dLtI, dLeI, dGtI, dGeI, dSub, dFd, dMod, dPow, eAdd_i, eAdd_l, eMul_i, eMul_l, eIx_l, eIx_t, eLen_l, eLen_t, eInt_i, eInt_b, eEq_i, eNe_i, eEq_e, dRaise, dRetX, dTry, dGcd3, dIsB, dChain, dZip, dItT, dItL, dSl, dNoPart, dPart]
  exact ⟨cmb h1 h4 (by omega), cmb h2 h5 (by omega), cmb h3 h6 (by omega), h⟩
theorem ok_has (T : Tx K mg base) : DefOk P w K mg base 2 "has" ["plane", "p"] (spHP fun a b c x y d => .bool (decide (0 ≤ excess a b c x y d))) := by
  refine defOk T.f_has sc_has bn_has (fun f cdv A outer s H hr hg => (pss_d1 (psd_ret (pd_ge (pd_fn (ok_excess T) hr (by decide) hg (pda_cons (pd_var 0) (pda_cons (pd_var 1) pda_nil))) pd_int)))) ?_
  rintro ds Qd _ ⟨a, b, c, x, y, d, k, rfl, h1, h2, h3, h4, h5, h6, hk, h⟩
  simp only [dSeq, dNext, dRet, dIf, dDrop, dAsg, dgName, dgNil, dgCons, dgTup, dPar, dPar3, dOwn, dApp, dFrz, dVar, dC, dOp, dI, dI0, dB0, dNeg, dTup, dLst, dBoolT, dAndT, dOrT, dNotT, dAndV, dOrV, dNotV, dCall, dCall0, dB, dIsi, dRepr, dAbs, dInt1, dInt2, dAll, dstart, dwipe, clean, Sl.clean, List.map_cons, List.map_nil, List.length_cons, List.length_nil, List.replicate, List.cons_append, List.nil_append, List.set_cons_zero, List.set_cons_succ, List.getElem?_cons_zero, List.getElem?_cons_succ, Nat.reduceAdd, Nat.reduceSub, Nat.add_zero, Nat.zero_add, Nat.add_sub_cancel, Nat.sub_self, atI_0, atI_1, atI_2, atI_3, dLtI, dLeI, dGtI, dGeI, dSub, dFd, dMod, dPow, eAdd_i, eAdd_l, eMul_i, eMul_l, eIx_l, eIx_t, eLen_l, eLen_t, eInt_i, eInt_b, eEq_i, eNe_i, eEq_e, dRaise, dRetX, dTry, dGcd3, dIsB, dChain, dZip, dItT, dItL, dSl, dNoPart, dPart]
  exact ⟨a, b, c, x, y, d, k, rfl, h1, h2, h3, h4, h5, h6, hk, h⟩
theorem ok_facing (T : Tx K mg base) : DefOk P w K mg base 1 "facing" ["plane"] (spTri (fun _ _ _ => True) fun a b c => pl (-a) (-b) (-c)) := by
  refine defOk T.f_facing sc_facing bn_facing (fun f cdv A outer s H hr hg => (pss_d1 (psd_ret (pd_tup (pda_cons (pd_neg (pd_ix (pd_var 0) pd_int)) (pda_cons (pd_neg (pd_ix (pd_var 0) pd_int)) (pda_cons (pd_neg (pd_ix (pd_var 0) pd_int)) pda_nil))))))) ?_
  rintro ds Qd _ ⟨a, b, c, rfl, _, h⟩
  simp only [dSeq, dNext, dRet, dIf, dDrop, dAsg, dgName, dgNil, dgCons, dgTup, dPar, dPar3, dOwn, dApp, dFrz, dVar, dC, dOp, dI, dI0, dB0, dNeg, dTup, dLst, dBoolT, dAndT, dOrT, dNotT, dAndV, dOrV, dNotV, dCall, dCall0, dB, dIsi, dRepr, dAbs, dInt1, dInt2, dAll, dstart, dwipe, clean, Sl.clean, List.map_cons, List.map_nil, List.length_cons, List.length_nil, List.replicate, List.cons_append, List.nil_append, List.set_cons_zero, List.set_cons_succ, List.getElem?_cons_zero, List.getElem?_cons_succ, Nat.reduceAdd, Nat.reduceSub, Nat.add_zero, Nat.zero_add, Nat.add_sub_cancel, Nat.sub_self, atI_0, atI_1, atI_2, atI_3, dLtI, dLeI, dGtI, dGeI, dSub, dFd, dMod, dPow, eAdd_i, eAdd_l, eMul_i, eMul_l, eIx_l, eIx_t, eLen_l, eLen_t, eInt_i, eInt_b, eEq_i, eNe_i, eEq_e, dRaise, dRetX, dTry, dGcd3, dIsB, dChain, dZip, dItT, dItL, dSl, dNoPart, dPart]
  exact h
theorem ok_left_turns (T : Tx K mg base) : DefOk P w K mg base 2 "left_turns" ["row"] spLeft := by
  refine defOk T.f_left_turns sc_left_turns bn_left_turns (fun f cdv A outer s H hr hg => (pss_dc (psd_own (i := 1) sc_left_turns.nd rfl (Or.inl rfl) (pdn_lst pda_nil))
      (pss_dc (psd_for PassesOwn.never rfl (pdi_list (pd_var 0)) (pdg_name (i := 2) sc_left_turns.nd rfl (Or.inl rfl)) (pss_dc (psd_while PassesOwn.never (pdt_lend 1 (pdt_w (pdw_and (pdt_gt (pd_blt call_len lc_len rfl T.b_len (by decide +kernel) (pda_cons (pd_var 1) pda_nil)) pd_int) (pdw_and1 (pdt_lt (pd_fn (ok_turn T) hr (by decide) hg (pda_cons (pd_ix (pd_var 1) (pd_neg pd_int)) (pda_cons (pd_ix (pd_var 1) (pd_neg pd_int)) (pda_cons (pd_var 2) pda_nil)))) pd_int))))) (pss_d1 (psd_pop 1 rfl (Or.inl rfl))))
      (pss_d1 (psd_app 1 rfl (Or.inl rfl) (pd_var 2)))))
      (pss_frz 1 (pss_d1 (psd_ret (pd_var 1))))))) ?_
  rintro ds Qd _ ⟨ps, ⟨rfl, ⟨k, hk, hb⟩, hl⟩, h⟩
  show dSeq _ _ _ [.val (.list (ps.map pD)), .emp, .emp]
  refine dSeq_g (fun σ => ∃ ad, σ = [.val (.list (ps.map pD)), .own ad [], .emp]) ?_ ?_
  · intro N hN
    simp only [dSeq, dNext, dRet, dIf, dDrop, dAsg, dgName, dgNil, dgCons, dgTup, dPar, dPar3, dOwn, dApp, dFrz, dVar, dC, dOp, dI, dI0, dB0, dNeg, dTup, dLst, dBoolT, dAndT, dOrT, dNotT, dAndV, dOrV, dNotV, dCall, dCall0, dB, dIsi, dRepr, dAbs, dInt1, dInt2, dAll, dstart, dwipe, clean, Sl.clean, List.map_cons, List.map_nil, List.length_cons, List.length_nil, List.replicate, List.cons_append, List.nil_append, List.set_cons_zero, List.set_cons_succ, List.getElem?_cons_zero, List.getElem?_cons_succ, Nat.reduceAdd, Nat.reduceSub, Nat.add_zero, Nat.zero_add, Nat.add_sub_cancel, Nat.sub_self, atI_0, atI_1, atI_2, atI_3, dLtI, dLeI, dGtI, dGeI, dSub, dFd, dMod, dPow, eAdd_i, eAdd_l, eMul_i, eMul_l, eIx_l, eIx_t, eLen_l, eLen_t, eInt_i, eInt_b, eEq_i, eNe_i, eEq_e, dRaise, dRetX, dTry, dGcd3, dIsB, dChain, dZip, dItT, dItL, dSl, dNoPart, dPart, dChain, dgUnl, dParO, notN_no, notN_t, isN_no, dRev, dParC, dOwnC, dMaxD, dEnum, capD, dLstN]
    exact fun ad => hN _ ⟨ad, rfl⟩
  rintro σ2 ⟨ad, rfl⟩
  refine dFor_m ps pD (fun pre σ => ∃ x2 : Sl, (∀ x ∈ chainR Pt.o pre, x ∈ pre) ∧ σ = [.val (.list (ps.map pD)), .own ad ((chainR Pt.o pre).reverse.map pD), x2]) ?_ ⟨_, by simp [chainR], rfl⟩ ?_ ?_
  · intro R hR
    simp only [dSeq, dNext, dRet, dIf, dDrop, dAsg, dgName, dgNil, dgCons, dgTup, dPar, dPar3, dOwn, dApp, dFrz, dVar, dC, dOp, dI, dI0, dB0, dNeg, dTup, dLst, dBoolT, dAndT, dOrT, dNotT, dAndV, dOrV, dNotV, dCall, dCall0, dB, dIsi, dRepr, dAbs, dInt1, dInt2, dAll, dstart, dwipe, clean, Sl.clean, List.map_cons, List.map_nil, List.length_cons, List.length_nil, List.replicate, List.cons_append, List.nil_append, List.set_cons_zero, List.set_cons_succ, List.getElem?_cons_zero, List.getElem?_cons_succ, Nat.reduceAdd, Nat.reduceSub, Nat.add_zero, Nat.zero_add, Nat.add_sub_cancel, Nat.sub_self, atI_0, atI_1, atI_2, atI_3, dLtI, dLeI, dGtI, dGeI, dSub, dFd, dMod, dPow, eAdd_i, eAdd_l, eMul_i, eMul_l, eIx_l, eIx_t, eLen_l, eLen_t, eInt_i, eInt_b, eEq_i, eNe_i, eEq_e, dRaise, dRetX, dTry, dGcd3, dIsB, dChain, dZip, dItT, dItL, dSl, dNoPart, dPart, dChain, dgUnl, dParO, notN_no, notN_t, isN_no, dRev, dParC, dOwnC, dMaxD, dEnum, capD, dLstN, dItL]
    exact hR
  · rintro pre u post e σ' ⟨x2, hm, rfl⟩
    have hu : PB k u := hb u (by rw [e]; simp)
    have hpl : pre.length < ps.length := by rw [e]; simp
    have hcl := chain_len Pt.o pre
    have hst : ∀ x ∈ chainR Pt.o pre, x ∈ pre ∧ PB k x := fun x hx => ⟨hm x hx, hb x (by rw [e]; simp [hm x hx])⟩
    rw [chain_step]
    have fin : (∀ x ∈ push Pt.o u (chainR Pt.o pre), x ∈ pre ++ [u]) := fun x hx => by
      rcases push_mem _ _ hx with rfl | y
      · simp
      · exact List.mem_append.mpr (.inl (hm x y))
    generalize chainR Pt.o pre = st0 at hst hcl fin ⊢
    show dSeq _ _ _ _
    simp only [dgName, List.set_cons_zero, List.set_cons_succ]
    refine dSeq_g (fun σ => ∃ st : List Pt, push Pt.o u st0 = u :: st ∧ st.length ≤ st0.length ∧ σ = [.val (.list (ps.map pD)), .own ad (st.reverse.map pD), .val (pD u)]) ?_ ?_
    · intro N hN
      refine ⟨fun n σ => ∃ st : List Pt, n = st.length ∧ push Pt.o u st0 = push Pt.o u st ∧ (∀ x ∈ st, PB k x) ∧ st.length ≤ st0.length ∧ σ = [.val (.list (ps.map pD)), .own ad (st.reverse.map pD), .val (pD u)], ⟨_, st0, rfl, rfl, fun x hx => (hst x hx).2, Nat.le_refl _, rfl⟩, ?_⟩
      rintro n σ' ⟨st, rfl, hp, hs, hsl, rfl⟩
      refine ⟨ad, _, rfl, ?_⟩
      match st, hp, hs, hsl with
      | [], hp, hs, hsl =>
        simp only [dSeq, dNext, dRet, dIf, dDrop, dAsg, dgName, dgNil, dgCons, dgTup, dPar, dPar3, dOwn, dApp, dFrz, dVar, dC, dOp, dI, dI0, dB0, dNeg, dTup, dLst, dBoolT, dAndT, dOrT, dNotT, dAndV, dOrV, dNotV, dCall, dCall0, dB, dIsi, dRepr, dAbs, dInt1, dInt2, dAll, dstart, dwipe, clean, Sl.clean, List.map_cons, List.map_nil, List.length_cons, List.length_nil, List.replicate, List.cons_append, List.nil_append, List.set_cons_zero, List.set_cons_succ, List.getElem?_cons_zero, List.getElem?_cons_succ, Nat.reduceAdd, Nat.reduceSub, Nat.add_zero, Nat.zero_add, Nat.add_sub_cancel, Nat.sub_self, atI_0, atI_1, atI_2, atI_3, dLtI, dLeI, dGtI, dGeI, dSub, dFd, dMod, dPow, eAdd_i, eAdd_l, eMul_i, eMul_l, eIx_l, eIx_t, eLen_l, eLen_t, eInt_i, eInt_b, eEq_i, eNe_i, eEq_e, dRaise, dRetX, dTry, dGcd3, dIsB, dChain, dZip, dItT, dItL, dSl, dNoPart, dPart, dChain, dgUnl, dParO, notN_no, notN_t, isN_no, dRev, dParC, dOwnC, dMaxD, dEnum, capD, dLstN]
        refine iteF (hN _ ⟨[], by rw [hp]; rfl, hsl, rfl⟩)
      | [b], hp, hs, hsl =>
        simp only [dSeq, dNext, dRet, dIf, dDrop, dAsg, dgName, dgNil, dgCons, dgTup, dPar, dPar3, dOwn, dApp, dFrz, dVar, dC, dOp, dI, dI0, dB0, dNeg, dTup, dLst, dBoolT, dAndT, dOrT, dNotT, dAndV, dOrV, dNotV, dCall, dCall0, dB, dIsi, dRepr, dAbs, dInt1, dInt2, dAll, dstart, dwipe, clean, Sl.clean, List.map_cons, List.map_nil, List.length_cons, List.length_nil, List.replicate, List.cons_append, List.nil_append, List.set_cons_zero, List.set_cons_succ, List.getElem?_cons_zero, List.getElem?_cons_succ, Nat.reduceAdd, Nat.reduceSub, Nat.add_zero, Nat.zero_add, Nat.add_sub_cancel, Nat.sub_self, atI_0, atI_1, atI_2, atI_3, dLtI, dLeI, dGtI, dGeI, dSub, dFd, dMod, dPow, eAdd_i, eAdd_l, eMul_i, eMul_l, eIx_l, eIx_t, eLen_l, eLen_t, eInt_i, eInt_b, eEq_i, eNe_i, eEq_e, dRaise, dRetX, dTry, dGcd3, dIsB, dChain, dZip, dItT, dItL, dSl, dNoPart, dPart, dChain, dgUnl, dParO, notN_no, notN_t, isN_no, dRev, dParC, dOwnC, dMaxD, dEnum, capD, dLstN]
        refine ifF (by simp) (hN _ ⟨[b], by rw [hp]; rfl, hsl, rfl⟩)
      | b :: a :: r, hp, hs, hsl =>
        have er : (b :: a :: r).reverse.map pD = r.reverse.map pD ++ [pD a, pD b] := by simp
        have er2 : (b :: a :: r).reverse.map pD = (r.reverse.map pD ++ [pD a]) ++ [pD b] := by simp
        have a1 : L2.atI ((b :: a :: r).reverse.map pD) (-2) = some (pD a) := by rw [er]; exact atI_m2 _ _ _
        have a2 : L2.atI ((b :: a :: r).reverse.map pD) (-1) = some (pD b) := by rw [er2]; exact atI_m1 _ _
        have ln : 1 < (((b :: a :: r).reverse.map pD).length : Int) := by simp; omega
        have ct : (b :: a :: r).reverse.map pD = (a :: r).reverse.map pD ++ [pD b] := by simp
        generalize hL : (b :: a :: r).reverse.map pD = L at a1 a2 ln ct ⊢
        simp only [dSeq, dNext, dRet, dIf, dDrop, dAsg, dgName, dgNil, dgCons, dgTup, dPar, dPar3, dOwn, dApp, dFrz, dVar, dC, dOp, dI, dI0, dB0, dNeg, dTup, dLst, dBoolT, dAndT, dOrT, dNotT, dAndV, dOrV, dNotV, dCall, dCall0, dB, dIsi, dRepr, dAbs, dInt1, dInt2, dAll, dstart, dwipe, clean, Sl.clean, List.map_cons, List.map_nil, List.length_cons, List.length_nil, List.replicate, List.cons_append, List.nil_append, List.set_cons_zero, List.set_cons_succ, List.getElem?_cons_zero, List.getElem?_cons_succ, Nat.reduceAdd, Nat.reduceSub, Nat.add_zero, Nat.zero_add, Nat.add_sub_cancel, Nat.sub_self, atI_0, atI_1, atI_2, atI_3, dLtI, dLeI, dGtI, dGeI, dSub, dFd, dMod, dPow, eAdd_i, eAdd_l, eMul_i, eMul_l, eIx_l, eIx_t, eLen_l, eLen_t, eInt_i, eInt_b, eEq_i, eNe_i, eEq_e, dRaise, dRetX, dTry, dGcd3, dIsB, dChain, dZip, dItT, dItL, dSl, dNoPart, dPart, dChain, dgUnl, dParO, notN_no, notN_t, isN_no, dRev, dParC, dOwnC, dMaxD, dEnum, capD, dLstN]
        refine ifT (decide_eq_true (by omega)) ?_
        rw [a1, a2]
        dsimp only
        refine turn_c (hs a (by simp)) (hs b (by simp)) hu hk ?_
        dsimp only
        have eqp : push Pt.o u (b :: a :: r) = if Pt.o a b u < 1 then push Pt.o u (a :: r) else u :: b :: a :: r := rfl
        by_cases z : Pt.o a b u < 1
        · have sz : Int.sign (Pt.o a b u) < 1 := by
            rcases Int.lt_trichotomy (Pt.o a b u) 0 with y | y | y
            · rw [Int.sign_eq_neg_one_of_neg y]; decide
            · rw [y]; decide
            · omega
          refine ifT (decide_eq_true sz) ?_
          refine ⟨ad, (a :: r).reverse.map pD, pD b, by rw [ct]; rfl, ?_⟩
          exact ⟨_, by simp, a :: r, rfl, by rw [hp, eqp, if_pos z], fun x hx => hs x (by simp [hx]), by simp at hsl ⊢; omega, rfl⟩
        · have sz : Int.sign (Pt.o a b u) = 1 := Int.sign_eq_one_of_pos (by omega)
          refine ifF (decide_eq_false (by rw [sz]; decide)) ?_
          exact hN _ ⟨b :: a :: r, by rw [hp, eqp, if_neg z], hsl, by rw [hL]⟩
    rintro σ2 ⟨st, hp, hsl, rfl⟩
    have eq : st.reverse.map pD ++ [pD u] = (push Pt.o u st0).reverse.map pD := by rw [hp]; simp
    have ll : (st.reverse.map pD).length ≤ 1000000 := by simp; omega
    generalize st.reverse.map pD = L at eq ll ⊢
    simp only [dSeq, dNext, dRet, dIf, dDrop, dAsg, dgName, dgNil, dgCons, dgTup, dPar, dPar3, dOwn, dApp, dFrz, dVar, dC, dOp, dI, dI0, dB0, dNeg, dTup, dLst, dBoolT, dAndT, dOrT, dNotT, dAndV, dOrV, dNotV, dCall, dCall0, dB, dIsi, dRepr, dAbs, dInt1, dInt2, dAll, dstart, dwipe, clean, Sl.clean, List.map_cons, List.map_nil, List.length_cons, List.length_nil, List.replicate, List.cons_append, List.nil_append, List.set_cons_zero, List.set_cons_succ, List.getElem?_cons_zero, List.getElem?_cons_succ, Nat.reduceAdd, Nat.reduceSub, Nat.add_zero, Nat.zero_add, Nat.add_sub_cancel, Nat.sub_self, atI_0, atI_1, atI_2, atI_3, dLtI, dLeI, dGtI, dGeI, dSub, dFd, dMod, dPow, eAdd_i, eAdd_l, eMul_i, eMul_l, eIx_l, eIx_t, eLen_l, eLen_t, eInt_i, eInt_b, eEq_i, eNe_i, eEq_e, dRaise, dRetX, dTry, dGcd3, dIsB, dChain, dZip, dItT, dItL, dSl, dNoPart, dPart, dChain, dgUnl, dParO, notN_no, notN_t, isN_no, dRev, dParC, dOwnC, dMaxD, dEnum, capD, dLstN]
    refine ⟨ll, ?_⟩
    rw [eq]
    exact ⟨_, fin, rfl⟩
  rintro σ' ⟨x2, hm, rfl⟩
  show Qd (.list ((chainR Pt.o ps).reverse.map pD))
  exact h
theorem ok_hull (T : Tx K mg base) : DefX P w K mg base 6 "hull" ["places"] spHullX := by
  obtain ⟨C_NoPlaces, O_NoPlaces, OE_NoPlaces⟩ := T.x_NoPlaces
  refine defX T.f_hull sc_hull bn_hull (fun f cdv A outer s H E hr hg tk => (pss_dc (psd_if (pdt_eq hr.units (pd_blt call_len lc_len rfl T.b_len (by decide +kernel) (pda_cons (pd_var 0) pda_nil)) pd_int) (pss_d1 (psd_raise0 PySem.F.excBase_ValueError O_NoPlaces (by rfl) tk (by rfl) (by decide) rfl)) pss_d0)
      (pss_dc (psd_set (i := 1) sc_hull.nd rfl (Or.inr rfl) (pd_fn (ok_ascending T) hr (by decide) hg (pda_cons (pd_var 0) pda_nil)))
      (pss_dc (psd_setLci (i := 2) (own := [("k", 3), ("p", 4)]) rfl sc_hull.nd rfl rfl (sw_true rfl rfl rfl (by decide +kernel)) (pdi_enum rfl T.b_enumerate (pda_cons (pd_var 1) pda_nil)) (blk (N := N_hull) (sc := defScope s_hull) (by decide +kernel)) (fun _ _ _ _ _ => pg_tup rfl (pgs_cons (pg_name (i := 3) sc_hull.nd rfl (Or.inl rfl)) (pgs_cons (pg_name (i := 4) sc_hull.nd rfl (Or.inl rfl)) pgs_nil))) (lg_tup (lgs_cons (lgs_cons lgs_nil)) (dgl_cons (dgl_cons dgl_nil))) (sets_tup (sets_cons (by decide) (sets_cons (by decide) sets_nil))) (fun _ _ _ _ _ => (pdt_w (pdw_or (pdt_eq hr.units (pd_var 3) pd_int) (pdw_or1 (pdt_ne hr.units (pd_var 4) (pd_ix (pd_var 1) (pd_sub (pd_var 3) pd_int))))))) (fun _ _ _ _ _ => (pd_var 4)))
      (pss_dc (psd_if (pdt_eq hr.units (pd_blt call_len lc_len rfl T.b_len (by decide +kernel) (pda_cons (pd_var 2) pda_nil)) pd_int) (pss_d1 (psd_ret (pd_tup (pda_cons (pd_ix (pd_var 2) pd_int) pda_nil)))) pss_d0)
      (pss_d1 (psd_ret (pd_ty call_tuple_of lc_tupOf rfl T.b_tuple (by decide +kernel) (pda_cons (pd_addA (pd_sl (pd_fn (ok_left_turns T) hr (by decide) hg (pda_cons (pd_var 2) pda_nil)) pdo_none (pdo_some (pd_neg pd_int))) (pd_sl (pd_fn (ok_left_turns T) hr (by decide) hg (pda_cons (pd_rev (pd_var 2)) pda_nil)) pdo_none (pdo_some (pd_neg pd_int)))) pda_nil))))))))) ?_
  rintro ds Qd Ed _ (⟨b, ps, ⟨rfl, ⟨k, hk, hb⟩, hl⟩, hne, h⟩ | ⟨⟨b, rfl⟩, h⟩)
  rotate_left
  · have fin : ∀ c, mg "NoPlaces" = some c → ∃ n, Ed n ∧ mg n = some c := fun c hc => ⟨_, h, hc⟩
    cases b <;> (simp only [dSeq, dNext, dRet, dIf, dDrop, dAsg, dgName, dgNil, dgCons, dgTup, dPar, dPar3, dOwn, dApp, dFrz, dVar, dC, dOp, dI, dI0, dB0, dNeg, dTup, dLst, dBoolT, dAndT, dOrT, dNotT, dAndV, dOrV, dNotV, dCall, dCall0, dB, dIsi, dRepr, dAbs, dInt1, dInt2, dAll, dstart, dwipe, clean, Sl.clean, List.map_cons, List.map_nil, List.length_cons, List.length_nil, List.replicate, List.cons_append, List.nil_append, List.set_cons_zero, List.set_cons_succ, List.getElem?_cons_zero, List.getElem?_cons_succ, Nat.reduceAdd, Nat.reduceSub, Nat.add_zero, Nat.zero_add, Nat.add_sub_cancel, Nat.sub_self, atI_0, atI_1, atI_2, atI_3, dLtI, dLeI, dGtI, dGeI, dSub, dFd, dMod, dPow, eAdd_i, eAdd_l, eMul_i, eMul_l, eIx_l, eIx_t, eLen_l, eLen_t, eInt_i, eInt_b, eEq_i, eNe_i, eEq_e, dRaise, dRetX, dTry, dGcd3, dIsB, dChain, dZip, dItT, dItL, dSl, dNoPart, dPart, dChain, dgUnl, dParO, notN_no, notN_t, isN_no, dRev, dParC, dOwnC, dMaxD, dEnum, capD, dLstN, seqD, cond]; exact fin)
  have ln : 0 < ps.length := List.length_pos_iff.mpr hne
  show dSeq _ _ _ [.val (seqD b (ps.map pD)), .emp, .emp, .emp, .emp]
  refine dIf_no (fun R hR => ?_) ?_
  · have e : decide ((ps.length : Int) = 0) = false := decide_eq_false (by omega)
    cases b <;> (simp only [dSeq, dNext, dRet, dIf, dDrop, dAsg, dgName, dgNil, dgCons, dgTup, dPar, dPar3, dOwn, dApp, dFrz, dVar, dC, dOp, dI, dI0, dB0, dNeg, dTup, dLst, dBoolT, dAndT, dOrT, dNotT, dAndV, dOrV, dNotV, dCall, dCall0, dB, dIsi, dRepr, dAbs, dInt1, dInt2, dAll, dstart, dwipe, clean, Sl.clean, List.map_cons, List.map_nil, List.length_cons, List.length_nil, List.replicate, List.cons_append, List.nil_append, List.set_cons_zero, List.set_cons_succ, List.getElem?_cons_zero, List.getElem?_cons_succ, Nat.reduceAdd, Nat.reduceSub, Nat.add_zero, Nat.zero_add, Nat.add_sub_cancel, Nat.sub_self, atI_0, atI_1, atI_2, atI_3, dLtI, dLeI, dGtI, dGeI, dSub, dFd, dMod, dPow, eAdd_i, eAdd_l, eMul_i, eMul_l, eIx_l, eIx_t, eLen_l, eLen_t, eInt_i, eInt_b, eEq_i, eNe_i, eEq_e, dRaise, dRetX, dTry, dGcd3, dIsB, dChain, dZip, dItT, dItL, dSl, dNoPart, dPart, dChain, dgUnl, dParO, notN_no, notN_t, isN_no, dRev, dParC, dOwnC, dMaxD, dEnum, capD, dLstN, seqD, cond, List.length_map]; rw [e]; exact hR)
  refine dSeq_g (fun σ => σ = [.val (seqD b (ps.map pD)), .val (.list ((ascL ps).map pD)), .emp, .emp, .emp]) ?_ ?_
  · intro N hN
    simp only [dSeq, dNext, dRet, dIf, dDrop, dAsg, dgName, dgNil, dgCons, dgTup, dPar, dPar3, dOwn, dApp, dFrz, dVar, dC, dOp, dI, dI0, dB0, dNeg, dTup, dLst, dBoolT, dAndT, dOrT, dNotT, dAndV, dOrV, dNotV, dCall, dCall0, dB, dIsi, dRepr, dAbs, dInt1, dInt2, dAll, dstart, dwipe, clean, Sl.clean, List.map_cons, List.map_nil, List.length_cons, List.length_nil, List.replicate, List.cons_append, List.nil_append, List.set_cons_zero, List.set_cons_succ, List.getElem?_cons_zero, List.getElem?_cons_succ, Nat.reduceAdd, Nat.reduceSub, Nat.add_zero, Nat.zero_add, Nat.add_sub_cancel, Nat.sub_self, atI_0, atI_1, atI_2, atI_3, dLtI, dLeI, dGtI, dGeI, dSub, dFd, dMod, dPow, eAdd_i, eAdd_l, eMul_i, eMul_l, eIx_l, eIx_t, eLen_l, eLen_t, eInt_i, eInt_b, eEq_i, eNe_i, eEq_e, dRaise, dRetX, dTry, dGcd3, dIsB, dChain, dZip, dItT, dItL, dSl, dNoPart, dPart, dChain, dgUnl, dParO, notN_no, notN_t, isN_no, dRev, dParC, dOwnC, dMaxD, dEnum, capD, dLstN]
    exact ⟨b, ps, ⟨rfl, ⟨k, hk, hb⟩, hl⟩, hN _ rfl⟩
  rintro σ2 rfl
  have al := asc_len ps
  have ml := pord_len ps
  have mm := pord_mem ps
  have eo := once_eq ps
  refine dSeq_g (fun σ => ∃ x3 x4 : Sl, σ = [.val (seqD b (ps.map pD)), .val (.list ((ascL ps).map pD)), .val (.list ((ordT Pt.lt ps).map pD)), x3, x4]) ?_ ?_
  · intro N hN
    rw [← eo] at hN
    generalize ascL ps = R at al hN ⊢
    generalize seqD b (ps.map pD) = A at hN ⊢
    simp only [dSeq, dNext, dRet, dIf, dDrop, dAsg, dgName, dgNil, dgCons, dgTup, dPar, dPar3, dOwn, dApp, dFrz, dVar, dC, dOp, dI, dI0, dB0, dNeg, dTup, dLst, dBoolT, dAndT, dOrT, dNotT, dAndV, dOrV, dNotV, dCall, dCall0, dB, dIsi, dRepr, dAbs, dInt1, dInt2, dAll, dstart, dwipe, clean, Sl.clean, List.map_cons, List.map_nil, List.length_cons, List.length_nil, List.replicate, List.cons_append, List.nil_append, List.set_cons_zero, List.set_cons_succ, List.getElem?_cons_zero, List.getElem?_cons_succ, Nat.reduceAdd, Nat.reduceSub, Nat.add_zero, Nat.zero_add, Nat.add_sub_cancel, Nat.sub_self, atI_0, atI_1, atI_2, atI_3, dLtI, dLeI, dGtI, dGeI, dSub, dFd, dMod, dPow, eAdd_i, eAdd_l, eMul_i, eMul_l, eIx_l, eIx_t, eLen_l, eLen_t, eInt_i, eInt_b, eEq_i, eNe_i, eEq_e, dRaise, dRetX, dTry, dGcd3, dIsB, dChain, dZip, dItT, dItL, dSl, dNoPart, dPart, dChain, dgUnl, dParO, notN_no, notN_t, isN_no, dRev, dParC, dOwnC, dMaxD, dEnum, capD, dLstN]
    refine dLcc_once R (fun P hP => ?_) (by omega) ?_ ?_
    · simp only [dSeq, dNext, dRet, dIf, dDrop, dAsg, dgName, dgNil, dgCons, dgTup, dPar, dPar3, dOwn, dApp, dFrz, dVar, dC, dOp, dI, dI0, dB0, dNeg, dTup, dLst, dBoolT, dAndT, dOrT, dNotT, dAndV, dOrV, dNotV, dCall, dCall0, dB, dIsi, dRepr, dAbs, dInt1, dInt2, dAll, dstart, dwipe, clean, Sl.clean, List.map_cons, List.map_nil, List.length_cons, List.length_nil, List.replicate, List.cons_append, List.nil_append, List.set_cons_zero, List.set_cons_succ, List.getElem?_cons_zero, List.getElem?_cons_succ, Nat.reduceAdd, Nat.reduceSub, Nat.add_zero, Nat.zero_add, Nat.add_sub_cancel, Nat.sub_self, atI_0, atI_1, atI_2, atI_3, dLtI, dLeI, dGtI, dGeI, dSub, dFd, dMod, dPow, eAdd_i, eAdd_l, eMul_i, eMul_l, eIx_l, eIx_t, eLen_l, eLen_t, eInt_i, eInt_b, eEq_i, eNe_i, eEq_e, dRaise, dRetX, dTry, dGcd3, dIsB, dChain, dZip, dItT, dItL, dSl, dNoPart, dPart, dChain, dgUnl, dParO, notN_no, notN_t, isN_no, dRev, dParC, dOwnC, dMaxD, dEnum, capD, dLstN]
      exact hP
    · intro i x hx Q1 Q0 q1 q0
      have hi : i < R.length := (List.getElem?_eq_some_iff.mp hx).1
      simp only [dSeq, dNext, dRet, dIf, dDrop, dAsg, dgName, dgNil, dgCons, dgTup, dPar, dPar3, dOwn, dApp, dFrz, dVar, dC, dOp, dI, dI0, dB0, dNeg, dTup, dLst, dBoolT, dAndT, dOrT, dNotT, dAndV, dOrV, dNotV, dCall, dCall0, dB, dIsi, dRepr, dAbs, dInt1, dInt2, dAll, dstart, dwipe, clean, Sl.clean, List.map_cons, List.map_nil, List.length_cons, List.length_nil, List.replicate, List.cons_append, List.nil_append, List.set_cons_zero, List.set_cons_succ, List.getElem?_cons_zero, List.getElem?_cons_succ, Nat.reduceAdd, Nat.reduceSub, Nat.add_zero, Nat.zero_add, Nat.add_sub_cancel, Nat.sub_self, atI_0, atI_1, atI_2, atI_3, dLtI, dLeI, dGtI, dGeI, dSub, dFd, dMod, dPow, eAdd_i, eAdd_l, eMul_i, eMul_l, eIx_l, eIx_t, eLen_l, eLen_t, eInt_i, eInt_b, eEq_i, eNe_i, eEq_e, dRaise, dRetX, dTry, dGcd3, dIsB, dChain, dZip, dItT, dItL, dSl, dNoPart, dPart, dChain, dgUnl, dParO, notN_no, notN_t, isN_no, dRev, dParC, dOwnC, dMaxD, dEnum, capD, dLstN]
      by_cases z : i = 0
      · refine ifT (decide_eq_true (by omega)) ?_
        first
          | exact q1 (Or.inl z)
          | exact iteT (q1 (Or.inl z))
      · refine ifF (decide_eq_false (by omega)) ?_
        have hj : R[i - 1]? = some R[i - 1] := List.getElem?_eq_getElem (by omega)
        have a1 : L2.atI (R.map pD) ((i : Int) - 1) = some (pD R[i - 1]) := by
          rw [show ((i : Int) - 1) = ((i - 1 : Nat) : Int) by omega]
          exact atI_nat (by rw [List.getElem?_map, hj]; rfl)
        generalize R.map pD = L at a1 ⊢
        rw [a1]
        dsimp only
        refine dNe_pD ?_
        by_cases y : x = R[i - 1]
        · rw [decide_eq_true y]
          refine iteF (q0 fun n => ?_)
          rcases n with n | n
          · exact z n
          · exact n (by rw [hj, ← y])
        · rw [decide_eq_false y]
          exact iteT (q1 (.inr fun w => y (by rw [hj] at w; exact (Option.some.inj w).symm)))
    · exact hN _ ⟨_, _, rfl⟩
  rintro σ2 ⟨x3, x4, rfl⟩
  have ne' : ordT Pt.lt ps ≠ [] := fun z => by
    cases ps with
    | nil => exact hne rfl
    | cons p r => have := (mm p).mpr (by simp); rw [z] at this; cases this
  unfold hullP at h
  have hb' : ∀ x ∈ ordT Pt.lt ps, PB k x := fun x hx => hb x ((mm x).mp hx)
  generalize ordT Pt.lt ps = qs at ml hb' h ne' ⊢
  generalize seqD b (ps.map pD) = A
  generalize (ascL ps).map pD = B
  match qs, ml, hb', h, ne' with
  | [], _, _, _, ne' => exact absurd rfl ne'
  | [q], ml, hb', h, _ =>
    rw [if_pos (by simp)] at h
    simp only [dSeq, dNext, dRet, dIf, dDrop, dAsg, dgName, dgNil, dgCons, dgTup, dPar, dPar3, dOwn, dApp, dFrz, dVar, dC, dOp, dI, dI0, dB0, dNeg, dTup, dLst, dBoolT, dAndT, dOrT, dNotT, dAndV, dOrV, dNotV, dCall, dCall0, dB, dIsi, dRepr, dAbs, dInt1, dInt2, dAll, dstart, dwipe, clean, Sl.clean, List.map_cons, List.map_nil, List.length_cons, List.length_nil, List.replicate, List.cons_append, List.nil_append, List.set_cons_zero, List.set_cons_succ, List.getElem?_cons_zero, List.getElem?_cons_succ, Nat.reduceAdd, Nat.reduceSub, Nat.add_zero, Nat.zero_add, Nat.add_sub_cancel, Nat.sub_self, atI_0, atI_1, atI_2, atI_3, dLtI, dLeI, dGtI, dGeI, dSub, dFd, dMod, dPow, eAdd_i, eAdd_l, eMul_i, eMul_l, eIx_l, eIx_t, eLen_l, eLen_t, eInt_i, eInt_b, eEq_i, eNe_i, eEq_e, dRaise, dRetX, dTry, dGcd3, dIsB, dChain, dZip, dItT, dItL, dSl, dNoPart, dPart, dChain, dgUnl, dParO, notN_no, notN_t, isN_no, dRev, dParC, dOwnC, dMaxD, dEnum, capD, dLstN]
    exact ifT (by simp) h
  | q :: q2 :: r, ml, hb', h, _ =>
    rw [if_neg (by simp)] at h
    generalize hqs : q :: q2 :: r = qs at ml hb' h ⊢
    have z : 1 < qs.length := by rw [← hqs]; simp
    have c1 := chain_len Pt.o qs
    have c2 := chain_len Pt.o qs.reverse
    rw [List.length_reverse] at c2
    simp only [dSeq, dNext, dRet, dIf, dDrop, dAsg, dgName, dgNil, dgCons, dgTup, dPar, dPar3, dOwn, dApp, dFrz, dVar, dC, dOp, dI, dI0, dB0, dNeg, dTup, dLst, dBoolT, dAndT, dOrT, dNotT, dAndV, dOrV, dNotV, dCall, dCall0, dB, dIsi, dRepr, dAbs, dInt1, dInt2, dAll, dstart, dwipe, clean, Sl.clean, List.map_cons, List.map_nil, List.length_cons, List.length_nil, List.replicate, List.cons_append, List.nil_append, List.set_cons_zero, List.set_cons_succ, List.getElem?_cons_zero, List.getElem?_cons_succ, Nat.reduceAdd, Nat.reduceSub, Nat.add_zero, Nat.zero_add, Nat.add_sub_cancel, Nat.sub_self, atI_0, atI_1, atI_2, atI_3, dLtI, dLeI, dGtI, dGeI, dSub, dFd, dMod, dPow, eAdd_i, eAdd_l, eMul_i, eMul_l, eIx_l, eIx_t, eLen_l, eLen_t, eInt_i, eInt_b, eEq_i, eNe_i, eEq_e, dRaise, dRetX, dTry, dGcd3, dIsB, dChain, dZip, dItT, dItL, dSl, dNoPart, dPart, dChain, dgUnl, dParO, notN_no, notN_t, isN_no, dRev, dParC, dOwnC, dMaxD, dEnum, capD, dLstN, dSlA, dRev]
    refine ifF (decide_eq_false (by simp; omega)) ⟨qs, ⟨rfl, ⟨k, hk, hb'⟩, by omega⟩, qs.reverse, ⟨by rw [List.map_reverse], ⟨k, hk, fun x hx => hb' x (List.mem_reverse.mp hx)⟩, by rw [List.length_reverse]; omega⟩, ?_⟩
    rw [cut_init]
    dsimp only
    rw [cut_init]
    refine ⟨?_, ?_⟩
    · simp only [chainL, List.length_map, List.length_dropLast, List.length_reverse]; omega
    unfold hullL at h
    rw [List.map_append] at h
    exact h
theorem ok_is_plate (T : Tx K mg base) : DefOk P w K mg base 7 "is_plate" ["value"] spIsPlateC := by
  refine defOk T.f_is_plate sc_is_plate bn_is_plate (fun f cdv A outer s H hr hg => (pss_dc (psd_if (pdt_w (pdw_or (pdt_not (pdt_val (pd_isi kit_tuple T.hpk.tuple (fun _ => rfl) rfl T.b_isinstance (by decide +kernel) rfl T.b_tuple (by decide +kernel) (pd_var 0)))) (pdw_or1 (pdt_eq hr.units (pd_blt call_len lc_len rfl T.b_len (by decide +kernel) (pda_cons (pd_var 0) pda_nil)) pd_int)))) (pss_d1 (psd_ret pd_bl)) pss_d0)
      (pss_dc (psd_if (pdt_not (pdt_val (pd_blt (cr_all rfl) lc_all rfl T.b_all (by decide +kernel) (pda_cons (pd_new (pdn_lc (own := [("part", 1)]) rfl sc_is_plate.nd (pdi_tup (pd_var 0)) (blk (N := N_is_plate) (sc := defScope s_is_plate) (by decide +kernel)) (fun _ _ _ _ _ => pg_name sc_is_plate.nd rfl (Or.inl rfl)) (lg_name 1) (sets_name (by decide)) (fun _ _ _ _ _ => (pd_fn (ok_is_place T) hr (by decide) hg (pda_cons (pd_var 1) pda_nil))))) pda_nil)))) (pss_d1 (psd_ret pd_bl)) pss_d0)
      (pss_d1 (psd_ret (pd_eq hr.units (pd_fn ((ok_hull T).quiet (spd' := qz spHullX) fun _ _ h => h) hr (by decide) hg (pda_cons (pd_var 0) pda_nil)) (pd_var 0))))))) ?_
  rintro ds Qd _ ⟨d, rfl, hd, h⟩
  show dSeq _ _ _ _
  by_cases hx : ∃ xs, d = .tuple xs
  case neg =>
    have t0 : isTy "tuple" d = false := by cases d <;> first | rfl | exact absurd ⟨_, rfl⟩ hx
    have m0 : isPlate d = false := by cases d <;> first | rfl | exact absurd ⟨_, rfl⟩ hx
    rw [m0] at h
    refine dIf_k true (fun _ => False) (fun R hR => ?_) (fun _ N _ => h) (fun z => nomatch z) (fun _ z => z.elim)
    simp only [dSeq, dNext, dRet, dIf, dDrop, dAsg, dgName, dgNil, dgCons, dgTup, dPar, dPar3, dOwn, dApp, dFrz, dVar, dC, dOp, dI, dI0, dB0, dNeg, dTup, dLst, dBoolT, dAndT, dOrT, dNotT, dAndV, dOrV, dNotV, dCall, dCall0, dB, dIsi, dRepr, dAbs, dInt1, dInt2, dAll, dstart, dwipe, clean, Sl.clean, List.map_cons, List.map_nil, List.length_cons, List.length_nil, List.replicate, List.cons_append, List.nil_append, List.set_cons_zero, List.set_cons_succ, List.getElem?_cons_zero, List.getElem?_cons_succ, Nat.reduceAdd, Nat.reduceSub, Nat.add_zero, Nat.zero_add, Nat.add_sub_cancel, Nat.sub_self, atI_0, atI_1, atI_2, atI_3, dLtI, dLeI, dGtI, dGeI, dSub, dFd, dMod, dPow, eAdd_i, eAdd_l, eMul_i, eMul_l, eIx_l, eIx_t, eLen_l, eLen_t, eInt_i, eInt_b, eEq_i, eNe_i, eEq_e, dRaise, dRetX, dTry, dGcd3, dIsB, dChain, dZip, dItT, dItL, dSl, dNoPart, dPart, dChain, dgUnl, dParO, notN_no, notN_t, isN_no, dRev, dParC, dOwnC, dMaxD, dEnum, capD, dLstN]
    rw [t0]
    exact hR
  obtain ⟨xs, rfl⟩ := hx
  obtain ⟨xl, xm⟩ := hd.tup
  have hp : isPlate (.tuple xs) = (!xs.isEmpty && (xs.all isPlace && PyData.eqv (.tuple ((hullP (xs.map unP)).map pD)) (.tuple xs))) := rfl
  rw [hp] at h
  by_cases hn : xs = []
  · subst hn
    refine dIf_k true (fun _ => False) (fun R hR => ?_) (fun _ N _ => h) (fun z => nomatch z) (fun _ z => z.elim)
    simp only [dSeq, dNext, dRet, dIf, dDrop, dAsg, dgName, dgNil, dgCons, dgTup, dPar, dPar3, dOwn, dApp, dFrz, dVar, dC, dOp, dI, dI0, dB0, dNeg, dTup, dLst, dBoolT, dAndT, dOrT, dNotT, dAndV, dOrV, dNotV, dCall, dCall0, dB, dIsi, dRepr, dAbs, dInt1, dInt2, dAll, dstart, dwipe, clean, Sl.clean, List.map_cons, List.map_nil, List.length_cons, List.length_nil, List.replicate, List.cons_append, List.nil_append, List.set_cons_zero, List.set_cons_succ, List.getElem?_cons_zero, List.getElem?_cons_succ, Nat.reduceAdd, Nat.reduceSub, Nat.add_zero, Nat.zero_add, Nat.add_sub_cancel, Nat.sub_self, atI_0, atI_1, atI_2, atI_3, dLtI, dLeI, dGtI, dGeI, dSub, dFd, dMod, dPow, eAdd_i, eAdd_l, eMul_i, eMul_l, eIx_l, eIx_t, eLen_l, eLen_t, eInt_i, eInt_b, eEq_i, eNe_i, eEq_e, dRaise, dRetX, dTry, dGcd3, dIsB, dChain, dZip, dItT, dItL, dSl, dNoPart, dPart, dChain, dgUnl, dParO, notN_no, notN_t, isN_no, dRev, dParC, dOwnC, dMaxD, dEnum, capD, dLstN, isTy, tyN]
    exact hR
  have e0 : xs.isEmpty = false := by cases xs <;> first | rfl | exact absurd rfl hn
  have l0 := List.length_pos_iff.mpr hn
  rw [e0, Bool.not_false, Bool.true_and] at h
  refine dIf_no (fun R hR => ?_) ?_
  · simp only [dSeq, dNext, dRet, dIf, dDrop, dAsg, dgName, dgNil, dgCons, dgTup, dPar, dPar3, dOwn, dApp, dFrz, dVar, dC, dOp, dI, dI0, dB0, dNeg, dTup, dLst, dBoolT, dAndT, dOrT, dNotT, dAndV, dOrV, dNotV, dCall, dCall0, dB, dIsi, dRepr, dAbs, dInt1, dInt2, dAll, dstart, dwipe, clean, Sl.clean, List.map_cons, List.map_nil, List.length_cons, List.length_nil, List.replicate, List.cons_append, List.nil_append, List.set_cons_zero, List.set_cons_succ, List.getElem?_cons_zero, List.getElem?_cons_succ, Nat.reduceAdd, Nat.reduceSub, Nat.add_zero, Nat.zero_add, Nat.add_sub_cancel, Nat.sub_self, atI_0, atI_1, atI_2, atI_3, dLtI, dLeI, dGtI, dGeI, dSub, dFd, dMod, dPow, eAdd_i, eAdd_l, eMul_i, eMul_l, eIx_l, eIx_t, eLen_l, eLen_t, eInt_i, eInt_b, eEq_i, eNe_i, eEq_e, dRaise, dRetX, dTry, dGcd3, dIsB, dChain, dZip, dItT, dItL, dSl, dNoPart, dPart, dChain, dgUnl, dParO, notN_no, notN_t, isN_no, dRev, dParC, dOwnC, dMaxD, dEnum, capD, dLstN, isTy, tyN]
    refine iteF ?_
    rw [decide_eq_false (by omega)]
    exact hR
  by_cases ha : xs.all isPlace = true
  · obtain ⟨ps, rfl⟩ := places_of ha
    rw [ha, Bool.true_and, unP_map] at h
    have pne : ps ≠ [] := fun z => hn (by rw [z]; rfl)
    refine dIf_no (fun R hR => ?_) ?_
    · simp only [dSeq, dNext, dRet, dIf, dDrop, dAsg, dgName, dgNil, dgCons, dgTup, dPar, dPar3, dOwn, dApp, dFrz, dVar, dC, dOp, dI, dI0, dB0, dNeg, dTup, dLst, dBoolT, dAndT, dOrT, dNotT, dAndV, dOrV, dNotV, dCall, dCall0, dB, dIsi, dRepr, dAbs, dInt1, dInt2, dAll, dstart, dwipe, clean, Sl.clean, List.map_cons, List.map_nil, List.length_cons, List.length_nil, List.replicate, List.cons_append, List.nil_append, List.set_cons_zero, List.set_cons_succ, List.getElem?_cons_zero, List.getElem?_cons_succ, Nat.reduceAdd, Nat.reduceSub, Nat.add_zero, Nat.zero_add, Nat.add_sub_cancel, Nat.sub_self, atI_0, atI_1, atI_2, atI_3, dLtI, dLeI, dGtI, dGeI, dSub, dFd, dMod, dPow, eAdd_i, eAdd_l, eMul_i, eMul_l, eIx_l, eIx_t, eLen_l, eLen_t, eInt_i, eInt_b, eEq_i, eNe_i, eEq_e, dRaise, dRetX, dTry, dGcd3, dIsB, dChain, dZip, dItT, dItL, dSl, dNoPart, dPart, dChain, dgUnl, dParO, notN_no, notN_t, isN_no, dRev, dParC, dOwnC, dMaxD, dEnum, capD, dLstN]
      generalize hX : ps.map pD = xs at *
      refine dLcc_m xs (fun d : D => d) (fun d => .bool (isPlace d)) (fun R hR => ?_) (by omega) ?_ ?_
      · simp only [dSeq, dNext, dRet, dIf, dDrop, dAsg, dgName, dgNil, dgCons, dgTup, dPar, dPar3, dOwn, dApp, dFrz, dVar, dC, dOp, dI, dI0, dB0, dNeg, dTup, dLst, dBoolT, dAndT, dOrT, dNotT, dAndV, dOrV, dNotV, dCall, dCall0, dB, dIsi, dRepr, dAbs, dInt1, dInt2, dAll, dstart, dwipe, clean, Sl.clean, List.map_cons, List.map_nil, List.length_cons, List.length_nil, List.replicate, List.cons_append, List.nil_append, List.set_cons_zero, List.set_cons_succ, List.getElem?_cons_zero, List.getElem?_cons_succ, Nat.reduceAdd, Nat.reduceSub, Nat.add_zero, Nat.zero_add, Nat.add_sub_cancel, Nat.sub_self, atI_0, atI_1, atI_2, atI_3, dLtI, dLeI, dGtI, dGeI, dSub, dFd, dMod, dPow, eAdd_i, eAdd_l, eMul_i, eMul_l, eIx_l, eIx_t, eLen_l, eLen_t, eInt_i, eInt_b, eEq_i, eNe_i, eEq_e, dRaise, dRetX, dTry, dGcd3, dIsB, dChain, dZip, dItT, dItL, dSl, dNoPart, dPart, dChain, dgUnl, dParO, notN_no, notN_t, isN_no, dRev, dParC, dOwnC, dMaxD, dEnum, capD, dLstN, dItT]
        rw [List.map_id'] at hR
        exact hR
      · intro x hx Q hQ
        simp only [dSeq, dNext, dRet, dIf, dDrop, dAsg, dgName, dgNil, dgCons, dgTup, dPar, dPar3, dOwn, dApp, dFrz, dVar, dC, dOp, dI, dI0, dB0, dNeg, dTup, dLst, dBoolT, dAndT, dOrT, dNotT, dAndV, dOrV, dNotV, dCall, dCall0, dB, dIsi, dRepr, dAbs, dInt1, dInt2, dAll, dstart, dwipe, clean, Sl.clean, List.map_cons, List.map_nil, List.length_cons, List.length_nil, List.replicate, List.cons_append, List.nil_append, List.set_cons_zero, List.set_cons_succ, List.getElem?_cons_zero, List.getElem?_cons_succ, Nat.reduceAdd, Nat.reduceSub, Nat.add_zero, Nat.zero_add, Nat.add_sub_cancel, Nat.sub_self, atI_0, atI_1, atI_2, atI_3, dLtI, dLeI, dGtI, dGeI, dSub, dFd, dMod, dPow, eAdd_i, eAdd_l, eMul_i, eMul_l, eIx_l, eIx_t, eLen_l, eLen_t, eInt_i, eInt_b, eEq_i, eNe_i, eEq_e, dRaise, dRetX, dTry, dGcd3, dIsB, dChain, dZip, dItT, dItL, dSl, dNoPart, dPart, dChain, dgUnl, dParO, notN_no, notN_t, isN_no, dRev, dParC, dOwnC, dMaxD, dEnum, capD, dLstN]
        exact ⟨x, rfl, bulk_tup (xm x hx).2 (by decide), hQ⟩
      · rw [bools_map]
        dsimp only
        rw [show ((xs.map isPlace).all id) = xs.all isPlace by rw [List.all_map]; rfl]
        rw [ha]
        exact hR
    rw [List.length_map] at xl
    have pb : ∀ p ∈ ps, PB 900 p := fun p hp => pb_tame (xm (pD p) (List.mem_map_of_mem hp)).1
    simp only [dSeq, dNext, dRet, dIf, dDrop, dAsg, dgName, dgNil, dgCons, dgTup, dPar, dPar3, dOwn, dApp, dFrz, dVar, dC, dOp, dI, dI0, dB0, dNeg, dTup, dLst, dBoolT, dAndT, dOrT, dNotT, dAndV, dOrV, dNotV, dCall, dCall0, dB, dIsi, dRepr, dAbs, dInt1, dInt2, dAll, dstart, dwipe, clean, Sl.clean, List.map_cons, List.map_nil, List.length_cons, List.length_nil, List.replicate, List.cons_append, List.nil_append, List.set_cons_zero, List.set_cons_succ, List.getElem?_cons_zero, List.getElem?_cons_succ, Nat.reduceAdd, Nat.reduceSub, Nat.add_zero, Nat.zero_add, Nat.add_sub_cancel, Nat.sub_self, atI_0, atI_1, atI_2, atI_3, dLtI, dLeI, dGtI, dGeI, dSub, dFd, dMod, dPow, eAdd_i, eAdd_l, eMul_i, eMul_l, eIx_l, eIx_t, eLen_l, eLen_t, eInt_i, eInt_b, eEq_i, eNe_i, eEq_e, dRaise, dRetX, dTry, dGcd3, dIsB, dChain, dZip, dItT, dItL, dSl, dNoPart, dPart, dChain, dgUnl, dParO, notN_no, notN_t, isN_no, dRev, dParC, dOwnC, dMaxD, dEnum, capD, dLstN]
    exact .inl ⟨false, ps, ⟨rfl, ⟨900, by decide, pb⟩, by omega⟩, pne, sh_ptsT _, sh_ptsT _, h⟩
  · have ha : xs.all isPlace = false := by simpa using ha
    rw [ha, Bool.false_and] at h
    refine dIf_k true (fun _ => False) (fun R hR => ?_) (fun _ N _ => h) (fun z => nomatch z) (fun _ z => z.elim)
    · simp only [dSeq, dNext, dRet, dIf, dDrop, dAsg, dgName, dgNil, dgCons, dgTup, dPar, dPar3, dOwn, dApp, dFrz, dVar, dC, dOp, dI, dI0, dB0, dNeg, dTup, dLst, dBoolT, dAndT, dOrT, dNotT, dAndV, dOrV, dNotV, dCall, dCall0, dB, dIsi, dRepr, dAbs, dInt1, dInt2, dAll, dstart, dwipe, clean, Sl.clean, List.map_cons, List.map_nil, List.length_cons, List.length_nil, List.replicate, List.cons_append, List.nil_append, List.set_cons_zero, List.set_cons_succ, List.getElem?_cons_zero, List.getElem?_cons_succ, Nat.reduceAdd, Nat.reduceSub, Nat.add_zero, Nat.zero_add, Nat.add_sub_cancel, Nat.sub_self, atI_0, atI_1, atI_2, atI_3, dLtI, dLeI, dGtI, dGeI, dSub, dFd, dMod, dPow, eAdd_i, eAdd_l, eMul_i, eMul_l, eIx_l, eIx_t, eLen_l, eLen_t, eInt_i, eInt_b, eEq_i, eNe_i, eEq_e, dRaise, dRetX, dTry, dGcd3, dIsB, dChain, dZip, dItT, dItL, dSl, dNoPart, dPart, dChain, dgUnl, dParO, notN_no, notN_t, isN_no, dRev, dParC, dOwnC, dMaxD, dEnum, capD, dLstN]
      refine dLcc_m xs (fun d : D => d) (fun d => .bool (isPlace d)) (fun R hR => ?_) (by omega) ?_ ?_
      · simp only [dSeq, dNext, dRet, dIf, dDrop, dAsg, dgName, dgNil, dgCons, dgTup, dPar, dPar3, dOwn, dApp, dFrz, dVar, dC, dOp, dI, dI0, dB0, dNeg, dTup, dLst, dBoolT, dAndT, dOrT, dNotT, dAndV, dOrV, dNotV, dCall, dCall0, dB, dIsi, dRepr, dAbs, dInt1, dInt2, dAll, dstart, dwipe, clean, Sl.clean, List.map_cons, List.map_nil, List.length_cons, List.length_nil, List.replicate, List.cons_append, List.nil_append, List.set_cons_zero, List.set_cons_succ, List.getElem?_cons_zero, List.getElem?_cons_succ, Nat.reduceAdd, Nat.reduceSub, Nat.add_zero, Nat.zero_add, Nat.add_sub_cancel, Nat.sub_self, atI_0, atI_1, atI_2, atI_3, dLtI, dLeI, dGtI, dGeI, dSub, dFd, dMod, dPow, eAdd_i, eAdd_l, eMul_i, eMul_l, eIx_l, eIx_t, eLen_l, eLen_t, eInt_i, eInt_b, eEq_i, eNe_i, eEq_e, dRaise, dRetX, dTry, dGcd3, dIsB, dChain, dZip, dItT, dItL, dSl, dNoPart, dPart, dChain, dgUnl, dParO, notN_no, notN_t, isN_no, dRev, dParC, dOwnC, dMaxD, dEnum, capD, dLstN, dItT]
        rw [List.map_id'] at hR
        exact hR
      · intro x hx Q hQ
        simp only [dSeq, dNext, dRet, dIf, dDrop, dAsg, dgName, dgNil, dgCons, dgTup, dPar, dPar3, dOwn, dApp, dFrz, dVar, dC, dOp, dI, dI0, dB0, dNeg, dTup, dLst, dBoolT, dAndT, dOrT, dNotT, dAndV, dOrV, dNotV, dCall, dCall0, dB, dIsi, dRepr, dAbs, dInt1, dInt2, dAll, dstart, dwipe, clean, Sl.clean, List.map_cons, List.map_nil, List.length_cons, List.length_nil, List.replicate, List.cons_append, List.nil_append, List.set_cons_zero, List.set_cons_succ, List.getElem?_cons_zero, List.getElem?_cons_succ, Nat.reduceAdd, Nat.reduceSub, Nat.add_zero, Nat.zero_add, Nat.add_sub_cancel, Nat.sub_self, atI_0, atI_1, atI_2, atI_3, dLtI, dLeI, dGtI, dGeI, dSub, dFd, dMod, dPow, eAdd_i, eAdd_l, eMul_i, eMul_l, eIx_l, eIx_t, eLen_l, eLen_t, eInt_i, eInt_b, eEq_i, eNe_i, eEq_e, dRaise, dRetX, dTry, dGcd3, dIsB, dChain, dZip, dItT, dItL, dSl, dNoPart, dPart, dChain, dgUnl, dParO, notN_no, notN_t, isN_no, dRev, dParC, dOwnC, dMaxD, dEnum, capD, dLstN]
        exact ⟨x, rfl, bulk_tup (xm x hx).2 (by decide), hQ⟩
      · rw [bools_map]
        dsimp only
        rw [show ((xs.map isPlace).all id) = xs.all isPlace by rw [List.all_map]; rfl]
        rw [ha]
        exact hR
theorem ok_is_met (T : Tx K mg base) : DefOk P w K mg base 3 "is_met" ["plate", "plane"] spMet := by
  refine defOk T.f_is_met sc_is_met bn_is_met (fun f cdv A outer s H hr hg => (pss_dc (psd_for PassesOwn.never rfl (pdi_tup (pd_var 0)) (pdg_name (i := 2) sc_is_met.nd rfl (Or.inl rfl)) (pss_d1 (psd_if (pdt_val (pd_fn (ok_has T) hr (by decide) hg (pda_cons (pd_var 1) (pda_cons (pd_var 2) pda_nil)))) (pss_d1 (psd_ret pd_bl)) pss_d0)))
      (pss_d1 (psd_ret pd_bl)))) ?_
  rintro ds Qd _ ⟨H, A, B, C, k, rfl, hb, hA, hB, hC, hk, hl, h⟩
  refine dFor_m H pD (fun pre σ => (∀ x ∈ pre, ¬ 0 ≤ excess A B C x.x x.y x.d) ∧ ∃ x2 : Sl, σ = [.val (.tuple (H.map pD)), .val (pl A B C), x2]) ?_ ⟨by simp, _, rfl⟩ ?_ ?_
  · intro R hR
    simp only [dSeq, dNext, dRet, dIf, dDrop, dAsg, dgName, dgNil, dgCons, dgTup, dPar, dPar3, dOwn, dApp, dFrz, dVar, dC, dOp, dI, dI0, dB0, dNeg, dTup, dLst, dBoolT, dAndT, dOrT, dNotT, dAndV, dOrV, dNotV, dCall, dCall0, dB, dIsi, dRepr, dAbs, dInt1, dInt2, dAll, dstart, dwipe, clean, Sl.clean, List.map_cons, List.map_nil, List.length_cons, List.length_nil, List.replicate, List.cons_append, List.nil_append, List.set_cons_zero, List.set_cons_succ, List.getElem?_cons_zero, List.getElem?_cons_succ, Nat.reduceAdd, Nat.reduceSub, Nat.add_zero, Nat.zero_add, Nat.add_sub_cancel, Nat.sub_self, atI_0, atI_1, atI_2, atI_3, dLtI, dLeI, dGtI, dGeI, dSub, dFd, dMod, dPow, eAdd_i, eAdd_l, eMul_i, eMul_l, eIx_l, eIx_t, eLen_l, eLen_t, eInt_i, eInt_b, eEq_i, eNe_i, eEq_e, dRaise, dRetX, dTry, dGcd3, dIsB, dChain, dZip, dItT, dItL, dSl, dNoPart, dPart, dChain, dgUnl, dParO, notN_no, notN_t, isN_no, dRev, dParC, dOwnC, dItT]
    exact hR
  · rintro pre v post e σ' ⟨hp, x2, rfl⟩
    have bv := hb v (by rw [e]; simp)
    simp only [dSeq, dNext, dRet, dIf, dDrop, dAsg, dgName, dgNil, dgCons, dgTup, dPar, dPar3, dOwn, dApp, dFrz, dVar, dC, dOp, dI, dI0, dB0, dNeg, dTup, dLst, dBoolT, dAndT, dOrT, dNotT, dAndV, dOrV, dNotV, dCall, dCall0, dB, dIsi, dRepr, dAbs, dInt1, dInt2, dAll, dstart, dwipe, clean, Sl.clean, List.map_cons, List.map_nil, List.length_cons, List.length_nil, List.replicate, List.cons_append, List.nil_append, List.set_cons_zero, List.set_cons_succ, List.getElem?_cons_zero, List.getElem?_cons_succ, Nat.reduceAdd, Nat.reduceSub, Nat.add_zero, Nat.zero_add, Nat.add_sub_cancel, Nat.sub_self, atI_0, atI_1, atI_2, atI_3, dLtI, dLeI, dGtI, dGeI, dSub, dFd, dMod, dPow, eAdd_i, eAdd_l, eMul_i, eMul_l, eIx_l, eIx_t, eLen_l, eLen_t, eInt_i, eInt_b, eEq_i, eNe_i, eEq_e, dRaise, dRetX, dTry, dGcd3, dIsB, dChain, dZip, dItT, dItL, dSl, dNoPart, dPart, dChain, dgUnl, dParO, notN_no, notN_t, isN_no, dRev, dParC, dOwnC]
    refine ⟨A, B, C, v.x, v.y, v.d, k, rfl, hA, hB, hC, bv.1, bv.2.1, bv.2.2, by omega, ?_⟩
    dsimp only
    by_cases z : 0 ≤ excess A B C v.x v.y v.d
    · refine ifT (decide_eq_true z) ?_
      have : (H.any fun p => decide (0 ≤ excess A B C p.x p.y p.d)) = true := List.any_eq_true.mpr ⟨v, by rw [e]; simp, decide_eq_true z⟩
      rw [this] at h; exact h
    · refine ifF (decide_eq_false z) ⟨fun x hx => ?_, _, rfl⟩
      rcases List.mem_append.mp hx with y | y
      · exact hp x y
      · simp at y; subst y; exact z
  rintro σ' ⟨hp, x2, rfl⟩
  have : (H.any fun p => decide (0 ≤ excess A B C p.x p.y p.d)) = false := List.any_eq_false.mpr fun x hx => by simpa using hp x hx
  rw [this] at h
  simp only [dSeq, dNext, dRet, dIf, dDrop, dAsg, dgName, dgNil, dgCons, dgTup, dPar, dPar3, dOwn, dApp, dFrz, dVar, dC, dOp, dI, dI0, dB0, dNeg, dTup, dLst, dBoolT, dAndT, dOrT, dNotT, dAndV, dOrV, dNotV, dCall, dCall0, dB, dIsi, dRepr, dAbs, dInt1, dInt2, dAll, dstart, dwipe, clean, Sl.clean, List.map_cons, List.map_nil, List.length_cons, List.length_nil, List.replicate, List.cons_append, List.nil_append, List.set_cons_zero, List.set_cons_succ, List.getElem?_cons_zero, List.getElem?_cons_succ, Nat.reduceAdd, Nat.reduceSub, Nat.add_zero, Nat.zero_add, Nat.add_sub_cancel, Nat.sub_self, atI_0, atI_1, atI_2, atI_3, dLtI, dLeI, dGtI, dGeI, dSub, dFd, dMod, dPow, eAdd_i, eAdd_l, eMul_i, eMul_l, eIx_l, eIx_t, eLen_l, eLen_t, eInt_i, eInt_b, eEq_i, eNe_i, eEq_e, dRaise, dRetX, dTry, dGcd3, dIsB, dChain, dZip, dItT, dItL, dSl, dNoPart, dPart, dChain, dgUnl, dParO, notN_no, notN_t, isN_no, dRev, dParC, dOwnC]
  exact h
theorem ok_m_rows (T : Tx K mg base) : MethOk P w K mg base 1 "rows" ["self"] spRowsM := by
  refine methOk T.m_rows sc_m_rows bn_m_rows (fun f cdv A outer s H hr hg => (pss_d1 (psd_ret (pd_new (pdn_lc (own := [("plate", 1)]) rfl sc_m_rows.nd (pdi_nd (pd_wts T.hpk (pd_var 0))) (blk (N := N_m_rows) (sc := defScope s_m_rows) (by decide +kernel)) (fun _ _ _ _ _ => pg_name sc_m_rows.nd rfl (Or.inl rfl)) (lg_name 1) (sets_name (by decide)) (fun _ _ _ _ _ => (pd_tup (pda_cons (pd_var 1) (pda_cons (pd_nget hr.u10 (pd_wts T.hpk (pd_var 0)) (pd_var 1)) pda_nil))))))))) ?_
  rintro ds Qd _ ⟨R, rfl, nd, hl, h⟩
  simp only [dSeq, dNext, dRet, dIf, dDrop, dAsg, dgName, dgNil, dgCons, dgTup, dPar, dPar3, dOwn, dApp, dFrz, dVar, dC, dOp, dI, dI0, dB0, dNeg, dTup, dLst, dBoolT, dAndT, dOrT, dNotT, dAndV, dOrV, dNotV, dCall, dCall0, dB, dIsi, dRepr, dAbs, dInt1, dInt2, dAll, dstart, dwipe, clean, Sl.clean, List.map_cons, List.map_nil, List.length_cons, List.length_nil, List.replicate, List.cons_append, List.nil_append, List.set_cons_zero, List.set_cons_succ, List.getElem?_cons_zero, List.getElem?_cons_succ, Nat.reduceAdd, Nat.reduceSub, Nat.add_zero, Nat.zero_add, Nat.add_sub_cancel, Nat.sub_self, atI_0, atI_1, atI_2, atI_3, dLtI, dLeI, dGtI, dGeI, dSub, dFd, dMod, dPow, eAdd_i, eAdd_l, eMul_i, eMul_l, eIx_l, eIx_t, eLen_l, eLen_t, eInt_i, eInt_b, eEq_i, eNe_i, eEq_e, dRaise, dRetX, dTry, dGcd3, dIsB, dChain, dZip, dItT, dItL, dSl, dNoPart, dPart, dChain, dgUnl, dParO, notN_no, notN_t, isN_no, dRev, dParC, dOwnC, dMaxD, dEnum, capD, dLstN, dNGet, dWts, dItN, dHH, dHI, dIH, dMeth, dMeth0, dMake, dIsH, dSortD, dDcn, dYes]
  refine dLcc_m R (fun r => plD r.1) rowD (fun P hP => ?_) (by omega) (fun r hr Q hQ => ?_) h
  · refine ⟨nkR R, rfl, nkR R, rfl, ?_⟩
    have e : (nkR R).map (fun x => nkD x.1) = R.map fun r => plD r.1 := by
      unfold nkR; rw [List.map_map]; exact List.map_congr_left fun r _ => plN_D r.1
    rw [e]; exact hP
  · simp only [dSeq, dNext, dRet, dIf, dDrop, dAsg, dgName, dgNil, dgCons, dgTup, dPar, dPar3, dOwn, dApp, dFrz, dVar, dC, dOp, dI, dI0, dB0, dNeg, dTup, dLst, dBoolT, dAndT, dOrT, dNotT, dAndV, dOrV, dNotV, dCall, dCall0, dB, dIsi, dRepr, dAbs, dInt1, dInt2, dAll, dstart, dwipe, clean, Sl.clean, List.map_cons, List.map_nil, List.length_cons, List.length_nil, List.replicate, List.cons_append, List.nil_append, List.set_cons_zero, List.set_cons_succ, List.getElem?_cons_zero, List.getElem?_cons_succ, Nat.reduceAdd, Nat.reduceSub, Nat.add_zero, Nat.zero_add, Nat.add_sub_cancel, Nat.sub_self, atI_0, atI_1, atI_2, atI_3, dLtI, dLeI, dGtI, dGeI, dSub, dFd, dMod, dPow, eAdd_i, eAdd_l, eMul_i, eMul_l, eIx_l, eIx_t, eLen_l, eLen_t, eInt_i, eInt_b, eEq_i, eNe_i, eEq_e, dRaise, dRetX, dTry, dGcd3, dIsB, dChain, dZip, dItT, dItL, dSl, dNoPart, dPart, dChain, dgUnl, dParO, notN_no, notN_t, isN_no, dRev, dParC, dOwnC, dMaxD, dEnum, capD, dLstN, dNGet, dWts, dItN, dHH, dHI, dIH, dMeth, dMeth0, dMake, dIsH, dSortD, dDcn, dYes]
    exact ⟨nkR R, rfl, nkR R, plN r.1, r.2, rfl, (plN_D r.1).symm, plN_ok _, by rw [lookN_nk]; exact lookT_in nd hr, hQ⟩
theorem ok_half_sum (T : Tx K mg base) : DefOk P w K mg base 4 "half_sum" ["heap", "plane"] spHalfS := by
  refine defOk T.f_half_sum sc_half_sum bn_half_sum (fun f cdv A outer s H hr hg => (pss_d1 (psd_ret (pd_blt (cr_sum rfl) lc_sum rfl T.b_sum (by decide +kernel) (pda_cons (pd_new (pdn_lci (own := [("plate", 2), ("weight", 3)]) rfl sc_half_sum.nd (pdi_list (pd_meth0 T.hpc T.hpk (ok_m_rows T) hr (by decide) hg (pd_var 0))) (blk (N := N_half_sum) (sc := defScope s_half_sum) (by decide +kernel)) (fun _ _ _ _ _ => pg_tup rfl (pgs_cons (pg_name (i := 2) sc_half_sum.nd rfl (Or.inl rfl)) (pgs_cons (pg_name (i := 3) sc_half_sum.nd rfl (Or.inl rfl)) pgs_nil))) (lg_tup (lgs_cons (lgs_cons lgs_nil)) (dgl_cons (dgl_cons dgl_nil))) (sets_tup (sets_cons (by decide) (sets_cons (by decide) sets_nil))) (fun _ _ _ _ _ => (pdt_val (pd_fn (ok_is_met T) hr (by decide) hg (pda_cons (pd_var 2) (pda_cons (pd_var 1) pda_nil))))) (fun _ _ _ _ _ => (pd_var 3)))) pda_nil))))) ?_
  rintro ds Qd _ ⟨R, e, k, rfl, nd, ok, he, hk, h⟩
  have hl : R.length ≤ 5000 := ok.l
  simp only [dSeq, dNext, dRet, dIf, dDrop, dAsg, dgName, dgNil, dgCons, dgTup, dPar, dPar3, dOwn, dApp, dFrz, dVar, dC, dOp, dI, dI0, dB0, dNeg, dTup, dLst, dBoolT, dAndT, dOrT, dNotT, dAndV, dOrV, dNotV, dCall, dCall0, dB, dIsi, dRepr, dAbs, dInt1, dInt2, dAll, dstart, dwipe, clean, Sl.clean, List.map_cons, List.map_nil, List.length_cons, List.length_nil, List.replicate, List.cons_append, List.nil_append, List.set_cons_zero, List.set_cons_succ, List.getElem?_cons_zero, List.getElem?_cons_succ, Nat.reduceAdd, Nat.reduceSub, Nat.add_zero, Nat.zero_add, Nat.add_sub_cancel, Nat.sub_self, atI_0, atI_1, atI_2, atI_3, dLtI, dLeI, dGtI, dGeI, dSub, dFd, dMod, dPow, eAdd_i, eAdd_l, eMul_i, eMul_l, eIx_l, eIx_t, eLen_l, eLen_t, eInt_i, eInt_b, eEq_i, eNe_i, eEq_e, dRaise, dRetX, dTry, dGcd3, dIsB, dChain, dZip, dItT, dItL, dSl, dNoPart, dPart, dChain, dgUnl, dParO, notN_no, notN_t, isN_no, dRev, dParC, dOwnC, dMaxD, dEnum, capD, dLstN, dNGet, dWts, dItN, dHH, dHI, dIH, dMeth, dMeth0, dMake, dIsH, dSortD, dDcn, dYes, dHE, dLenH, dOwnG, dSum]
  refine dLcc_mt R rowD (fun r => metE e r.1) (fun r => .int r.2) (fun P hP => ?_) (by omega) (fun r hr Q1 Q0 q1 q0 => ?_) ?_
  · simp only [dSeq, dNext, dRet, dIf, dDrop, dAsg, dgName, dgNil, dgCons, dgTup, dPar, dPar3, dOwn, dApp, dFrz, dVar, dC, dOp, dI, dI0, dB0, dNeg, dTup, dLst, dBoolT, dAndT, dOrT, dNotT, dAndV, dOrV, dNotV, dCall, dCall0, dB, dIsi, dRepr, dAbs, dInt1, dInt2, dAll, dstart, dwipe, clean, Sl.clean, List.map_cons, List.map_nil, List.length_cons, List.length_nil, List.replicate, List.cons_append, List.nil_append, List.set_cons_zero, List.set_cons_succ, List.getElem?_cons_zero, List.getElem?_cons_succ, Nat.reduceAdd, Nat.reduceSub, Nat.add_zero, Nat.zero_add, Nat.add_sub_cancel, Nat.sub_self, atI_0, atI_1, atI_2, atI_3, dLtI, dLeI, dGtI, dGeI, dSub, dFd, dMod, dPow, eAdd_i, eAdd_l, eMul_i, eMul_l, eIx_l, eIx_t, eLen_l, eLen_t, eInt_i, eInt_b, eEq_i, eNe_i, eEq_e, dRaise, dRetX, dTry, dGcd3, dIsB, dChain, dZip, dItT, dItL, dSl, dNoPart, dPart, dChain, dgUnl, dParO, notN_no, notN_t, isN_no, dRev, dParC, dOwnC, dMaxD, dEnum, capD, dLstN, dNGet, dWts, dItN, dHH, dHI, dIH, dMeth, dMeth0, dMake, dIsH, dSortD, dDcn, dYes, dHE, dLenH, dOwnG, dItL]
    exact ⟨⟨_, rfl⟩, R, rfl, nd, by omega, hP⟩
  · have pk := ok.p r hr
    simp only [dSeq, dNext, dRet, dIf, dDrop, dAsg, dgName, dgNil, dgCons, dgTup, dPar, dPar3, dOwn, dApp, dFrz, dVar, dC, dOp, dI, dI0, dB0, dNeg, dTup, dLst, dBoolT, dAndT, dOrT, dNotT, dAndV, dOrV, dNotV, dCall, dCall0, dB, dIsi, dRepr, dAbs, dInt1, dInt2, dAll, dstart, dwipe, clean, Sl.clean, List.map_cons, List.map_nil, List.length_cons, List.length_nil, List.replicate, List.cons_append, List.nil_append, List.set_cons_zero, List.set_cons_succ, List.getElem?_cons_zero, List.getElem?_cons_succ, Nat.reduceAdd, Nat.reduceSub, Nat.add_zero, Nat.zero_add, Nat.add_sub_cancel, Nat.sub_self, atI_0, atI_1, atI_2, atI_3, dLtI, dLeI, dGtI, dGeI, dSub, dFd, dMod, dPow, eAdd_i, eAdd_l, eMul_i, eMul_l, eIx_l, eIx_t, eLen_l, eLen_t, eInt_i, eInt_b, eEq_i, eNe_i, eEq_e, dRaise, dRetX, dTry, dGcd3, dIsB, dChain, dZip, dItT, dItL, dSl, dNoPart, dPart, dChain, dgUnl, dParO, notN_no, notN_t, isN_no, dRev, dParC, dOwnC, dMaxD, dEnum, capD, dLstN, dNGet, dWts, dItN, dHH, dHI, dIH, dMeth, dMeth0, dMake, dIsH, dSortD, dDcn, dYes, dHE, dLenH, dOwnG]
    refine ⟨r.1, e.a, e.b, e.c, k, rfl, pk.b, he.1, he.2.1, he.2.2, hk, Nat.le_trans pk.l (by decide), ?_⟩
    show if metE e r.1 = true then _ else _
    cases z : metE e r.1 with
    | true => exact iteT (q1 z)
    | false => exact iteF (q0 z)
  · exact dSum_m (f := fun r : List Pt × Int => r.2) h
theorem ok_line_sum (T : Tx K mg base) : DefOk P w K mg base 4 "line_sum" ["heap", "plane"] spLineS := by
  refine defOk T.f_line_sum sc_line_sum bn_line_sum (fun f cdv A outer s H hr hg => (pss_dc (psd_set (i := 2) sc_line_sum.nd rfl (Or.inr rfl) (pd_fn (ok_facing T) hr (by decide) hg (pda_cons (pd_var 1) pda_nil)))
      (pss_d1 (psd_ret (pd_blt (cr_sum rfl) lc_sum rfl T.b_sum (by decide +kernel) (pda_cons (pd_new (pdn_lci (own := [("plate", 3), ("weight", 4)]) rfl sc_line_sum.nd (pdi_list (pd_meth0 T.hpc T.hpk (ok_m_rows T) hr (by decide) hg (pd_var 0))) (blk (N := N_line_sum) (sc := defScope s_line_sum) (by decide +kernel)) (fun _ _ _ _ _ => pg_tup rfl (pgs_cons (pg_name (i := 3) sc_line_sum.nd rfl (Or.inl rfl)) (pgs_cons (pg_name (i := 4) sc_line_sum.nd rfl (Or.inl rfl)) pgs_nil))) (lg_tup (lgs_cons (lgs_cons lgs_nil)) (dgl_cons (dgl_cons dgl_nil))) (sets_tup (sets_cons (by decide) (sets_cons (by decide) sets_nil))) (fun _ _ _ _ _ => (pdt_w (pdw_and (pdt_val (pd_fn (ok_is_met T) hr (by decide) hg (pda_cons (pd_var 3) (pda_cons (pd_var 1) pda_nil)))) (pdw_and1 (pdt_val (pd_fn (ok_is_met T) hr (by decide) hg (pda_cons (pd_var 3) (pda_cons (pd_var 2) pda_nil)))))))) (fun _ _ _ _ _ => (pd_var 4)))) pda_nil)))))) ?_
  rintro ds Qd _ ⟨R, e, k, rfl, nd, ok, he, hk, h⟩
  have hl : R.length ≤ 5000 := ok.l
  show dSeq _ _ _ [.val (hpT R), .val (heD e), .emp, .emp, .emp]
  refine dSeq_g (fun σ => σ = [.val (hpT R), .val (heD e), .val (heD e.neg), .emp, .emp]) ?_ ?_
  · intro N hN
    simp only [dSeq, dNext, dRet, dIf, dDrop, dAsg, dgName, dgNil, dgCons, dgTup, dPar, dPar3, dOwn, dApp, dFrz, dVar, dC, dOp, dI, dI0, dB0, dNeg, dTup, dLst, dBoolT, dAndT, dOrT, dNotT, dAndV, dOrV, dNotV, dCall, dCall0, dB, dIsi, dRepr, dAbs, dInt1, dInt2, dAll, dstart, dwipe, clean, Sl.clean, List.map_cons, List.map_nil, List.length_cons, List.length_nil, List.replicate, List.cons_append, List.nil_append, List.set_cons_zero, List.set_cons_succ, List.getElem?_cons_zero, List.getElem?_cons_succ, Nat.reduceAdd, Nat.reduceSub, Nat.add_zero, Nat.zero_add, Nat.add_sub_cancel, Nat.sub_self, atI_0, atI_1, atI_2, atI_3, dLtI, dLeI, dGtI, dGeI, dSub, dFd, dMod, dPow, eAdd_i, eAdd_l, eMul_i, eMul_l, eIx_l, eIx_t, eLen_l, eLen_t, eInt_i, eInt_b, eEq_i, eNe_i, eEq_e, dRaise, dRetX, dTry, dGcd3, dIsB, dChain, dZip, dItT, dItL, dSl, dNoPart, dPart, dChain, dgUnl, dParO, notN_no, notN_t, isN_no, dRev, dParC, dOwnC, dMaxD, dEnum, capD, dLstN, dNGet, dWts, dItN, dHH, dHI, dIH, dMeth, dMeth0, dMake, dIsH, dSortD, dDcn, dYes, dHE, dLenH, dOwnG]
    exact ⟨e.a, e.b, e.c, rfl, trivial, hN _ rfl⟩
  rintro σ2 rfl
  have hn := he.neg
  simp only [dSeq, dNext, dRet, dIf, dDrop, dAsg, dgName, dgNil, dgCons, dgTup, dPar, dPar3, dOwn, dApp, dFrz, dVar, dC, dOp, dI, dI0, dB0, dNeg, dTup, dLst, dBoolT, dAndT, dOrT, dNotT, dAndV, dOrV, dNotV, dCall, dCall0, dB, dIsi, dRepr, dAbs, dInt1, dInt2, dAll, dstart, dwipe, clean, Sl.clean, List.map_cons, List.map_nil, List.length_cons, List.length_nil, List.replicate, List.cons_append, List.nil_append, List.set_cons_zero, List.set_cons_succ, List.getElem?_cons_zero, List.getElem?_cons_succ, Nat.reduceAdd, Nat.reduceSub, Nat.add_zero, Nat.zero_add, Nat.add_sub_cancel, Nat.sub_self, atI_0, atI_1, atI_2, atI_3, dLtI, dLeI, dGtI, dGeI, dSub, dFd, dMod, dPow, eAdd_i, eAdd_l, eMul_i, eMul_l, eIx_l, eIx_t, eLen_l, eLen_t, eInt_i, eInt_b, eEq_i, eNe_i, eEq_e, dRaise, dRetX, dTry, dGcd3, dIsB, dChain, dZip, dItT, dItL, dSl, dNoPart, dPart, dChain, dgUnl, dParO, notN_no, notN_t, isN_no, dRev, dParC, dOwnC, dMaxD, dEnum, capD, dLstN, dNGet, dWts, dItN, dHH, dHI, dIH, dMeth, dMeth0, dMake, dIsH, dSortD, dDcn, dYes, dHE, dLenH, dOwnG, dSum]
  refine dLcc_mt R rowD (fun r => linE e r.1) (fun r => .int r.2) (fun P hP => ?_) (by omega) (fun r hr Q1 Q0 q1 q0 => ?_) ?_
  · simp only [dSeq, dNext, dRet, dIf, dDrop, dAsg, dgName, dgNil, dgCons, dgTup, dPar, dPar3, dOwn, dApp, dFrz, dVar, dC, dOp, dI, dI0, dB0, dNeg, dTup, dLst, dBoolT, dAndT, dOrT, dNotT, dAndV, dOrV, dNotV, dCall, dCall0, dB, dIsi, dRepr, dAbs, dInt1, dInt2, dAll, dstart, dwipe, clean, Sl.clean, List.map_cons, List.map_nil, List.length_cons, List.length_nil, List.replicate, List.cons_append, List.nil_append, List.set_cons_zero, List.set_cons_succ, List.getElem?_cons_zero, List.getElem?_cons_succ, Nat.reduceAdd, Nat.reduceSub, Nat.add_zero, Nat.zero_add, Nat.add_sub_cancel, Nat.sub_self, atI_0, atI_1, atI_2, atI_3, dLtI, dLeI, dGtI, dGeI, dSub, dFd, dMod, dPow, eAdd_i, eAdd_l, eMul_i, eMul_l, eIx_l, eIx_t, eLen_l, eLen_t, eInt_i, eInt_b, eEq_i, eNe_i, eEq_e, dRaise, dRetX, dTry, dGcd3, dIsB, dChain, dZip, dItT, dItL, dSl, dNoPart, dPart, dChain, dgUnl, dParO, notN_no, notN_t, isN_no, dRev, dParC, dOwnC, dMaxD, dEnum, capD, dLstN, dNGet, dWts, dItN, dHH, dHI, dIH, dMeth, dMeth0, dMake, dIsH, dSortD, dDcn, dYes, dHE, dLenH, dOwnG, dItL]
    exact ⟨⟨_, rfl⟩, R, rfl, nd, by omega, hP⟩
  · have pk := ok.p r hr
    simp only [dSeq, dNext, dRet, dIf, dDrop, dAsg, dgName, dgNil, dgCons, dgTup, dPar, dPar3, dOwn, dApp, dFrz, dVar, dC, dOp, dI, dI0, dB0, dNeg, dTup, dLst, dBoolT, dAndT, dOrT, dNotT, dAndV, dOrV, dNotV, dCall, dCall0, dB, dIsi, dRepr, dAbs, dInt1, dInt2, dAll, dstart, dwipe, clean, Sl.clean, List.map_cons, List.map_nil, List.length_cons, List.length_nil, List.replicate, List.cons_append, List.nil_append, List.set_cons_zero, List.set_cons_succ, List.getElem?_cons_zero, List.getElem?_cons_succ, Nat.reduceAdd, Nat.reduceSub, Nat.add_zero, Nat.zero_add, Nat.add_sub_cancel, Nat.sub_self, atI_0, atI_1, atI_2, atI_3, dLtI, dLeI, dGtI, dGeI, dSub, dFd, dMod, dPow, eAdd_i, eAdd_l, eMul_i, eMul_l, eIx_l, eIx_t, eLen_l, eLen_t, eInt_i, eInt_b, eEq_i, eNe_i, eEq_e, dRaise, dRetX, dTry, dGcd3, dIsB, dChain, dZip, dItT, dItL, dSl, dNoPart, dPart, dChain, dgUnl, dParO, notN_no, notN_t, isN_no, dRev, dParC, dOwnC, dMaxD, dEnum, capD, dLstN, dNGet, dWts, dItN, dHH, dHI, dIH, dMeth, dMeth0, dMake, dIsH, dSortD, dDcn, dYes, dHE, dLenH, dOwnG]
    refine ⟨r.1, e.a, e.b, e.c, k, rfl, pk.b, he.1, he.2.1, he.2.2, hk, Nat.le_trans pk.l (by decide), ?_⟩
    show if metE e r.1 = true then _ else _
    cases z : metE e r.1 with
    | true =>
      refine iteT ⟨r.1, e.neg.a, e.neg.b, e.neg.c, k, rfl, pk.b, hn.1, hn.2.1, hn.2.2, hk, Nat.le_trans pk.l (by decide), ?_⟩
      show if metE e.neg r.1 = true then _ else _
      cases z2 : metE e.neg r.1 with
      | true => exact iteT (q1 (by unfold linE; rw [z, z2]; rfl))
      | false => exact iteF (q0 (by unfold linE; rw [z, z2]; rfl))
    | false => exact iteF (iteF (q0 (by unfold linE; rw [z]; rfl)))
  · exact dSum_m (f := fun r : List Pt × Int => r.2) h
theorem ok_is_row (T : Tx K mg base) : DefOk P w K mg base 8 "is_row" ["value"] spIsRow := by
  refine defOk T.f_is_row sc_is_row bn_is_row (fun f cdv A outer s H hr hg => (pss_dc (psd_if (pdt_w (pdw_or (pdt_not (pdt_val (pd_isi kit_tuple T.hpk.tuple (fun _ => rfl) rfl T.b_isinstance (by decide +kernel) rfl T.b_tuple (by decide +kernel) (pd_var 0)))) (pdw_or1 (pdt_ne hr.units (pd_blt call_len lc_len rfl T.b_len (by decide +kernel) (pda_cons (pd_var 0) pda_nil)) pd_int)))) (pss_d1 (psd_ret pd_bl)) pss_d0)
      (pss_d1 (psd_ret (pd_and (pd_fn (ok_is_number T) hr (by decide) hg (pda_cons (pd_ix (pd_var 0) pd_int) pda_nil)) (pd_one (pd_fn (ok_is_plate T) hr (by decide) hg (pda_cons (pd_ix (pd_var 0) pd_int) pda_nil)))))))) ?_
  rintro ds Qd _ ⟨⟨H, w⟩, rfl, pk, h⟩
  simp only [dSeq, dNext, dRet, dIf, dDrop, dAsg, dgName, dgNil, dgCons, dgTup, dPar, dPar3, dOwn, dApp, dFrz, dVar, dC, dOp, dI, dI0, dB0, dNeg, dTup, dLst, dBoolT, dAndT, dOrT, dNotT, dAndV, dOrV, dNotV, dCall, dCall0, dB, dIsi, dRepr, dAbs, dInt1, dInt2, dAll, dstart, dwipe, clean, Sl.clean, List.map_cons, List.map_nil, List.length_cons, List.length_nil, List.replicate, List.cons_append, List.nil_append, List.set_cons_zero, List.set_cons_succ, List.getElem?_cons_zero, List.getElem?_cons_succ, Nat.reduceAdd, Nat.reduceSub, Nat.add_zero, Nat.zero_add, Nat.add_sub_cancel, Nat.sub_self, atI_0, atI_1, atI_2, atI_3, dLtI, dLeI, dGtI, dGeI, dSub, dFd, dMod, dPow, eAdd_i, eAdd_l, eMul_i, eMul_l, eIx_l, eIx_t, eLen_l, eLen_t, eInt_i, eInt_b, eEq_i, eNe_i, eEq_e, dRaise, dRetX, dTry, dGcd3, dIsB, dChain, dZip, dItT, dItL, dSl, dNoPart, dPart, dChain, dgUnl, dParO, notN_no, notN_t, isN_no, dRev, dParC, dOwnC, dMaxD, dEnum, capD, dLstN, dNGet, dWts, dItN, dHH, dHI, dIH, dMeth, dMeth0, dMake, dIsH, dSortD, dDcn, dYes, isTy, tyN]
  refine ifF (by simp) ?_
  refine ifF (by simp) ?_
  refine ⟨_, rfl, ?_⟩
  exact ⟨plD H, rfl, pk.vok (by decide), by rw [pk.is]; exact h⟩
theorem ok_plates_ascending (T : Tx K mg base) : DefOk P w K mg base 2 "plates_ascending" ["plates"] spPlAsc := by
  refine defOk T.f_plates_ascending sc_plates_ascending bn_plates_ascending (fun f cdv A outer s H hr hg => (pss_dc (psd_set (i := 1) sc_plates_ascending.nd rfl (Or.inr rfl) (pd_fn (ok_fineness T) hr (by decide) hg (pda_cons (pd_new (pdn_lc2 (own := [("plate", 3), ("p", 5)]) (vs1 := [5]) rfl sc_plates_ascending.nd (pdi_list (pd_var 0)) (blk (N := N_plates_ascending) (sc := defScope s_plates_ascending) (by decide +kernel)) (by decide) (fun _ _ _ _ _ => pg_name sc_plates_ascending.nd rfl (Or.inl rfl)) (lg_name 3) (sets_name (by decide)) (fun _ _ _ _ _ => (pdi_tup (pd_var 3))) (fun _ _ _ _ _ => pg_name sc_plates_ascending.nd rfl (Or.inl rfl)) (lg_name 5) (sets_name (by decide)) (fun _ _ _ _ _ => (pd_var 5)))) pda_nil)))
      (pss_dc (psd_setLc (i := 2) (own := [("plate", 3)]) rfl sc_plates_ascending.nd rfl rfl (sw_true rfl rfl rfl (by decide +kernel)) (pdi_list (pd_var 0)) (blk (N := N_plates_ascending) (sc := defScope s_plates_ascending) (by decide +kernel)) (fun _ _ _ _ _ => pg_name sc_plates_ascending.nd rfl (Or.inl rfl)) (lg_name 3) (sets_name (by decide)) (fun _ _ _ _ _ => (pd_tup (pda_cons (pd_new (pdn_lc (own := [("p", 5)]) rfl sc_plates_ascending.nd (pdi_tup (pd_var 3)) (by kernel_rfl) (fun _ _ _ _ _ => pg_name sc_plates_ascending.nd rfl (Or.inl rfl)) (lg_name 5) (sets_name (by decide)) (fun _ _ _ _ _ => (pd_fn (ok_place_key T) hr (by decide) hg (pda_cons (pd_var 5) (pda_cons (pd_var 1) pda_nil)))))) (pda_cons (pd_var 3) pda_nil)))))
      (pss_d1 (psd_ret (pd_new (pdn_lc (own := [("key", 4), ("plate", 3)]) rfl sc_plates_ascending.nd (pdi_list (pd_blt (call_sortD hr.units) lc_sortD rfl T.b_sorted (by decide +kernel) (pda_cons (pd_var 2) pda_nil))) (blk (N := N_plates_ascending) (sc := defScope s_plates_ascending) (by decide +kernel)) (fun _ _ _ _ _ => pg_tup rfl (pgs_cons (pg_name (i := 4) sc_plates_ascending.nd rfl (Or.inl rfl)) (pgs_cons (pg_name (i := 3) sc_plates_ascending.nd rfl (Or.inl rfl)) pgs_nil))) (lg_tup (lgs_cons (lgs_cons lgs_nil)) (dgl_cons (dgl_cons dgl_nil))) (sets_tup (sets_cons (by decide) (sets_cons (by decide) sets_nil))) (fun _ _ _ _ _ => (pd_var 3))))))))) ?_
  rintro ds Qd _ ⟨Hs, rfl, nd, hp, hl, h⟩
  show dSeq _ _ _ [.val (.list (Hs.map plD)), .emp, .emp, .emp, .emp, .emp]
  have fb : ∀ p ∈ Hs.flatMap id, PB KB p := fun p hp' => by
    obtain ⟨H, hH, hpH⟩ := List.mem_flatMap.mp hp'
    exact (hp H hH).b p hpH
  have fl : (Hs.flatMap id).length ≤ 500000 := by
    have aux : ∀ L : List (List Pt), (∀ H ∈ L, H.length ≤ 100) → (L.flatMap id).length ≤ 100 * L.length := fun L => by
      induction L with
      | nil => intro _; exact Nat.le_refl _
      | cons H L ih =>
        intro hL
        have h1 := ih fun G hG => hL G (by simp [hG])
        have h2 := hL H (by simp)
        rw [List.flatMap_cons, List.length_append, List.length_cons]
        show H.length + _ ≤ _
        omega
    have := aux Hs fun H hH => (hp H hH).l
    have e : NB = 5000 := rfl
    omega
  have sm : (Hs.map fun x => (id x).length).sum = (Hs.flatMap id).length := by rw [List.length_flatMap]
  obtain ⟨g, hg⟩ : ∃ g : Int, g = maxI 1 ((Hs.flatMap id).map Pt.d) := ⟨_, rfl⟩
  have fp : fineP (Hs.flatMap id) = g * g := by rw [hg]; rfl
  have gd : ∀ H ∈ Hs, ∀ p ∈ H, p.d ≤ g := fun H hH p hp' => by rw [hg]; exact fine_ge p (List.mem_flatMap.mpr ⟨H, hH, hp'⟩)
  refine dSeq_g (fun σ => σ = [.val (.list (Hs.map plD)), .val (.int (g * g)), .emp, .emp, .emp, .emp]) ?_ ?_
  · intro N hN
    simp only [dSeq, dNext, dRet, dIf, dDrop, dAsg, dgName, dgNil, dgCons, dgTup, dPar, dPar3, dOwn, dApp, dFrz, dVar, dC, dOp, dI, dI0, dB0, dNeg, dTup, dLst, dBoolT, dAndT, dOrT, dNotT, dAndV, dOrV, dNotV, dCall, dCall0, dB, dIsi, dRepr, dAbs, dInt1, dInt2, dAll, dstart, dwipe, clean, Sl.clean, List.map_cons, List.map_nil, List.length_cons, List.length_nil, List.replicate, List.cons_append, List.nil_append, List.set_cons_zero, List.set_cons_succ, List.getElem?_cons_zero, List.getElem?_cons_succ, Nat.reduceAdd, Nat.reduceSub, Nat.add_zero, Nat.zero_add, Nat.add_sub_cancel, Nat.sub_self, atI_0, atI_1, atI_2, atI_3, dLtI, dLeI, dGtI, dGeI, dSub, dFd, dMod, dPow, eAdd_i, eAdd_l, eMul_i, eMul_l, eIx_l, eIx_t, eLen_l, eLen_t, eInt_i, eInt_b, eEq_i, eNe_i, eEq_e, dRaise, dRetX, dTry, dGcd3, dIsB, dChain, dZip, dItT, dItL, dSl, dNoPart, dPart, dChain, dgUnl, dParO, notN_no, notN_t, isN_no, dRev, dParC, dOwnC, dMaxD, dEnum, capD, dLstN, dNGet, dWts, dItN, dHH, dHI, dIH, dMeth, dMeth0, dMake, dIsH, dSortD, dDcn, dYes]
    refine dLcc2_m Hs plD id pD (fun _ p => pD p) (fun R hR => ?_) (by rw [sm]; omega) (fun H hH K hK => ?_) ?_
    · simp only [dSeq, dNext, dRet, dIf, dDrop, dAsg, dgName, dgNil, dgCons, dgTup, dPar, dPar3, dOwn, dApp, dFrz, dVar, dC, dOp, dI, dI0, dB0, dNeg, dTup, dLst, dBoolT, dAndT, dOrT, dNotT, dAndV, dOrV, dNotV, dCall, dCall0, dB, dIsi, dRepr, dAbs, dInt1, dInt2, dAll, dstart, dwipe, clean, Sl.clean, List.map_cons, List.map_nil, List.length_cons, List.length_nil, List.replicate, List.cons_append, List.nil_append, List.set_cons_zero, List.set_cons_succ, List.getElem?_cons_zero, List.getElem?_cons_succ, Nat.reduceAdd, Nat.reduceSub, Nat.add_zero, Nat.zero_add, Nat.add_sub_cancel, Nat.sub_self, atI_0, atI_1, atI_2, atI_3, dLtI, dLeI, dGtI, dGeI, dSub, dFd, dMod, dPow, eAdd_i, eAdd_l, eMul_i, eMul_l, eIx_l, eIx_t, eLen_l, eLen_t, eInt_i, eInt_b, eEq_i, eNe_i, eEq_e, dRaise, dRetX, dTry, dGcd3, dIsB, dChain, dZip, dItT, dItL, dSl, dNoPart, dPart, dChain, dgUnl, dParO, notN_no, notN_t, isN_no, dRev, dParC, dOwnC, dMaxD, dEnum, capD, dLstN, dNGet, dWts, dItN, dHH, dHI, dIH, dMeth, dMeth0, dMake, dIsH, dSortD, dDcn, dYes, dItL]
      exact hR
    · simp only [dSeq, dNext, dRet, dIf, dDrop, dAsg, dgName, dgNil, dgCons, dgTup, dPar, dPar3, dOwn, dApp, dFrz, dVar, dC, dOp, dI, dI0, dB0, dNeg, dTup, dLst, dBoolT, dAndT, dOrT, dNotT, dAndV, dOrV, dNotV, dCall, dCall0, dB, dIsi, dRepr, dAbs, dInt1, dInt2, dAll, dstart, dwipe, clean, Sl.clean, List.map_cons, List.map_nil, List.length_cons, List.length_nil, List.replicate, List.cons_append, List.nil_append, List.set_cons_zero, List.set_cons_succ, List.getElem?_cons_zero, List.getElem?_cons_succ, Nat.reduceAdd, Nat.reduceSub, Nat.add_zero, Nat.zero_add, Nat.add_sub_cancel, Nat.sub_self, atI_0, atI_1, atI_2, atI_3, dLtI, dLeI, dGtI, dGeI, dSub, dFd, dMod, dPow, eAdd_i, eAdd_l, eMul_i, eMul_l, eIx_l, eIx_t, eLen_l, eLen_t, eInt_i, eInt_b, eEq_i, eNe_i, eEq_e, dRaise, dRetX, dTry, dGcd3, dIsB, dChain, dZip, dItT, dItL, dSl, dNoPart, dPart, dChain, dgUnl, dParO, notN_no, notN_t, isN_no, dRev, dParC, dOwnC, dMaxD, dEnum, capD, dLstN, dNGet, dWts, dItN, dHH, dHI, dIH, dMeth, dMeth0, dMake, dIsH, dSortD, dDcn, dYes]
      refine hK _ (fun R hR => ?_) (fun p hp' Q hQ => ?_)
      · simp only [dSeq, dNext, dRet, dIf, dDrop, dAsg, dgName, dgNil, dgCons, dgTup, dPar, dPar3, dOwn, dApp, dFrz, dVar, dC, dOp, dI, dI0, dB0, dNeg, dTup, dLst, dBoolT, dAndT, dOrT, dNotT, dAndV, dOrV, dNotV, dCall, dCall0, dB, dIsi, dRepr, dAbs, dInt1, dInt2, dAll, dstart, dwipe, clean, Sl.clean, List.map_cons, List.map_nil, List.length_cons, List.length_nil, List.replicate, List.cons_append, List.nil_append, List.set_cons_zero, List.set_cons_succ, List.getElem?_cons_zero, List.getElem?_cons_succ, Nat.reduceAdd, Nat.reduceSub, Nat.add_zero, Nat.zero_add, Nat.add_sub_cancel, Nat.sub_self, atI_0, atI_1, atI_2, atI_3, dLtI, dLeI, dGtI, dGeI, dSub, dFd, dMod, dPow, eAdd_i, eAdd_l, eMul_i, eMul_l, eIx_l, eIx_t, eLen_l, eLen_t, eInt_i, eInt_b, eEq_i, eNe_i, eEq_e, dRaise, dRetX, dTry, dGcd3, dIsB, dChain, dZip, dItT, dItL, dSl, dNoPart, dPart, dChain, dgUnl, dParO, notN_no, notN_t, isN_no, dRev, dParC, dOwnC, dMaxD, dEnum, capD, dLstN, dNGet, dWts, dItN, dHH, dHI, dIH, dMeth, dMeth0, dMake, dIsH, dSortD, dDcn, dYes, dItT]
        exact hR
      · simp only [dSeq, dNext, dRet, dIf, dDrop, dAsg, dgName, dgNil, dgCons, dgTup, dPar, dPar3, dOwn, dApp, dFrz, dVar, dC, dOp, dI, dI0, dB0, dNeg, dTup, dLst, dBoolT, dAndT, dOrT, dNotT, dAndV, dOrV, dNotV, dCall, dCall0, dB, dIsi, dRepr, dAbs, dInt1, dInt2, dAll, dstart, dwipe, clean, Sl.clean, List.map_cons, List.map_nil, List.length_cons, List.length_nil, List.replicate, List.cons_append, List.nil_append, List.set_cons_zero, List.set_cons_succ, List.getElem?_cons_zero, List.getElem?_cons_succ, Nat.reduceAdd, Nat.reduceSub, Nat.add_zero, Nat.zero_add, Nat.add_sub_cancel, Nat.sub_self, atI_0, atI_1, atI_2, atI_3, dLtI, dLeI, dGtI, dGeI, dSub, dFd, dMod, dPow, eAdd_i, eAdd_l, eMul_i, eMul_l, eIx_l, eIx_t, eLen_l, eLen_t, eInt_i, eInt_b, eEq_i, eNe_i, eEq_e, dRaise, dRetX, dTry, dGcd3, dIsB, dChain, dZip, dItT, dItL, dSl, dNoPart, dPart, dChain, dgUnl, dParO, notN_no, notN_t, isN_no, dRev, dParC, dOwnC, dMaxD, dEnum, capD, dLstN, dNGet, dWts, dItN, dHH, dHI, dIH, dMeth, dMeth0, dMake, dIsH, dSortD, dDcn, dYes]
        exact hQ
    · refine ⟨true, Hs.flatMap id, ⟨?_, ⟨KB, by decide, fb⟩, fl⟩, ?_⟩
      · show [PyData.list _] = [PyData.list _]
        rw [List.flatMap_def, List.map_flatten, List.map_map]; rfl
      · rw [fp]; exact hN _ rfl
  rintro σ2 rfl
  refine dSeq_g (fun σ => σ = [.val (.list (Hs.map plD)), .val (.int (g * g)), .val (.list (Hs.map (kdD (g * g)))), .emp, .emp, .emp]) ?_ ?_
  · intro N hN
    simp only [dSeq, dNext, dRet, dIf, dDrop, dAsg, dgName, dgNil, dgCons, dgTup, dPar, dPar3, dOwn, dApp, dFrz, dVar, dC, dOp, dI, dI0, dB0, dNeg, dTup, dLst, dBoolT, dAndT, dOrT, dNotT, dAndV, dOrV, dNotV, dCall, dCall0, dB, dIsi, dRepr, dAbs, dInt1, dInt2, dAll, dstart, dwipe, clean, Sl.clean, List.map_cons, List.map_nil, List.length_cons, List.length_nil, List.replicate, List.cons_append, List.nil_append, List.set_cons_zero, List.set_cons_succ, List.getElem?_cons_zero, List.getElem?_cons_succ, Nat.reduceAdd, Nat.reduceSub, Nat.add_zero, Nat.zero_add, Nat.add_sub_cancel, Nat.sub_self, atI_0, atI_1, atI_2, atI_3, dLtI, dLeI, dGtI, dGeI, dSub, dFd, dMod, dPow, eAdd_i, eAdd_l, eMul_i, eMul_l, eIx_l, eIx_t, eLen_l, eLen_t, eInt_i, eInt_b, eEq_i, eNe_i, eEq_e, dRaise, dRetX, dTry, dGcd3, dIsB, dChain, dZip, dItT, dItL, dSl, dNoPart, dPart, dChain, dgUnl, dParO, notN_no, notN_t, isN_no, dRev, dParC, dOwnC, dMaxD, dEnum, capD, dLstN, dNGet, dWts, dItN, dHH, dHI, dIH, dMeth, dMeth0, dMake, dIsH, dSortD, dDcn, dYes]
    refine dLcc_m Hs plD (kdD (g * g)) (fun R hR => ?_) (by have e : NB = 5000 := rfl; omega) (fun H hH Q hQ => ?_) (hN _ rfl)
    · simp only [dSeq, dNext, dRet, dIf, dDrop, dAsg, dgName, dgNil, dgCons, dgTup, dPar, dPar3, dOwn, dApp, dFrz, dVar, dC, dOp, dI, dI0, dB0, dNeg, dTup, dLst, dBoolT, dAndT, dOrT, dNotT, dAndV, dOrV, dNotV, dCall, dCall0, dB, dIsi, dRepr, dAbs, dInt1, dInt2, dAll, dstart, dwipe, clean, Sl.clean, List.map_cons, List.map_nil, List.length_cons, List.length_nil, List.replicate, List.cons_append, List.nil_append, List.set_cons_zero, List.set_cons_succ, List.getElem?_cons_zero, List.getElem?_cons_succ, Nat.reduceAdd, Nat.reduceSub, Nat.add_zero, Nat.zero_add, Nat.add_sub_cancel, Nat.sub_self, atI_0, atI_1, atI_2, atI_3, dLtI, dLeI, dGtI, dGeI, dSub, dFd, dMod, dPow, eAdd_i, eAdd_l, eMul_i, eMul_l, eIx_l, eIx_t, eLen_l, eLen_t, eInt_i, eInt_b, eEq_i, eNe_i, eEq_e, dRaise, dRetX, dTry, dGcd3, dIsB, dChain, dZip, dItT, dItL, dSl, dNoPart, dPart, dChain, dgUnl, dParO, notN_no, notN_t, isN_no, dRev, dParC, dOwnC, dMaxD, dEnum, capD, dLstN, dNGet, dWts, dItN, dHH, dHI, dIH, dMeth, dMeth0, dMake, dIsH, dSortD, dDcn, dYes, dItL]
      exact hR
    · simp only [dSeq, dNext, dRet, dIf, dDrop, dAsg, dgName, dgNil, dgCons, dgTup, dPar, dPar3, dOwn, dApp, dFrz, dVar, dC, dOp, dI, dI0, dB0, dNeg, dTup, dLst, dBoolT, dAndT, dOrT, dNotT, dAndV, dOrV, dNotV, dCall, dCall0, dB, dIsi, dRepr, dAbs, dInt1, dInt2, dAll, dstart, dwipe, clean, Sl.clean, List.map_cons, List.map_nil, List.length_cons, List.length_nil, List.replicate, List.cons_append, List.nil_append, List.set_cons_zero, List.set_cons_succ, List.getElem?_cons_zero, List.getElem?_cons_succ, Nat.reduceAdd, Nat.reduceSub, Nat.add_zero, Nat.zero_add, Nat.add_sub_cancel, Nat.sub_self, atI_0, atI_1, atI_2, atI_3, dLtI, dLeI, dGtI, dGeI, dSub, dFd, dMod, dPow, eAdd_i, eAdd_l, eMul_i, eMul_l, eIx_l, eIx_t, eLen_l, eLen_t, eInt_i, eInt_b, eEq_i, eNe_i, eEq_e, dRaise, dRetX, dTry, dGcd3, dIsB, dChain, dZip, dItT, dItL, dSl, dNoPart, dPart, dChain, dgUnl, dParO, notN_no, notN_t, isN_no, dRev, dParC, dOwnC, dMaxD, dEnum, capD, dLstN, dNGet, dWts, dItN, dHH, dHI, dIH, dMeth, dMeth0, dMake, dIsH, dSortD, dDcn, dYes]
      refine dLcc_m H pD (fun p => keyP (g * g) (pD p)) (fun R hR => ?_) (by have := (hp H hH).l; omega) (fun p hp' Q2 hQ2 => ?_) hQ
      · simp only [dSeq, dNext, dRet, dIf, dDrop, dAsg, dgName, dgNil, dgCons, dgTup, dPar, dPar3, dOwn, dApp, dFrz, dVar, dC, dOp, dI, dI0, dB0, dNeg, dTup, dLst, dBoolT, dAndT, dOrT, dNotT, dAndV, dOrV, dNotV, dCall, dCall0, dB, dIsi, dRepr, dAbs, dInt1, dInt2, dAll, dstart, dwipe, clean, Sl.clean, List.map_cons, List.map_nil, List.length_cons, List.length_nil, List.replicate, List.cons_append, List.nil_append, List.set_cons_zero, List.set_cons_succ, List.getElem?_cons_zero, List.getElem?_cons_succ, Nat.reduceAdd, Nat.reduceSub, Nat.add_zero, Nat.zero_add, Nat.add_sub_cancel, Nat.sub_self, atI_0, atI_1, atI_2, atI_3, dLtI, dLeI, dGtI, dGeI, dSub, dFd, dMod, dPow, eAdd_i, eAdd_l, eMul_i, eMul_l, eIx_l, eIx_t, eLen_l, eLen_t, eInt_i, eInt_b, eEq_i, eNe_i, eEq_e, dRaise, dRetX, dTry, dGcd3, dIsB, dChain, dZip, dItT, dItL, dSl, dNoPart, dPart, dChain, dgUnl, dParO, notN_no, notN_t, isN_no, dRev, dParC, dOwnC, dMaxD, dEnum, capD, dLstN, dNGet, dWts, dItN, dHH, dHI, dIH, dMeth, dMeth0, dMake, dIsH, dSortD, dDcn, dYes, dItT]
        exact hR
      · simp only [dSeq, dNext, dRet, dIf, dDrop, dAsg, dgName, dgNil, dgCons, dgTup, dPar, dPar3, dOwn, dApp, dFrz, dVar, dC, dOp, dI, dI0, dB0, dNeg, dTup, dLst, dBoolT, dAndT, dOrT, dNotT, dAndV, dOrV, dNotV, dCall, dCall0, dB, dIsi, dRepr, dAbs, dInt1, dInt2, dAll, dstart, dwipe, clean, Sl.clean, List.map_cons, List.map_nil, List.length_cons, List.length_nil, List.replicate, List.cons_append, List.nil_append, List.set_cons_zero, List.set_cons_succ, List.getElem?_cons_zero, List.getElem?_cons_succ, Nat.reduceAdd, Nat.reduceSub, Nat.add_zero, Nat.zero_add, Nat.add_sub_cancel, Nat.sub_self, atI_0, atI_1, atI_2, atI_3, dLtI, dLeI, dGtI, dGeI, dSub, dFd, dMod, dPow, eAdd_i, eAdd_l, eMul_i, eMul_l, eIx_l, eIx_t, eLen_l, eLen_t, eInt_i, eInt_b, eEq_i, eNe_i, eEq_e, dRaise, dRetX, dTry, dGcd3, dIsB, dChain, dZip, dItT, dItL, dSl, dNoPart, dPart, dChain, dgUnl, dParO, notN_no, notN_t, isN_no, dRev, dParC, dOwnC, dMaxD, dEnum, capD, dLstN, dNGet, dWts, dItN, dHH, dHI, dIH, dMeth, dMeth0, dMake, dIsH, dSortD, dDcn, dYes]
        have f2 : Bd (2 * KB + 2) (g * g) := by rw [hg]; exact (bd_mul (a := KB + 1) (b := KB + 1) (h1 := fine_bd fb) (h2 := fine_bd fb)).mono (by decide)
        exact ⟨p, g * g, KB, rfl, (hp H hH).b p hp', f2, by decide, hQ2⟩
  rintro σ3 rfl
  simp only [dSeq, dNext, dRet, dIf, dDrop, dAsg, dgName, dgNil, dgCons, dgTup, dPar, dPar3, dOwn, dApp, dFrz, dVar, dC, dOp, dI, dI0, dB0, dNeg, dTup, dLst, dBoolT, dAndT, dOrT, dNotT, dAndV, dOrV, dNotV, dCall, dCall0, dB, dIsi, dRepr, dAbs, dInt1, dInt2, dAll, dstart, dwipe, clean, Sl.clean, List.map_cons, List.map_nil, List.length_cons, List.length_nil, List.replicate, List.cons_append, List.nil_append, List.set_cons_zero, List.set_cons_succ, List.getElem?_cons_zero, List.getElem?_cons_succ, Nat.reduceAdd, Nat.reduceSub, Nat.add_zero, Nat.zero_add, Nat.add_sub_cancel, Nat.sub_self, atI_0, atI_1, atI_2, atI_3, dLtI, dLeI, dGtI, dGeI, dSub, dFd, dMod, dPow, eAdd_i, eAdd_l, eMul_i, eMul_l, eIx_l, eIx_t, eLen_l, eLen_t, eInt_i, eInt_b, eEq_i, eNe_i, eEq_e, dRaise, dRetX, dTry, dGcd3, dIsB, dChain, dZip, dItT, dItL, dSl, dNoPart, dPart, dChain, dgUnl, dParO, notN_no, notN_t, isN_no, dRev, dParC, dOwnC, dMaxD, dEnum, capD, dLstN, dNGet, dWts, dItN, dHH, dHI, dIH, dMeth, dMeth0, dMake, dIsH, dSortD, dDcn, dYes]
  refine dLcc_m (ordT plt Hs) (kdD (g * g)) plD (fun R hR => ?_) (by have := (ordP_ok Hs).2.2; have e : NB = 5000 := rfl; omega) (fun H hH Q hQ => ?_) h
  · simp only [dSeq, dNext, dRet, dIf, dDrop, dAsg, dgName, dgNil, dgCons, dgTup, dPar, dPar3, dOwn, dApp, dFrz, dVar, dC, dOp, dI, dI0, dB0, dNeg, dTup, dLst, dBoolT, dAndT, dOrT, dNotT, dAndV, dOrV, dNotV, dCall, dCall0, dB, dIsi, dRepr, dAbs, dInt1, dInt2, dAll, dstart, dwipe, clean, Sl.clean, List.map_cons, List.map_nil, List.length_cons, List.length_nil, List.replicate, List.cons_append, List.nil_append, List.set_cons_zero, List.set_cons_succ, List.getElem?_cons_zero, List.getElem?_cons_succ, Nat.reduceAdd, Nat.reduceSub, Nat.add_zero, Nat.zero_add, Nat.add_sub_cancel, Nat.sub_self, atI_0, atI_1, atI_2, atI_3, dLtI, dLeI, dGtI, dGeI, dSub, dFd, dMod, dPow, eAdd_i, eAdd_l, eMul_i, eMul_l, eIx_l, eIx_t, eLen_l, eLen_t, eInt_i, eInt_b, eEq_i, eNe_i, eEq_e, dRaise, dRetX, dTry, dGcd3, dIsB, dChain, dZip, dItT, dItL, dSl, dNoPart, dPart, dChain, dgUnl, dParO, notN_no, notN_t, isN_no, dRev, dParC, dOwnC, dMaxD, dEnum, capD, dLstN, dNGet, dWts, dItN, dHH, dHI, dIH, dMeth, dMeth0, dMake, dIsH, dSortD, dDcn, dYes, dItL]
    refine ⟨_, rfl, sOk_kd _ _ (by have e : NB = 5000 := rfl; omega), ?_⟩
    rw [sortPl gd nd fun _ => Iff.rfl]
    exact hR
  · simp only [dSeq, dNext, dRet, dIf, dDrop, dAsg, dgName, dgNil, dgCons, dgTup, dPar, dPar3, dOwn, dApp, dFrz, dVar, dC, dOp, dI, dI0, dB0, dNeg, dTup, dLst, dBoolT, dAndT, dOrT, dNotT, dAndV, dOrV, dNotV, dCall, dCall0, dB, dIsi, dRepr, dAbs, dInt1, dInt2, dAll, dstart, dwipe, clean, Sl.clean, List.map_cons, List.map_nil, List.length_cons, List.length_nil, List.replicate, List.cons_append, List.nil_append, List.set_cons_zero, List.set_cons_succ, List.getElem?_cons_zero, List.getElem?_cons_succ, Nat.reduceAdd, Nat.reduceSub, Nat.add_zero, Nat.zero_add, Nat.add_sub_cancel, Nat.sub_self, atI_0, atI_1, atI_2, atI_3, dLtI, dLeI, dGtI, dGeI, dSub, dFd, dMod, dPow, eAdd_i, eAdd_l, eMul_i, eMul_l, eIx_l, eIx_t, eLen_l, eLen_t, eInt_i, eInt_b, eEq_i, eNe_i, eEq_e, dRaise, dRetX, dTry, dGcd3, dIsB, dChain, dZip, dItT, dItL, dSl, dNoPart, dPart, dChain, dgUnl, dParO, notN_no, notN_t, isN_no, dRev, dParC, dOwnC, dMaxD, dEnum, capD, dLstN, dNGet, dWts, dItN, dHH, dHI, dIH, dMeth, dMeth0, dMake, dIsH, dSortD, dDcn, dYes, kdD]
    exact hQ
theorem ok_added_weights (T : Tx K mg base) : DefOk P w K mg base 3 "added_weights" ["rows"] spAdded := by
  refine defOk T.f_added_weights sc_added_weights bn_added_weights (fun f cdv A outer s H hr hg => (pss_sumA (i := 1) (r := 0) (jk := 2) (jw := 3) sc_added_weights.nd rfl (Or.inr rfl) (ps_sumF hr.u10 rfl sc_added_weights.nd rfl rfl rfl rfl (Or.inl rfl) (Or.inr (Or.inl rfl)) (Or.inl rfl) (Or.inl rfl) PassesOwn.never ⟨rfl, rfl, rfl, rfl⟩)
      (pss_dc (psd_setLci (i := 4) (own := [("plate", 2)]) rfl sc_added_weights.nd rfl rfl (sw_true rfl rfl rfl (by decide +kernel)) (pdi_nd (pd_var 1)) (blk (N := N_added_weights) (sc := defScope s_added_weights) (by decide +kernel)) (fun _ _ _ _ _ => pg_name sc_added_weights.nd rfl (Or.inl rfl)) (lg_name 2) (sets_name (by decide)) (fun _ _ _ _ _ => (pdt_ne hr.units (pd_nget hr.u10 (pd_var 1) (pd_var 2)) pd_int)) (fun _ _ _ _ _ => (pd_var 2)))
      (pss_d1 (psd_ret (pd_dcN (own := [("plate", 2)]) hr.u8 rfl sc_added_weights.nd (pdi_list (pd_fn (ok_plates_ascending T) hr (by decide) hg (pda_cons (pd_var 4) pda_nil))) (blk (N := N_added_weights) (sc := defScope s_added_weights) (by decide +kernel)) (fun _ _ _ _ _ => pg_name sc_added_weights.nd rfl (Or.inl rfl)) (lg_name 2) (sets_name (by decide)) (fun _ _ _ _ _ => (pd_var 2)) (fun _ _ _ _ _ => (pd_nget hr.u10 (pd_var 1) (pd_var 2))))))))) ?_
  rintro ds Qd _ ⟨d, R, rfl, hd, ok, h⟩
  obtain ⟨acc, eS, nd, hm, hl, hn⟩ := sumN_nk R
  have hR : R.length ≤ 5000 := ok.l
  show dSeq _ _ _ [.val d, .emp, .emp, .emp, .emp]
  refine ⟨⟨by decide, by decide, by decide, by decide, by decide, by decide⟩, by simp, by simp, by simp, nkR R, d, rfl, hd.kr, nkR_ok R, by unfold nkR; rw [List.length_map]; omega, ?_⟩
  rw [eS]
  have kl : ∀ r ∈ acc, lookN (nkR acc) (plN r.1) = some r.2 := fun r hr => by
    have h1 : r.1 ∈ acc.map (·.1) := List.mem_map_of_mem hr
    rw [lookN_nk]
    exact lookT_in nd hr
  dsimp only
  show dSeq _ _ _ [.val d, .val (ndD (nkR acc)), .emp, .emp, .emp]
  refine dSeq_g (fun σ => σ = [.val d, .val (ndD (nkR acc)), .emp, .emp, .val (.list (((acc.filter fun r => decide (r.2 ≠ 0)).map (·.1)).map plD))]) ?_ ?_
  · intro N hN
    simp only [dSeq, dNext, dRet, dIf, dDrop, dAsg, dgName, dgNil, dgCons, dgTup, dPar, dPar3, dOwn, dApp, dFrz, dVar, dC, dOp, dI, dI0, dB0, dNeg, dTup, dLst, dBoolT, dAndT, dOrT, dNotT, dAndV, dOrV, dNotV, dCall, dCall0, dB, dIsi, dRepr, dAbs, dInt1, dInt2, dAll, dstart, dwipe, clean, Sl.clean, List.map_cons, List.map_nil, List.length_cons, List.length_nil, List.replicate, List.cons_append, List.nil_append, List.set_cons_zero, List.set_cons_succ, List.getElem?_cons_zero, List.getElem?_cons_succ, Nat.reduceAdd, Nat.reduceSub, Nat.add_zero, Nat.zero_add, Nat.add_sub_cancel, Nat.sub_self, atI_0, atI_1, atI_2, atI_3, dLtI, dLeI, dGtI, dGeI, dSub, dFd, dMod, dPow, eAdd_i, eAdd_l, eMul_i, eMul_l, eIx_l, eIx_t, eLen_l, eLen_t, eInt_i, eInt_b, eEq_i, eNe_i, eEq_e, dRaise, dRetX, dTry, dGcd3, dIsB, dChain, dZip, dItT, dItL, dSl, dNoPart, dPart, dChain, dgUnl, dParO, notN_no, notN_t, isN_no, dRev, dParC, dOwnC, dMaxD, dEnum, capD, dLstN, dNGet, dWts, dItN, dHH, dHI, dIH, dMeth, dMeth0, dMake, dIsH, dSortD, dDcn, dYes]
    refine dLcc_mt acc (fun r => plD r.1) (fun r => decide (r.2 ≠ 0)) (fun r => plD r.1) (fun P hP => ?_) (by omega) (fun r hr Q1 Q0 q1 q0 => ?_) ?_
    · refine ⟨nkR acc, rfl, ?_⟩
      have e : (nkR acc).map (fun x => nkD x.1) = acc.map fun r => plD r.1 := by
        unfold nkR; rw [List.map_map]; exact List.map_congr_left fun r _ => plN_D r.1
      rw [e]; exact hP
    · simp only [dSeq, dNext, dRet, dIf, dDrop, dAsg, dgName, dgNil, dgCons, dgTup, dPar, dPar3, dOwn, dApp, dFrz, dVar, dC, dOp, dI, dI0, dB0, dNeg, dTup, dLst, dBoolT, dAndT, dOrT, dNotT, dAndV, dOrV, dNotV, dCall, dCall0, dB, dIsi, dRepr, dAbs, dInt1, dInt2, dAll, dstart, dwipe, clean, Sl.clean, List.map_cons, List.map_nil, List.length_cons, List.length_nil, List.replicate, List.cons_append, List.nil_append, List.set_cons_zero, List.set_cons_succ, List.getElem?_cons_zero, List.getElem?_cons_succ, Nat.reduceAdd, Nat.reduceSub, Nat.add_zero, Nat.zero_add, Nat.add_sub_cancel, Nat.sub_self, atI_0, atI_1, atI_2, atI_3, dLtI, dLeI, dGtI, dGeI, dSub, dFd, dMod, dPow, eAdd_i, eAdd_l, eMul_i, eMul_l, eIx_l, eIx_t, eLen_l, eLen_t, eInt_i, eInt_b, eEq_i, eNe_i, eEq_e, dRaise, dRetX, dTry, dGcd3, dIsB, dChain, dZip, dItT, dItL, dSl, dNoPart, dPart, dChain, dgUnl, dParO, notN_no, notN_t, isN_no, dRev, dParC, dOwnC, dMaxD, dEnum, capD, dLstN, dNGet, dWts, dItN, dHH, dHI, dIH, dMeth, dMeth0, dMake, dIsH, dSortD, dDcn, dYes]
      refine ⟨nkR acc, plN r.1, r.2, rfl, (plN_D r.1).symm, plN_ok _, kl r hr, ?_⟩
      by_cases c : r.2 = 0
      · refine ifF (by simp [c]) (q0 (by simp [c]))
      · refine ifT (by simp [c]) (q1 (by simp [c]))
    · have := hN _ rfl
      rw [List.map_map] at this
      exact this
  rintro σ2 rfl
  have ek : ∀ H, H ∈ (acc.filter fun r => decide (r.2 ≠ 0)).map (·.1) ↔ H ∈ (R.map (·.1)).filter fun H => decide (wtT R H ≠ 0) := fun H => by
    have wt : ∀ r ∈ acc, r.2 = wtT R r.1 := fun r hr => by
      have h1 := hl r.1 ((hm _).mp (List.mem_map_of_mem hr))
      rw [lookT_in nd hr] at h1
      exact Option.some.inj h1
    rw [List.mem_filter, List.mem_map]
    constructor
    · rintro ⟨r, hr, rfl⟩
      rw [List.mem_filter] at hr
      have := wt r hr.1
      refine ⟨(hm _).mp (List.mem_map_of_mem hr.1), ?_⟩
      rw [← this]; exact hr.2
    · rintro ⟨h1, h2⟩
      obtain ⟨r, hr, e⟩ := List.mem_map.mp ((hm _).mpr h1)
      refine ⟨r, List.mem_filter.mpr ⟨hr, ?_⟩, e⟩
      rw [wt r hr, e]; exact h2
  have eo : ordT plt ((acc.filter fun r => decide (r.2 ≠ 0)).map (·.1)) = keysT R := srt_ext plt_tr plt_irr (ordP_ok _).1 (ordP_ok _).1 fun H => by
    rw [(ordP_ok _).2.1, ek, keysT_mem, List.mem_filter]; simp
  have fl : (acc.filter fun r => decide (r.2 ≠ 0)).length ≤ R.length := Nat.le_trans (List.length_filter_le _ _) hn
  simp only [dSeq, dNext, dRet, dIf, dDrop, dAsg, dgName, dgNil, dgCons, dgTup, dPar, dPar3, dOwn, dApp, dFrz, dVar, dC, dOp, dI, dI0, dB0, dNeg, dTup, dLst, dBoolT, dAndT, dOrT, dNotT, dAndV, dOrV, dNotV, dCall, dCall0, dB, dIsi, dRepr, dAbs, dInt1, dInt2, dAll, dstart, dwipe, clean, Sl.clean, List.map_cons, List.map_nil, List.length_cons, List.length_nil, List.replicate, List.cons_append, List.nil_append, List.set_cons_zero, List.set_cons_succ, List.getElem?_cons_zero, List.getElem?_cons_succ, Nat.reduceAdd, Nat.reduceSub, Nat.add_zero, Nat.zero_add, Nat.add_sub_cancel, Nat.sub_self, atI_0, atI_1, atI_2, atI_3, dLtI, dLeI, dGtI, dGeI, dSub, dFd, dMod, dPow, eAdd_i, eAdd_l, eMul_i, eMul_l, eIx_l, eIx_t, eLen_l, eLen_t, eInt_i, eInt_b, eEq_i, eNe_i, eEq_e, dRaise, dRetX, dTry, dGcd3, dIsB, dChain, dZip, dItT, dItL, dSl, dNoPart, dPart, dChain, dgUnl, dParO, notN_no, notN_t, isN_no, dRev, dParC, dOwnC, dMaxD, dEnum, capD, dLstN, dNGet, dWts, dItN, dHH, dHI, dIH, dMeth, dMeth0, dMake, dIsH, dSortD, dDcn, dYes]
  refine ⟨(acc.filter fun r => decide (r.2 ≠ 0)).map (·.1), rfl, ?_, fun H hH => ?_, by rw [List.length_map]; exact Nat.le_trans fl hR, ?_⟩
  · exact (List.Sublist.map _ List.filter_sublist).nodup nd
  · obtain ⟨r, hr, e⟩ := List.mem_map.mp (List.mem_filter.mp ((ek H).mp hH)).1
    rw [← e]; exact ok.p r hr
  · rw [eo]
    have kn := ordP_nodup ((R.map (·.1)).filter fun H => decide (wtT R H ≠ 0))
    have klen : (keysT R).length ≤ R.length := by rw [← addT_keys, List.length_map]; exact addT_len R
    simp only [dSeq, dNext, dRet, dIf, dDrop, dAsg, dgName, dgNil, dgCons, dgTup, dPar, dPar3, dOwn, dApp, dFrz, dVar, dC, dOp, dI, dI0, dB0, dNeg, dTup, dLst, dBoolT, dAndT, dOrT, dNotT, dAndV, dOrV, dNotV, dCall, dCall0, dB, dIsi, dRepr, dAbs, dInt1, dInt2, dAll, dstart, dwipe, clean, Sl.clean, List.map_cons, List.map_nil, List.length_cons, List.length_nil, List.replicate, List.cons_append, List.nil_append, List.set_cons_zero, List.set_cons_succ, List.getElem?_cons_zero, List.getElem?_cons_succ, Nat.reduceAdd, Nat.reduceSub, Nat.add_zero, Nat.zero_add, Nat.add_sub_cancel, Nat.sub_self, atI_0, atI_1, atI_2, atI_3, dLtI, dLeI, dGtI, dGeI, dSub, dFd, dMod, dPow, eAdd_i, eAdd_l, eMul_i, eMul_l, eIx_l, eIx_t, eLen_l, eLen_t, eInt_i, eInt_b, eEq_i, eNe_i, eEq_e, dRaise, dRetX, dTry, dGcd3, dIsB, dChain, dZip, dItT, dItL, dSl, dNoPart, dPart, dChain, dgUnl, dParO, notN_no, notN_t, isN_no, dRev, dParC, dOwnC, dMaxD, dEnum, capD, dLstN, dNGet, dWts, dItN, dHH, dHI, dIH, dMeth, dMeth0, dMake, dIsH, dSortD, dDcn, dYes]
    refine ⟨by rw [List.length_map]; omega, fun i a => a = nkR (((keysT R).take i).map fun H => (H, wtT R H)), rfl, fun i y a hy ha => ?_, fun a ha => ?_⟩
    · subst ha
      rw [List.getElem?_map] at hy
      obtain ⟨H, hH, rfl⟩ := Option.map_eq_some_iff.mp hy
      have hk := keysT_mem.mp (List.mem_of_getElem? hH)
      simp only [dSeq, dNext, dRet, dIf, dDrop, dAsg, dgName, dgNil, dgCons, dgTup, dPar, dPar3, dOwn, dApp, dFrz, dVar, dC, dOp, dI, dI0, dB0, dNeg, dTup, dLst, dBoolT, dAndT, dOrT, dNotT, dAndV, dOrV, dNotV, dCall, dCall0, dB, dIsi, dRepr, dAbs, dInt1, dInt2, dAll, dstart, dwipe, clean, Sl.clean, List.map_cons, List.map_nil, List.length_cons, List.length_nil, List.replicate, List.cons_append, List.nil_append, List.set_cons_zero, List.set_cons_succ, List.getElem?_cons_zero, List.getElem?_cons_succ, Nat.reduceAdd, Nat.reduceSub, Nat.add_zero, Nat.zero_add, Nat.add_sub_cancel, Nat.sub_self, atI_0, atI_1, atI_2, atI_3, dLtI, dLeI, dGtI, dGeI, dSub, dFd, dMod, dPow, eAdd_i, eAdd_l, eMul_i, eMul_l, eIx_l, eIx_t, eLen_l, eLen_t, eInt_i, eInt_b, eEq_i, eNe_i, eEq_e, dRaise, dRetX, dTry, dGcd3, dIsB, dChain, dZip, dItT, dItL, dSl, dNoPart, dPart, dChain, dgUnl, dParO, notN_no, notN_t, isN_no, dRev, dParC, dOwnC, dMaxD, dEnum, capD, dLstN, dNGet, dWts, dItN, dHH, dHI, dIH, dMeth, dMeth0, dMake, dIsH, dSortD, dDcn, dYes]
      refine ⟨nkR acc, plN H, wtT R H, rfl, (plN_D H).symm, plN_ok _, by rw [lookN_nk, hl H hk.1], plN H, wtT R H, (plN_D H).symm, rfl, plN_ok _, ?_⟩
      rw [putN_nk]
      congr 1
      have out : H ∉ (((keysT R).take i).map fun H => (H, wtT R H)).map (·.1) := by
        rw [List.map_map]
        have e2 : ((·.1) ∘ fun H : List Pt => (H, wtT R H)) = id := rfl
        rw [e2, List.map_id]
        exact nodup_take kn hH
      unfold putT
      rw [if_neg out, List.take_add_one, hH]
      simp
    · subst ha
      rw [List.length_map, List.take_length]
      exact h
theorem ok_m___init__ (T : Tx K mg base) : MSpOk P w K mg base 9 "__init__" ["self", "rows"] (spInit OKh awh) := by
  refine initOk T.hpk T.m___init__ sc_m___init__ bn_m___init__ rfl (fun f cdv A outer s H hr hg => (psd_for PassesOwn.never rfl (pdi_enumS rfl T.b_enumerate (pda_cons (pd_var 1) pda_nil)) (pdg_tup rfl (pdgs_cons (i := 2) sc_m___init__.nd rfl (Or.inl rfl) (pdgs_cons (i := 3) sc_m___init__.nd rfl (Or.inl rfl) pdgs_nil))) (pss_d1 (psd_if (pdt_not (pdt_val (pd_fn (ok_is_row T) hr (by decide) hg (pda_cons (pd_var 3) pda_nil)))) (pss_d1 psd_no) pss_d0)))) (fun f cdv A outer s H hr hg => (pd_fn (ok_added_weights T) hr (by decide) hg (pda_cons (pd_var 1) pda_nil))) (fun f cdv A outer s H => pe_var (i := 0) rfl (Or.inl rfl) (by decide) (by decide)) (fun f cdv A outer s H => rfl) ?_
  rintro x rows d Qd hdd ⟨R, rfl, ok⟩ hQ
  show dFor _ _ _ _ [.raw (.ref x), .val d, .emp, .emp]
  have hdd' : IsRows d R := by rw [nkR_rows] at hdd; exact hdd
  have key : ∀ P : List D → Prop, P (enumD (R.map rowD)) → dEnumS (fun σd Q => dVar 1 σd fun d => Q [d]) [.raw (.ref x), .val d, .emp, .emp] P := fun P hP => by
    rcases hdd' with e | e
    · subst e; exact .inl hP
    · subst e; exact .inr hP
  refine key _ ⟨fun i σ => ∃ a b, σ = [.raw (.ref x), .val d, a, b], ⟨_, _, rfl⟩, ?_, ?_⟩
  · rintro i y σ' hy ⟨a, b, rfl⟩
    have hi : i < R.length := by have := (List.getElem?_eq_some_iff.mp hy).1; rwa [enumD_len, List.length_map] at this
    have hx : R[i]? = some R[i] := List.getElem?_eq_getElem hi
    have hy' := enumD_get (xs := R.map rowD) (i := i) (x := rowD R[i]) (by rw [List.getElem?_map, hx]; rfl)
    rw [hy] at hy'
    cases hy'
    simp only [dSeq, dNext, dRet, dIf, dDrop, dAsg, dgName, dgNil, dgCons, dgTup, dPar, dPar3, dOwn, dApp, dFrz, dVar, dC, dOp, dI, dI0, dB0, dNeg, dTup, dLst, dBoolT, dAndT, dOrT, dNotT, dAndV, dOrV, dNotV, dCall, dCall0, dB, dIsi, dRepr, dAbs, dInt1, dInt2, dAll, dstart, dwipe, clean, Sl.clean, List.map_cons, List.map_nil, List.length_cons, List.length_nil, List.replicate, List.cons_append, List.nil_append, List.set_cons_zero, List.set_cons_succ, List.getElem?_cons_zero, List.getElem?_cons_succ, Nat.reduceAdd, Nat.reduceSub, Nat.add_zero, Nat.zero_add, Nat.add_sub_cancel, Nat.sub_self, atI_0, atI_1, atI_2, atI_3, dLtI, dLeI, dGtI, dGeI, dSub, dFd, dMod, dPow, eAdd_i, eAdd_l, eMul_i, eMul_l, eIx_l, eIx_t, eLen_l, eLen_t, eInt_i, eInt_b, eEq_i, eNe_i, eEq_e, dRaise, dRetX, dTry, dGcd3, dIsB, dChain, dZip, dItT, dItL, dSl, dNoPart, dPart, dChain, dgUnl, dParO, notN_no, notN_t, isN_no, dRev, dParC, dOwnC, dMaxD, dEnum, capD, dLstN, dNGet, dWts, dItN, dHH, dHI, dIH, dMeth, dMeth0, dMake, dIsH, dSortD, dDcn, dYes]
    exact ⟨R[i], rfl, ok.p _ (List.getElem_mem hi), by simp only [Bool.not_true, Bool.false_eq_true, if_false]; exact ⟨_, _, rfl⟩⟩
  · rintro σ' ⟨a, b, rfl⟩
    refine ⟨rfl, ?_⟩
    simp only [dSeq, dNext, dRet, dIf, dDrop, dAsg, dgName, dgNil, dgCons, dgTup, dPar, dPar3, dOwn, dApp, dFrz, dVar, dC, dOp, dI, dI0, dB0, dNeg, dTup, dLst, dBoolT, dAndT, dOrT, dNotT, dAndV, dOrV, dNotV, dCall, dCall0, dB, dIsi, dRepr, dAbs, dInt1, dInt2, dAll, dstart, dwipe, clean, Sl.clean, List.map_cons, List.map_nil, List.length_cons, List.length_nil, List.replicate, List.cons_append, List.nil_append, List.set_cons_zero, List.set_cons_succ, List.getElem?_cons_zero, List.getElem?_cons_succ, Nat.reduceAdd, Nat.reduceSub, Nat.add_zero, Nat.zero_add, Nat.add_sub_cancel, Nat.sub_self, atI_0, atI_1, atI_2, atI_3, dLtI, dLeI, dGtI, dGeI, dSub, dFd, dMod, dPow, eAdd_i, eAdd_l, eMul_i, eMul_l, eIx_l, eIx_t, eLen_l, eLen_t, eInt_i, eInt_b, eEq_i, eNe_i, eEq_e, dRaise, dRetX, dTry, dGcd3, dIsB, dChain, dZip, dItT, dItL, dSl, dNoPart, dPart, dChain, dgUnl, dParO, notN_no, notN_t, isN_no, dRev, dParC, dOwnC, dMaxD, dEnum, capD, dLstN, dNGet, dWts, dItN, dHH, dHI, dIH, dMeth, dMeth0, dMake, dIsH, dSortD, dDcn, dYes]
    rw [awh_nk] at hQ
    exact ⟨d, R, rfl, hdd', ok, hQ⟩
theorem ok_summed (T : Tx K mg base) : DefOk P w K mg base 11 "summed" ["rows"] (spSummed OKh awh) := by
  refine summedOk T.hpk T.hpm (ok_m___init__ T) (by decide) T.f_summed sc_summed bn_summed rfl rfl (fun f cdv A outer s H hr hg => (pd_fn (ok_added_weights T) hr (by decide) hg (pda_cons (pd_var 0) pda_nil))) (fun f cdv A outer s H => rfl) (fun f cdv A outer s H => pe_var (i := 1) rfl (Or.inl rfl) (by decide) (by decide)) (fun f cdv A outer s H => pe_var (i := 1) rfl (Or.inl rfl) (by decide) (by decide)) (fun f cdv A outer s H t h => ps_set (i := 1) sc_summed.nd rfl (Or.inl rfl) h) OKh.nil (fun f cdv A outer s H => rfl) ?_
  rintro y rows Qd ⟨R, rfl, ok⟩ hQ
  simp only [dSeq, dNext, dRet, dIf, dDrop, dAsg, dgName, dgNil, dgCons, dgTup, dPar, dPar3, dOwn, dApp, dFrz, dVar, dC, dOp, dI, dI0, dB0, dNeg, dTup, dLst, dBoolT, dAndT, dOrT, dNotT, dAndV, dOrV, dNotV, dCall, dCall0, dB, dIsi, dRepr, dAbs, dInt1, dInt2, dAll, dstart, dwipe, clean, Sl.clean, List.map_cons, List.map_nil, List.length_cons, List.length_nil, List.replicate, List.cons_append, List.nil_append, List.set_cons_zero, List.set_cons_succ, List.getElem?_cons_zero, List.getElem?_cons_succ, Nat.reduceAdd, Nat.reduceSub, Nat.add_zero, Nat.zero_add, Nat.add_sub_cancel, Nat.sub_self, atI_0, atI_1, atI_2, atI_3, dLtI, dLeI, dGtI, dGeI, dSub, dFd, dMod, dPow, eAdd_i, eAdd_l, eMul_i, eMul_l, eIx_l, eIx_t, eLen_l, eLen_t, eInt_i, eInt_b, eEq_i, eNe_i, eEq_e, dRaise, dRetX, dTry, dGcd3, dIsB, dChain, dZip, dItT, dItL, dSl, dNoPart, dPart, dChain, dgUnl, dParO, notN_no, notN_t, isN_no, dRev, dParC, dOwnC, dMaxD, dEnum, capD, dLstN, dNGet, dWts, dItN, dHH, dHI, dIH, dMeth, dMeth0, dMake, dIsH, dSortD, dDcn, dYes]
  rw [awh_nk] at hQ
  exact ⟨_, R, rfl, .inl (by rw [nkR_rows]), ok, hQ⟩
theorem ok_l_open_cells (T : Tx K mg base) : NameOk P w K mg base 1 "_law_open_cells" ["_law_script"] (spCells K) := by
  refine nameOk T.f_l_open_cells sc_l_open_cells bn_l_open_cells (fun vs H Q E h => ?_) (fun f cdv A outer s H vs Q hr hg h => ?_)
  · obtain ⟨_, _, rfl, _⟩ := h
    rfl
  obtain ⟨a, ns, rfl, hS, hlen, hbits, k⟩ := h
  refine ⟨_, pss_cons (ps_set (i := 1) sc_l_open_cells.nd rfl (Or.inl rfl) pe_int)
    (pss_cons (ps_for PassesOwn.never rfl (pi_list (pv 0)) (pg_name (i := 2) sc_l_open_cells.nd rfl (Or.inl rfl))
      (pss_one (ps_set (i := 1) sc_l_open_cells.nd rfl (Or.inl rfl) (pe_op op_mod (pe_callTy call_int1 rfl T.b_int (by decide +kernel) (pa_cons (pe_op op_add (pe_op op_add (pe_op op_mul (pv 1) pe_int) (pe_op op_mul (pv 2) pe_int)) pe_int) pa_nil)) pe_int))))
    (pss_cons (ps_setLc (i := 3) (own := [("_law_cell", 2)]) (g := gName 2) (tt := tYes) rfl sc_l_open_cells.nd rfl rfl (sw_true rfl rfl rfl (by decide +kernel)) (pi_list (pv 0)) (blkOk_by (N := N_l_open_cells) (sc := defScope s_l_open_cells) (by decide +kernel))
      (fun _ _ _ _ _ => pg_name sc_l_open_cells.nd rfl (Or.inl rfl)) (fun _ _ _ _ _ => pts_nil) (fun _ _ _ _ _ => pe_callB call_abs (by rfl) T.b_abs (by decide +kernel) (pa_cons (pv 2) pa_nil)))
    (pss_one (ps_ret (pe_disp (pps_cons pe_str (pe_revL (pv 3)) (pps_cons pe_str pe_int (pps_cons pe_str (pv 1) (pps_cons pe_str pe_int pps_nil)))) rfl rfl (by simp) (by decide)))))), ?_⟩
  -- the loop
  refine ⟨_, rfl, a, rfl, ⟨_, hS⟩, for_list (K := K) (a := a) (xs := ns.map V.int) (fun i σ H2 => H2 = H ∧ ∃ (m : Int) (v : Option V), σ = [some (.ref a), some (.int m), v, none])
    ⟨rfl, 11, none, rfl⟩ (fun i σ H2 _ ⟨e, _⟩ => e ▸ hS) ?_ ?_⟩
  · rintro i x σ H2 hx ⟨eH, m, v, rfl⟩
    subst H2
    obtain ⟨z, rfl⟩ : ∃ z, x = V.int z := by
      rw [List.getElem?_map] at hx
      cases e : ns[i]? with
      | none => rw [e] at hx; cases hx
      | some z => rw [e] at hx; exact ⟨z, (Option.some.inj hx).symm⟩
    refine ⟨_, rfl, _, _, rfl, rfl, Or.inr ⟨by decide, by decide⟩, _, rfl, _, _, rfl, rfl, Or.inr ⟨by decide, by decide⟩, _, _, rfl, rfl, _, _, rfl, rfl, Or.inl ⟨_, rfl, _, _, rfl, rfl, (by show (0 : Int) < 2147483629; decide), ?_⟩⟩
    exact ⟨rfl, _, _, rfl⟩
  rintro σ H2 ⟨eH, m, v, rfl⟩
  subst H2
  -- the cells
  refine ⟨_, rfl, a, rfl, ⟨_, hS⟩, fun Dl hD => ?_⟩
  have hSD : ∀ o, SqL K (upd H Dl o) a (ns.map V.int) := fun o => (Same.upd hD).seq hS
  refine lc_list (K := K) (a := a) (xs := ns.map V.int) (fun i H2 => ∃ ms : List Int, H2 = upd H Dl (.lst (ms.map V.int)) ∧ ms.length ≤ i) ⟨[], rfl, Nat.le_refl _⟩ (fun i H2 _ ⟨ms, e, _⟩ => e ▸ hSD _) ?_ ?_
  · rintro i x H2 hx ⟨ms, rfl, hms⟩
    obtain ⟨z, rfl⟩ : ∃ z, x = V.int z := by
      rw [List.getElem?_map] at hx
      cases e : ns[i]? with
      | none => rw [e] at hx; cases hx
      | some z => rw [e] at hx; exact ⟨z, (Option.some.inj hx).symm⟩
    have hi : i < ns.length := by
      rw [List.getElem?_map] at hx
      cases e : ns[i]? with
      | none => rw [e] at hx; cases hx
      | some z => exact (List.getElem?_eq_some_iff.mp e).1
    refine ⟨rfl, ?_⟩
    simp only [tYes, if_true]
    refine ⟨_, rfl, _, rfl, _, upd_same, by rw [List.length_map, sizeLine_eq]; omega, ms ++ [if z < 0 then -z else z], ?_, by simp; omega⟩
    rw [upd_upd, List.map_append]; rfl
  rintro H2 ⟨ms, rfl, hms⟩
  -- the dict
  intro p hp
  have hDp : Dl ≠ p := ne_of_none upd_same hp
  refine ⟨_, rfl, Dl, _, rfl, Or.inl (Or.inl (by rw [upd_ne hDp]; exact upd_same)), fun c hc => ?_⟩
  have hcp : c ≠ p := fun z => by subst z; rw [upd_same] at hc; cases hc
  have hcD : c ≠ Dl := fun z => by subst z; rw [upd_ne hDp, upd_same] at hc; cases hc
  refine ⟨_, rfl, ?_⟩
  refine ⟨by rw [upd_ne hcp.symm, upd_same], [(.inr "cells", .ref c), (.inr "left", .int 1), (.inr "mixed", .int m), (.inr "turn", .int 0)], rfl, by simp, ?_⟩
  refine k p c ms.reverse 1 m 0 _ ?_ ?_ hcp.symm (fun b o e => ?_) ?_ ?_
  · cases q : H p with
    | none => rfl
    | some o => rw [upd_ne (ne_of_none (H := upd H Dl (.lst (ms.map V.int))) (upd_same) hp).symm] at hp; rw [q] at hp; cases hp
  · cases q : H c with
    | none => rfl
    | some o => rw [upd_ne hcp, upd_ne hcD, q] at hc; cases hc
  · have h1 : b ≠ Dl := ne_of_none e hD
    have h2 : upd H Dl (.lst (ms.map V.int)) b = some o := by rw [upd_ne h1]; exact e
    have h3 : b ≠ p := ne_of_none h2 hp
    have h4 : upd (upd H Dl (.lst (ms.map V.int))) p (.dK []) b = some o := by rw [upd_ne h3]; exact h2
    rw [upd_ne h3, upd_ne (ne_of_none h4 hc)]; exact h4
  · rw [upd_ne hcp, upd_same, List.map_reverse]
  · rw [upd_same]; rfl

theorem ok_l_pick (T : Tx K mg base) : DefOk P w K mg base 1 "_law_pick" ["_law_source", "_law_most"] spPick := by
  refine nameOk T.f_l_pick sc_l_pick bn_l_pick (fun vs H Q E h => ?_) (fun f cdv A outer s H vs Q hr hg h => ?_)
  · obtain ⟨_, _, _, _, _, _, _, l, _⟩ := h
    exact l
  obtain ⟨S, M, ds, Qd, hM, so, rs, _, ⟨m, rfl, hm, hq⟩, k⟩ := h
  have hu := hu_of hr
  cases rs with
  | cons r1 rs =>
  cases rs with
  | cons r2 rs =>
  cases rs
  cases r2
  cases r1 with
  | @src p c eS =>
  subst eS
  obtain ⟨hp, hc, hpc, ns0, l0, m0, t0, h1, h2⟩ := so.go p c rfl
  have fin : ∀ {H' : Hp} (z : Int), (KpS p c H H' ∧ ∃ (ns : List Int) (l m t : Int), H' c = some (.lst (ns.map V.int)) ∧ H' p = some (.dK (srcKvs c l m t))) → 0 ≤ z → (z < m ∨ z = 0) → Q (.int z) H' := fun {H'} z ⟨kp, ns, l, mm, t, e1, e2⟩ g1 g2 =>
    k _ _ H' (hq z g1 g2) kp.keep ⟨fun p' c' e => by cases e; exact ⟨hp, hc, hpc, ns, l, mm, t, e1, e2⟩, kp.tab so.tab h1 h2, fun a z => by
      by_cases y : a = p
      · rw [y, e2]; exact True.intro
      by_cases y2 : a = c
      · rw [y2, e1]; exact True.intro
      exact (so.nt a z).sameT fun o e => kp.keep a o e fun p2 c2 q => by cases q; exact ⟨y, y2⟩⟩ (.int z)
  have keepP : ∀ {H' : Hp} {o : HO}, KpS p c H H' → KpS p c H (upd H' p o) := fun kp => kp.p
  have keepC : ∀ {H' : Hp} {o : HO}, KpS p c H H' → KpS p c H (upd H' c o) := fun kp => kp.c
  have dg : ∀ {H' : Hp} {l mm t : Int}, H' p = some (.dK (srcKvs c l mm t)) → DGet H' p (.str "cells") (some (.ref c)) ∧ DGet H' p (.str "left") (some (.int l)) ∧ DGet H' p (.str "mixed") (some (.int mm)) ∧ DGet H' p (.str "turn") (some (.int t)) := fun {H' l mm t} e => by
    obtain ⟨a, b, d, f⟩ := srcKvs_val c l mm t
    exact ⟨a ▸ DGet.k (k := Sum.inr "cells") e, b ▸ DGet.k (k := Sum.inr "left") e, d ▸ DGet.k (k := Sum.inr "mixed") e, f ▸ DGet.k (k := Sum.inr "turn") e⟩
  refine ⟨_, pss_cons (ps_if (pt_cmpR op_lt (pv 1) pe_int (nomark _)) (pss_one (ps_ret pe_int)) pss_nil)
    (pss_cons (ps_set (i := 2) sc_l_pick.nd rfl (Or.inl rfl) (pe_dget hu (pv 0) pe_str (fun _ _ => rfl)))
    (pss_cons (ps_while PassesOwn.never (pw_and (pt_cmpR op_lt (pe_dget hu (pv 0) pe_str (fun _ _ => rfl)) pe_int (nomark _)) (pw_and1 (pt_cmpR op_gt (pe_callB call_len (by rfl) T.b_len PySem.boot_len (pa_cons (pv 2) pa_nil)) pe_int (nomark _)))).pt
      (pss_one (ps_dput hu (pv 0) pe_str (pe_bm0 PySem.F.plainAttrs_list PySem.F.slot_list_pop PySem.F.type_list_pop mt_pop (pv 2)) rfl)))
    (pss_cons (ps_set (i := 3) sc_l_pick.nd rfl (Or.inl rfl) (pe_dget hu (pv 0) pe_str (fun _ _ => rfl)))
    (pss_cons (ps_if (pt_cmpR op_gt (pv 3) pe_int (nomark _))
      (pss_cons (ps_dput hu (pv 0) pe_str (pe_op op_fdiv (pv 3) (pv 1)) rfl) (pss_one (ps_ret (pe_op op_mod (pe_callTy call_int1 rfl T.b_int (by decide +kernel) (pa_cons (pv 3) pa_nil)) (pv 1))))) pss_nil)
    (pss_cons (ps_dput hu (pv 0) pe_str (pe_op op_add (pe_dget hu (pv 0) pe_str (fun _ _ => rfl)) pe_int) rfl)
    (pss_cons (ps_set (i := 4) sc_l_pick.nd rfl (Or.inl rfl) (pe_dget hu (pv 0) pe_str (fun _ _ => rfl)))
    (pss_cons (ps_set (i := 5) sc_l_pick.nd rfl (Or.inl rfl) (pe_op op_mod (pe_callTy call_int1 rfl T.b_int (by decide +kernel) (pa_cons (pe_op op_add (pe_dget hu (pv 0) pe_str (fun _ _ => rfl)) (pe_op op_mul (pv 4) pe_int)) pa_nil)) pe_int))
    (pss_cons (ps_set (i := 5) sc_l_pick.nd rfl (Or.inl rfl) (pe_op op_mod (pe_callTy call_int1 rfl T.b_int (by decide +kernel) (pa_cons (pe_op op_add (pe_op op_mul (pv 5) (pv 5)) (pe_op op_mul (pv 4) pe_int)) pa_nil)) pe_int))
    (pss_one (ps_ret (pe_op op_mod (pe_callTy call_int1 rfl T.b_int (by decide +kernel) (pa_cons (pe_op op_fdiv (pv 5) pe_int) pa_nil)) (pv 1)))))))))))), ?_⟩
  -- if most < 2: return 0
  refine ⟨_, rfl, _, _, rfl, rfl, _, rfl, ?_⟩
  by_cases hm2 : m < 2
  · refine ifT (decide_eq_true hm2) ?_
    exact fin 0 ⟨.refl, ns0, l0, m0, t0, h1, h2⟩ (Int.le_refl 0) (.inr rfl)
  refine ifF (decide_eq_false hm2) ?_
  -- digits = source['cells']
  refine ⟨_, rfl, p, _, rfl, (dg h2).1, ?_⟩
  -- while
  refine ⟨fun n σ' H' => σ' = [some (.ref p), some (.int m), some (.ref c), none, none, none] ∧ KpS p c H H' ∧ ∃ (ns : List Int) (l mm t : Int), n = ns.length ∧ H' c = some (.lst (ns.map V.int)) ∧ H' p = some (.dK (srcKvs c l mm t)), ⟨_, rfl, .refl, ns0, l0, m0, t0, rfl, h1, h2⟩, ?_⟩
  rintro n σ' H' ⟨rfl, kp, ns, l, mm, t, rfl, e1, e2⟩
  refine ⟨_, rfl, p, _, rfl, (dg e2).2.1, _, _, rfl, rfl, _, rfl, ?_⟩
  by_cases hl : l < 2
  · refine ifT (decide_eq_true hl) ?_
    refine ⟨_, rfl, _, _, rfl, Or.inl ⟨_, Or.inl (Or.inl e1), rfl⟩, _, _, rfl, rfl, _, rfl, ?_⟩
    by_cases hn : 0 < ns.length
    · refine ifT (decide_eq_true (by rw [List.length_map]; omega)) ?_
      have hne : ns ≠ [] := fun z => by rw [z] at hn; exact absurd hn (by decide)
      refine ⟨fun σ2 H2 => σ2 = [some (.ref p), some (.int m), some (.ref c), none, none, none] ∧ KpS p c H H2 ∧ ∃ (l : Int), H2 c = some (.lst (ns.dropLast.map V.int)) ∧ H2 p = some (.dK (srcKvs c l mm t)), fun σ2 H2 ⟨q1, q2, l2, q3, q4⟩ => ⟨ns.dropLast.length, by rw [List.length_dropLast]; omega, q1, q2, ns.dropLast, l2, mm, t, rfl, q3, q4⟩, ?_⟩
      have hlast : (ns.map V.int)[(ns.map V.int).length - 1]? = some (.int (ns.getLast hne)) := by
        rw [List.length_map, List.getElem?_map, ← List.getLast?_eq_getElem?, List.getLast?_eq_some_getLast hne]; rfl
      refine ⟨_, rfl, Or.inl ⟨rfl, _, Or.inl (Or.inl e1)⟩, c, _, _, rfl, rfl, e1, hlast, _, rfl, p, _, rfl, DPut.k (k := Sum.inr "left") (by rw [upd_ne hpc]; exact e2) (by rw [sizeLine_eq]; show 4 < 16777216; decide), ?_⟩
      refine ⟨rfl, keepP (keepC kp), ns.getLast hne, ?_, ?_⟩
      · rw [upd_ne hpc.symm, upd_same, List.map_dropLast]
      · rw [upd_same, srcKvs_left]
    · refine ifF (decide_eq_false (by rw [List.length_map]; omega)) ?_
      -- left = source['left']; if left > 1
      refine ⟨_, rfl, p, _, rfl, (dg e2).2.1, ?_⟩
      refine ⟨_, rfl, _, _, rfl, rfl, _, rfl, ?_⟩
      by_cases hl1 : 1 < l
      · refine ifT (decide_eq_true hl1) ?_
        refine ⟨_, rfl, _, rfl, _, _, rfl, rfl, ⟨by omega, by omega⟩, _, rfl, p, _, rfl, DPut.k (k := Sum.inr "left") e2 (by rw [sizeLine_eq]; show 4 < 16777216; decide), ?_⟩
        refine ⟨_, rfl, Or.inl ⟨_, rfl, _, rfl, _, _, rfl, rfl, (by omega : (0 : Int) < m), ?_⟩⟩
        exact fin (l % m) ⟨keepP kp, ns, l / m, mm, t, by rw [upd_ne hpc.symm]; exact e1, by rw [upd_same, srcKvs_left]⟩ (Int.emod_nonneg _ (by omega)) (.inl (Int.emod_lt_of_pos _ (by omega)))
      refine ifF (decide_eq_false hl1) ?_
      refine ⟨_, rfl, p, _, rfl, (dg e2).2.2.2, _, _, rfl, rfl, _, rfl, p, _, rfl, DPut.k (k := Sum.inr "turn") e2 (by rw [sizeLine_eq]; show 4 < 16777216; decide), ?_⟩
      have e3 : upd H' p (.dK (putK (srcKvs c l mm t) (Sum.inr "turn") (.int (t + 1)))) p = some (.dK (srcKvs c l mm (t + 1))) := by rw [upd_same, srcKvs_turn]
      have e4 : upd H' p (.dK (putK (srcKvs c l mm t) (Sum.inr "turn") (.int (t + 1)))) c = some (.lst (ns.map V.int)) := by rw [upd_ne hpc.symm]; exact e1
      refine ⟨_, rfl, p, _, rfl, (dg e3).2.2.2, ?_⟩
      refine ⟨_, rfl, p, _, rfl, (dg e3).2.2.1, _, rfl, _, _, rfl, rfl, Or.inr ⟨by decide, by decide⟩, _, _, rfl, rfl, Or.inl ⟨_, rfl, _, _, rfl, rfl, (by show (0 : Int) < 998244353; decide), ?_⟩⟩
      have b0 : 0 ≤ (mm + (t + 1) * 104729) % 998244353 := Int.emod_nonneg _ (by decide)
      have b1 : (mm + (t + 1) * 104729) % 998244353 < 998244353 := Int.emod_lt_of_pos _ (by decide)
      refine ⟨_, rfl, _, rfl, _, _, rfl, rfl, Or.inl ⟨by omega, by omega⟩, _, rfl, _, _, rfl, rfl, Or.inr ⟨by decide, by decide⟩, _, _, rfl, rfl, Or.inl ⟨_, rfl, _, _, rfl, rfl, (by show (0 : Int) < 2147483647; decide), ?_⟩⟩
      refine ⟨_, rfl, _, _, rfl, rfl, ⟨by decide, by decide⟩, Or.inl ⟨_, rfl, _, rfl, _, _, rfl, rfl, (by omega : (0 : Int) < m), ?_⟩⟩
      exact fin _ ⟨keepP kp, ns, l, mm, t + 1, e4, e3⟩ (Int.emod_nonneg _ (by omega)) (.inl (Int.emod_lt_of_pos _ (by omega)))
  · refine ifF (decide_eq_false hl) ?_
    refine iteF ?_
    · skip
      -- left = source['left']; if left > 1
      refine ⟨_, rfl, p, _, rfl, (dg e2).2.1, ?_⟩
      refine ⟨_, rfl, _, _, rfl, rfl, _, rfl, ?_⟩
      by_cases hl1 : 1 < l
      · refine ifT (decide_eq_true hl1) ?_
        refine ⟨_, rfl, _, rfl, _, _, rfl, rfl, ⟨by omega, by omega⟩, _, rfl, p, _, rfl, DPut.k (k := Sum.inr "left") e2 (by rw [sizeLine_eq]; show 4 < 16777216; decide), ?_⟩
        refine ⟨_, rfl, Or.inl ⟨_, rfl, _, rfl, _, _, rfl, rfl, (by omega : (0 : Int) < m), ?_⟩⟩
        exact fin (l % m) ⟨keepP kp, ns, l / m, mm, t, by rw [upd_ne hpc.symm]; exact e1, by rw [upd_same, srcKvs_left]⟩ (Int.emod_nonneg _ (by omega)) (.inl (Int.emod_lt_of_pos _ (by omega)))
      refine ifF (decide_eq_false hl1) ?_
      refine ⟨_, rfl, p, _, rfl, (dg e2).2.2.2, _, _, rfl, rfl, _, rfl, p, _, rfl, DPut.k (k := Sum.inr "turn") e2 (by rw [sizeLine_eq]; show 4 < 16777216; decide), ?_⟩
      have e3 : upd H' p (.dK (putK (srcKvs c l mm t) (Sum.inr "turn") (.int (t + 1)))) p = some (.dK (srcKvs c l mm (t + 1))) := by rw [upd_same, srcKvs_turn]
      have e4 : upd H' p (.dK (putK (srcKvs c l mm t) (Sum.inr "turn") (.int (t + 1)))) c = some (.lst (ns.map V.int)) := by rw [upd_ne hpc.symm]; exact e1
      refine ⟨_, rfl, p, _, rfl, (dg e3).2.2.2, ?_⟩
      refine ⟨_, rfl, p, _, rfl, (dg e3).2.2.1, _, rfl, _, _, rfl, rfl, Or.inr ⟨by decide, by decide⟩, _, _, rfl, rfl, Or.inl ⟨_, rfl, _, _, rfl, rfl, (by show (0 : Int) < 998244353; decide), ?_⟩⟩
      have b0 : 0 ≤ (mm + (t + 1) * 104729) % 998244353 := Int.emod_nonneg _ (by decide)
      have b1 : (mm + (t + 1) * 104729) % 998244353 < 998244353 := Int.emod_lt_of_pos _ (by decide)
      refine ⟨_, rfl, _, rfl, _, _, rfl, rfl, Or.inl ⟨by omega, by omega⟩, _, rfl, _, _, rfl, rfl, Or.inr ⟨by decide, by decide⟩, _, _, rfl, rfl, Or.inl ⟨_, rfl, _, _, rfl, rfl, (by show (0 : Int) < 2147483647; decide), ?_⟩⟩
      refine ⟨_, rfl, _, _, rfl, rfl, ⟨by decide, by decide⟩, Or.inl ⟨_, rfl, _, rfl, _, _, rfl, rfl, (by omega : (0 : Int) < m), ?_⟩⟩
      exact fin _ ⟨keepP kp, ns, l, mm, t + 1, e4, e3⟩ (Int.emod_nonneg _ (by omega)) (.inl (Int.emod_lt_of_pos _ (by omega)))

theorem ok_l_any_order (T : Tx K mg base) : DefOk P w K mg base 2 "_law_any_order" ["_law_source", "_law_things"] spAny := by
  refine defOk T.f_l_any_order sc_l_any_order bn_l_any_order (fun f cdv A outer s H hr hg => (pss_dc (psd_own (i := 2) sc_l_any_order.nd rfl (Or.inr rfl) (pdn_listOf T.b_list (pda_cons (pd_var 1) pda_nil)))
      (pss_d1 (psd_retPop 2 (own := [("_law_lap", 3)]) rfl sc_l_any_order.nd rfl T.b_range (pda_cons (pd_blt call_len lc_len rfl T.b_len (by decide +kernel) (pda_cons (pd_var 2) pda_nil)) pda_nil) (blk (N := N_l_any_order) (sc := defScope s_l_any_order) (by decide +kernel)) (fun _ _ _ _ _ => pg_name sc_l_any_order.nd rfl (Or.inl rfl)) (lg_name 3) (sets_name (by decide)) (fun _ _ _ _ _ => pe_bm PySem.F.plainAttrs_list PySem.F.slot_list_pop PySem.F.type_list_pop mt_popAt (pe_var (i := 2) (by rfl) (by first | exact Or.inl rfl | exact Or.inr (Or.inl rfl) | exact Or.inr (Or.inr rfl)) (by decide) (by decide)) (pa_cons (PD.pe (pd_fn (ok_l_pick T) hr (by decide) hg (pda_cons (pd_var 0) (pda_cons (pd_blt call_len lc_len rfl T.b_len (by decide +kernel) (pda_cons (pd_var 2) pda_nil)) pda_nil)))) pa_nil)))))) ?_
  rintro ds Qd _ ⟨b, xs, rfl, hl, h⟩
  show dSeq _ _ _ [.val SRC, .val (seqD b xs), .emp, .emp]
  refine dSeq_g (fun σ => ∃ a, σ = [.val SRC, .val (seqD b xs), .own a xs, .emp]) ?_ ?_
  · intro N hN
    cases b <;> (simp only [dSeq, dNext, dRet, dIf, dDrop, dAsg, dgName, dgNil, dgCons, dgTup, dPar, dPar3, dOwn, dApp, dFrz, dVar, dC, dOp, dI, dI0, dB0, dNeg, dTup, dLst, dBoolT, dAndT, dOrT, dNotT, dAndV, dOrV, dNotV, dCall, dCall0, dB, dIsi, dRepr, dAbs, dInt1, dInt2, dAll, dstart, dwipe, clean, Sl.clean, List.map_cons, List.map_nil, List.length_cons, List.length_nil, List.replicate, List.cons_append, List.nil_append, List.set_cons_zero, List.set_cons_succ, List.getElem?_cons_zero, List.getElem?_cons_succ, Nat.reduceAdd, Nat.reduceSub, Nat.add_zero, Nat.zero_add, Nat.add_sub_cancel, Nat.sub_self, atI_0, atI_1, atI_2, atI_3, dLtI, dLeI, dGtI, dGeI, dSub, dFd, dMod, dPow, eAdd_i, eAdd_l, eMul_i, eMul_l, eIx_l, eIx_t, eLen_l, eLen_t, eInt_i, eInt_b, eEq_i, eNe_i, eEq_e, dRaise, dRetX, dTry, dGcd3, dIsB, dChain, dZip, dItT, dItL, dSl, dNoPart, dPart, dChain, dgUnl, dParO, notN_no, notN_t, isN_no, dRev, dParC, dOwnC, dMaxD, dEnum, capD, dLstN, seqD, cond]; exact fun a => hN _ ⟨a, rfl⟩)
  rintro σ2 ⟨a, rfl⟩
  refine ⟨a, xs, rfl, ?_⟩
  generalize seqD b xs = A
  simp only [dSeq, dNext, dRet, dIf, dDrop, dAsg, dgName, dgNil, dgCons, dgTup, dPar, dPar3, dOwn, dApp, dFrz, dVar, dC, dOp, dI, dI0, dB0, dNeg, dTup, dLst, dBoolT, dAndT, dOrT, dNotT, dAndV, dOrV, dNotV, dCall, dCall0, dB, dIsi, dRepr, dAbs, dInt1, dInt2, dAll, dstart, dwipe, clean, Sl.clean, List.map_cons, List.map_nil, List.length_cons, List.length_nil, List.replicate, List.cons_append, List.nil_append, List.set_cons_zero, List.set_cons_succ, List.getElem?_cons_zero, List.getElem?_cons_succ, Nat.reduceAdd, Nat.reduceSub, Nat.add_zero, Nat.zero_add, Nat.add_sub_cancel, Nat.sub_self, atI_0, atI_1, atI_2, atI_3, dLtI, dLeI, dGtI, dGeI, dSub, dFd, dMod, dPow, eAdd_i, eAdd_l, eMul_i, eMul_l, eIx_l, eIx_t, eLen_l, eLen_t, eInt_i, eInt_b, eEq_i, eNe_i, eEq_e, dRaise, dRetX, dTry, dGcd3, dIsB, dChain, dZip, dItT, dItL, dSl, dNoPart, dPart, dChain, dgUnl, dParO, notN_no, notN_t, isN_no, dRev, dParC, dOwnC, dMaxD, dEnum, capD, dLstN]
  refine ⟨(xs.length : Int), rfl, by omega, by omega, by omega, fun j acc rest => (acc ++ rest).Perm xs ∧ acc.length = j, ⟨by simp, rfl⟩, ?_, ?_⟩
  · rintro j acc rest hj _ ⟨hp, hlen⟩
    have lr := hp.length_eq
    rw [List.length_append] at lr
    have hpos : 0 < rest.length := by omega
    simp only [dSeq, dNext, dRet, dIf, dDrop, dAsg, dgName, dgNil, dgCons, dgTup, dPar, dPar3, dOwn, dApp, dFrz, dVar, dC, dOp, dI, dI0, dB0, dNeg, dTup, dLst, dBoolT, dAndT, dOrT, dNotT, dAndV, dOrV, dNotV, dCall, dCall0, dB, dIsi, dRepr, dAbs, dInt1, dInt2, dAll, dstart, dwipe, clean, Sl.clean, List.map_cons, List.map_nil, List.length_cons, List.length_nil, List.replicate, List.cons_append, List.nil_append, List.set_cons_zero, List.set_cons_succ, List.getElem?_cons_zero, List.getElem?_cons_succ, Nat.reduceAdd, Nat.reduceSub, Nat.add_zero, Nat.zero_add, Nat.add_sub_cancel, Nat.sub_self, atI_0, atI_1, atI_2, atI_3, dLtI, dLeI, dGtI, dGeI, dSub, dFd, dMod, dPow, eAdd_i, eAdd_l, eMul_i, eMul_l, eIx_l, eIx_t, eLen_l, eLen_t, eInt_i, eInt_b, eEq_i, eNe_i, eEq_e, dRaise, dRetX, dTry, dGcd3, dIsB, dChain, dZip, dItT, dItL, dSl, dNoPart, dPart, dChain, dgUnl, dParO, notN_no, notN_t, isN_no, dRev, dParC, dOwnC, dMaxD, dEnum, capD, dLstN]
    refine ⟨(rest.length : Int), rfl, by omega, fun k k0 k1 => ?_⟩
    have hk : k.toNat < rest.length := by omega
    refine ⟨k.toNat, rest[k.toNat], by rw [Int.toNat_of_nonneg k0], by omega, List.getElem?_eq_getElem hk, any_step hp (List.getElem?_eq_getElem hk), by simp; omega⟩
  · rintro acc rest ⟨hp, hlen⟩
    have lr := hp.length_eq
    rw [List.length_append] at lr
    have e0 : rest = [] := List.eq_nil_of_length_eq_zero (by omega)
    subst e0
    rw [List.append_nil] at hp
    exact h acc hp
theorem ok_l_common (T : Tx K mg base) : DefOk P w K mg base 1 "_law_common" ["_law_a", "_law_b"] spCommon := by
  refine defOk T.f_l_common sc_l_common bn_l_common (fun f cdv A outer s H hr hg => (pss_dc (psd_par (i := 0) (j := 1) rfl sc_l_common.nd rfl rfl (by decide) rfl rfl (pda_cons (pd_blt call_abs lc_abs rfl T.b_abs (by decide +kernel) (pda_cons (pd_var 0) pda_nil)) (pda_cons (pd_blt call_abs lc_abs rfl T.b_abs (by decide +kernel) (pda_cons (pd_var 1) pda_nil)) pda_nil)) rfl)
      (pss_dc (psd_while PassesOwn.never (pdt_ne hr.units (pd_var 1) pd_int) (pss_d1 (psd_par (i := 0) (j := 1) rfl sc_l_common.nd rfl rfl (by decide) rfl rfl (pda_cons (pd_var 1) (pda_cons (pd_mod (pd_var 0) (pd_var 1)) pda_nil)) rfl)))
      (pss_d1 (psd_ret (pd_var 0)))))) ?_
  rintro ds Qd _ ⟨a, b, rfl, h⟩
  simp only [dSeq, dNext, dRet, dIf, dDrop, dAsg, dgName, dgNil, dgCons, dgTup, dPar, dPar3, dOwn, dApp, dFrz, dVar, dC, dOp, dI, dI0, dB0, dNeg, dTup, dLst, dBoolT, dAndT, dOrT, dNotT, dAndV, dOrV, dNotV, dIfE, dCall, dCall0, dB, dIsi, dRepr, dAbs, dInt1, dInt2, dAll, dstart, dwipe, clean, Sl.clean, List.map_cons, List.map_nil, List.length_cons, List.length_nil, List.replicate, List.cons_append, List.nil_append, List.set_cons_zero, List.set_cons_succ, List.getElem?_cons_zero, List.getElem?_cons_succ, Nat.reduceAdd, Nat.reduceSub, Nat.add_zero, Nat.zero_add, Nat.add_sub_cancel, Nat.sub_self, atI_0, atI_1, atI_2, atI_3, dLtI, dLeI, dGtI, dGeI, dSub, dFd, dMod, dPow, eAdd_i, eAdd_l, eMul_i, eMul_l, eIx_l, eIx_t, eLen_l, eLen_t, eInt_i, eInt_b, eEq_i, eNe_i, eEq_e]
  refine ⟨fun k σ => ∃ x y : Nat, σ = [.val (.int x), .val (.int y)] ∧ Nat.gcd x y = Int.gcd a b ∧ k = y, ⟨b.natAbs, a.natAbs, b.natAbs, ?_, rfl, rfl⟩, ?_⟩
  · have e : ∀ z : Int, (if z < 0 then -z else z) = (z.natAbs : Int) := fun z => by split <;> omega
    rw [e, e]
  · rintro k σ' ⟨x, y, rfl, hg, hk⟩
    subst hk
    simp only [dNe, dMod, dSeq, dNext, dRet, dIf, dDrop, dAsg, dgName, dgNil, dgCons, dgTup, dPar, dPar3, dOwn, dApp, dFrz, dVar, dC, dOp, dI, dI0, dB0, dNeg, dTup, dLst, dBoolT, dAndT, dOrT, dNotT, dAndV, dOrV, dNotV, dIfE, dCall, dCall0, dB, dIsi, dRepr, dAbs, dInt1, dInt2, dAll, dstart, dwipe, clean, Sl.clean, List.map_cons, List.map_nil, List.length_cons, List.length_nil, List.replicate, List.cons_append, List.nil_append, List.set_cons_zero, List.set_cons_succ, List.getElem?_cons_zero, List.getElem?_cons_succ, Nat.reduceAdd, Nat.reduceSub, Nat.add_zero, Nat.zero_add, Nat.add_sub_cancel, Nat.sub_self, atI_0, atI_1, atI_2, atI_3, dLtI, dLeI, dGtI, dGeI, dSub, dFd, dMod, dPow, eAdd_i, eAdd_l, eMul_i, eMul_l, eIx_l, eIx_t, eLen_l, eLen_t, eInt_i, eInt_b, eEq_i, eNe_i, eEq_e]
    by_cases hy : (k : Int) = 0
    · have hy0 : k = 0 := by omega
      subst hy0
      refine ifF (by simp) ?_
      rw [Nat.gcd_zero_right] at hg
      rw [hg]; exact h
    · refine ifT (by simpa using hy) ⟨fun z => hy z, x % k, ?_, k, x % k, ?_, ?_, rfl⟩
      · exact Nat.mod_lt _ (by omega)
      · rw [Int.fmod_eq_emod_of_nonneg _ (by omega)]; rfl
      · rw [← hg, Nat.gcd_comm, ← Nat.gcd_rec, Nat.gcd_comm]
theorem ok_l_place (T : Tx K mg base) : DefOk P w K mg base 2 "_law_place" ["_law_x", "_law_y", "_law_d"] spPlc := by
  refine defOk T.f_l_place sc_l_place bn_l_place (fun f cdv A outer s H hr hg => (pss_dc (psd_set (i := 3) sc_l_place.nd rfl (Or.inl rfl) (pd_mulA (pd_fn (ok_l_common T) hr (by decide) hg (pda_cons (pd_fn (ok_l_common T) hr (by decide) hg (pda_cons (pd_var 0) (pda_cons (pd_var 1) pda_nil))) (pda_cons (pd_var 2) pda_nil))) (pd_ifexp (pdt_gt (pd_var 2) pd_int) pd_int (pd_sub pd_int pd_int))))
      (pss_d1 (psd_ret (pd_tup (pda_cons (pd_fd (pd_var 0) (pd_var 3)) (pda_cons (pd_fd (pd_var 1) (pd_var 3)) (pda_cons (pd_fd (pd_var 2) (pd_var 3)) pda_nil)))))))) ?_
  rintro ds Qd _ ⟨x, y, d, a, rfl, hd, hx, hy, hd2, ha, h⟩
  simp only [dSeq, dNext, dRet, dIf, dDrop, dAsg, dgName, dgNil, dgCons, dgTup, dPar, dPar3, dOwn, dApp, dFrz, dVar, dC, dOp, dI, dI0, dB0, dNeg, dTup, dLst, dBoolT, dAndT, dOrT, dNotT, dAndV, dOrV, dNotV, dIfE, dCall, dCall0, dB, dIsi, dRepr, dAbs, dInt1, dInt2, dAll, dstart, dwipe, clean, Sl.clean, List.map_cons, List.map_nil, List.length_cons, List.length_nil, List.replicate, List.cons_append, List.nil_append, List.set_cons_zero, List.set_cons_succ, List.getElem?_cons_zero, List.getElem?_cons_succ, Nat.reduceAdd, Nat.reduceSub, Nat.add_zero, Nat.zero_add, Nat.add_sub_cancel, Nat.sub_self, atI_0, atI_1, atI_2, atI_3, dLtI, dLeI, dGtI, dGeI, dSub, dFd, dMod, dPow, eAdd_i, eAdd_l, eMul_i, eMul_l, eIx_l, eIx_t, eLen_l, eLen_t, eInt_i, eInt_b, eEq_i, eNe_i, eEq_e]
  refine ⟨x, y, rfl, _, d, rfl, ?_⟩
  have g0 := gs3_ne (x := x) (y := y) hd
  have gb : Bd a (gs3 x y d) := gs3_bd hd hd2
  have gc : Bd a (Int.gcd (Int.gcd x y : Int) d : Int) := ⟨by have := gb.h; rw [gs3_abs] at this; exact this⟩
  by_cases hn : 0 < d
  · have e : gs3 x y d = (Int.gcd (Int.gcd x y : Int) d : Int) * 1 := by unfold gs3; rw [if_neg (by omega), Int.mul_one]; rfl
    refine ifT (decide_eq_true hn) ⟨cmb gc bd_1 (by omega), ?_⟩
    rw [← e]
    exact ⟨cfd g0 gb ha, cfd g0 gb ha, cfd g0 gb ha, h⟩
  · have e : gs3 x y d = (Int.gcd (Int.gcd x y : Int) d : Int) * (0 - 1) := by unfold gs3; rw [if_pos (by omega)]; show -((Int.gcd (Int.gcd x y : Int) d : Nat) : Int) = _; omega
    refine ifF (decide_eq_false hn) ⟨cmb gc bd_sub (by omega), ?_⟩
    rw [← e]
    exact ⟨cfd g0 gb ha, cfd g0 gb ha, cfd g0 gb ha, h⟩
theorem ok_l_direction (T : Tx K mg base) : DefOk P w K mg base 2 "_law_direction" ["_law_a", "_law_b"] spDir := by
  refine defOk T.f_l_direction sc_l_direction bn_l_direction (fun f cdv A outer s H hr hg => (pss_dc (psd_set (i := 2) sc_l_direction.nd rfl (Or.inl rfl) (pd_fn (ok_l_common T) hr (by decide) hg (pda_cons (pd_var 0) (pda_cons (pd_var 1) pda_nil))))
      (pss_d1 (psd_ret (pd_tup (pda_cons (pd_fd (pd_var 0) (pd_var 2)) (pda_cons (pd_fd (pd_var 1) (pd_var 2)) pda_nil))))))) ?_
  rintro ds Qd _ ⟨a, b, k, rfl, h0, ha, hb, hk, h⟩
  simp only [dSeq, dNext, dRet, dIf, dDrop, dAsg, dgName, dgNil, dgCons, dgTup, dPar, dPar3, dOwn, dApp, dFrz, dVar, dC, dOp, dI, dI0, dB0, dNeg, dTup, dLst, dBoolT, dAndT, dOrT, dNotT, dAndV, dOrV, dNotV, dIfE, dCall, dCall0, dB, dIsi, dRepr, dAbs, dInt1, dInt2, dAll, dstart, dwipe, clean, Sl.clean, List.map_cons, List.map_nil, List.length_cons, List.length_nil, List.replicate, List.cons_append, List.nil_append, List.set_cons_zero, List.set_cons_succ, List.getElem?_cons_zero, List.getElem?_cons_succ, Nat.reduceAdd, Nat.reduceSub, Nat.add_zero, Nat.zero_add, Nat.add_sub_cancel, Nat.sub_self, atI_0, atI_1, atI_2, atI_3, dLtI, dLeI, dGtI, dGeI, dSub, dFd, dMod, dPow, eAdd_i, eAdd_l, eMul_i, eMul_l, eIx_l, eIx_t, eLen_l, eLen_t, eInt_i, eInt_b, eEq_i, eNe_i, eEq_e]
  have g0 : (Int.gcd a b : Int) ≠ 0 := by have := g2_pos h0; omega
  have gb : Bd k (Int.gcd a b : Int) := ⟨by
    rcases Decidable.em (b = 0) with z | z
    · have hane : a ≠ 0 := fun y => h0 ⟨y, z⟩
      exact Nat.lt_of_le_of_lt (Nat.le_of_dvd (by omega) (Nat.gcd_dvd_left a.natAbs b.natAbs)) ha.h
    · exact Nat.lt_of_le_of_lt (Nat.le_of_dvd (by omega) (Nat.gcd_dvd_right a.natAbs b.natAbs)) hb.h⟩
  exact ⟨a, b, rfl, cfd g0 gb hk, cfd g0 gb hk, h⟩
theorem ok_l_first (T : Tx K mg base) : DefOk P w K mg base 1 "_law_first" ["_law_p", "_law_q"] (spPl2 (fun _ _ _ _ _ _ => True) fun a b c d e g => .bool (lessP a b c d e g)) := by
  refine defOk T.f_l_first sc_l_first bn_l_first (fun f cdv A outer s H hr hg => (pss_dc (psd_if (pdt_ne hr.units (pd_mulA (pd_ix (pd_var 0) pd_int) (pd_ix (pd_var 1) pd_int)) (pd_mulA (pd_ix (pd_var 1) pd_int) (pd_ix (pd_var 0) pd_int))) (pss_d1 (psd_ret (pd_lt (pd_mulA (pd_ix (pd_var 0) pd_int) (pd_ix (pd_var 1) pd_int)) (pd_mulA (pd_ix (pd_var 1) pd_int) (pd_ix (pd_var 0) pd_int))))) pss_d0)
      (pss_d1 (psd_ret (pd_lt (pd_mulA (pd_ix (pd_var 0) pd_int) (pd_ix (pd_var 1) pd_int)) (pd_mulA (pd_ix (pd_var 1) pd_int) (pd_ix (pd_var 0) pd_int))))))) ?_
  rintro ds Qd _ ⟨a, b, c, d, e, g, k, rfl, h0, h1, h2, h3, h4, h5, h6, hk, h⟩
  simp only [dSeq, dNext, dRet, dIf, dDrop, dAsg, dgName, dgNil, dgCons, dgTup, dPar, dPar3, dOwn, dApp, dFrz, dVar, dC, dOp, dI, dI0, dB0, dNeg, dTup, dLst, dBoolT, dAndT, dOrT, dNotT, dAndV, dOrV, dNotV, dCall, dCall0, dB, dIsi, dRepr, dAbs, dInt1, dInt2, dAll, dstart, dwipe, clean, Sl.clean, List.map_cons, List.map_nil, List.length_cons, List.length_nil, List.replicate, List.cons_append, List.nil_append, List.set_cons_zero, List.set_cons_succ, List.getElem?_cons_zero, List.getElem?_cons_succ, Nat.reduceAdd, Nat.reduceSub, Nat.add_zero, Nat.zero_add, Nat.add_sub_cancel, Nat.sub_self, atI_0, atI_1, atI_2, atI_3, dLtI, dLeI, dGtI, dGeI, dSub, dFd, dMod, dPow, eAdd_i, eAdd_l, eMul_i, eMul_l, eIx_l, eIx_t, eLen_l, eLen_t, eInt_i, eInt_b, eEq_i, eNe_i, eEq_e, dRaise, dRetX, dTry, dGcd3, dIsB, dChain, dZip, dItT, dItL, dSl, dNoPart, dPart]
  refine ⟨cmb h1 h6 (by omega), cmb h4 h3 (by omega), ?_⟩
  by_cases z : a * g = d * c
  · refine ifF (by simp [z]) ⟨cmb h2 h6 (by omega), cmb h5 h3 (by omega), ?_⟩
    dsimp only at h
    have e0 : lessP a b c d e g = decide (b * g < e * c) := by unfold lessP; simp [z]
    rw [e0] at h; exact h
  · refine ifT (by simp [z]) ⟨cmb h1 h6 (by omega), cmb h4 h3 (by omega), ?_⟩
    dsimp only at h
    have e0 : lessP a b c d e g = decide (a * g < d * c) := by unfold lessP; simp [z]
    rw [e0] at h; exact h
theorem ok_l_places (T : Tx K mg base) : DefOk P w K mg base 2 "_law_places" ["_law_places_here"] spPlaces := by
  refine defOk T.f_l_places sc_l_places bn_l_places (fun f cdv A outer s H hr hg => (pss_dc (psd_set (i := 1) sc_l_places.nd rfl (Or.inl rfl) (pd_lst pda_nil))
      (pss_dc (psd_for PassesOwn.never rfl (pdi_list (pd_var 0)) (pdg_name (i := 2) sc_l_places.nd rfl (Or.inr rfl)) (pss_d1 (psd_if (pdt_notin hr.units2 (pd_var 2) (pd_var 1)) (pss_dc (psd_setLci (i := 3) (own := [("_law_q", 4)]) rfl sc_l_places.nd rfl rfl (sw_true rfl rfl rfl (by decide +kernel)) (pdi_list (pd_var 1)) (blk (N := N_l_places) (sc := defScope s_l_places) (by decide +kernel)) (fun _ _ _ _ _ => pg_name sc_l_places.nd rfl (Or.inl rfl)) (lg_name 4) (sets_name (by decide)) (fun _ _ _ _ _ => (pdt_val (pd_fn (ok_l_first T) hr (by decide) hg (pda_cons (pd_var 4) (pda_cons (pd_var 2) pda_nil))))) (fun _ _ _ _ _ => (pd_var 4)))
      (pss_d1 (psd_set (i := 1) sc_l_places.nd rfl (Or.inl rfl) (pd_addA (pd_addA (pd_var 3) (pd_lst (pda_cons (pd_var 2) pda_nil))) (pd_sl (pd_var 1) (pdo_some (pd_blt call_len lc_len rfl T.b_len (by decide +kernel) (pda_cons (pd_var 3) pda_nil))) pdo_none))))) pss_d0)))
      (pss_d1 (psd_ret (pd_var 1)))))) ?_
  rintro ds Qd _ ⟨ps, ⟨rfl, ⟨k, hk, hb⟩, hl⟩, h⟩
  show dSeq _ _ _ [.val (.list (ps.map pD)), .emp, .emp, .emp, .emp]
  refine dSeq_g (fun σ => σ = [.val (.list (ps.map pD)), .val (.list []), .emp, .emp, .emp]) ?_ ?_
  · intro N hN
    simp only [dSeq, dNext, dRet, dIf, dDrop, dAsg, dgName, dgNil, dgCons, dgTup, dPar, dPar3, dOwn, dApp, dFrz, dVar, dC, dOp, dI, dI0, dB0, dNeg, dTup, dLst, dBoolT, dAndT, dOrT, dNotT, dAndV, dOrV, dNotV, dCall, dCall0, dB, dIsi, dRepr, dAbs, dInt1, dInt2, dAll, dstart, dwipe, clean, Sl.clean, List.map_cons, List.map_nil, List.length_cons, List.length_nil, List.replicate, List.cons_append, List.nil_append, List.set_cons_zero, List.set_cons_succ, List.getElem?_cons_zero, List.getElem?_cons_succ, Nat.reduceAdd, Nat.reduceSub, Nat.add_zero, Nat.zero_add, Nat.add_sub_cancel, Nat.sub_self, atI_0, atI_1, atI_2, atI_3, dLtI, dLeI, dGtI, dGeI, dSub, dFd, dMod, dPow, eAdd_i, eAdd_l, eMul_i, eMul_l, eIx_l, eIx_t, eLen_l, eLen_t, eInt_i, eInt_b, eEq_i, eNe_i, eEq_e, dRaise, dRetX, dTry, dGcd3, dIsB, dChain, dZip, dItT, dItL, dSl, dNoPart, dPart, dChain, dgUnl, dParO, notN_no, notN_t, isN_no, dRev]
    exact hN _ rfl
  rintro σ2 rfl
  refine dFor_m ps pD (fun pre σ => ∃ x2 x3 : Sl, σ = [.val (.list (ps.map pD)), .val (.list ((ordT Pt.lt pre).map pD)), x2, x3, .emp]) ?_ ⟨_, _, rfl⟩ ?_ ?_
  · intro R hR
    simp only [dSeq, dNext, dRet, dIf, dDrop, dAsg, dgName, dgNil, dgCons, dgTup, dPar, dPar3, dOwn, dApp, dFrz, dVar, dC, dOp, dI, dI0, dB0, dNeg, dTup, dLst, dBoolT, dAndT, dOrT, dNotT, dAndV, dOrV, dNotV, dCall, dCall0, dB, dIsi, dRepr, dAbs, dInt1, dInt2, dAll, dstart, dwipe, clean, Sl.clean, List.map_cons, List.map_nil, List.length_cons, List.length_nil, List.replicate, List.cons_append, List.nil_append, List.set_cons_zero, List.set_cons_succ, List.getElem?_cons_zero, List.getElem?_cons_succ, Nat.reduceAdd, Nat.reduceSub, Nat.add_zero, Nat.zero_add, Nat.add_sub_cancel, Nat.sub_self, atI_0, atI_1, atI_2, atI_3, dLtI, dLeI, dGtI, dGeI, dSub, dFd, dMod, dPow, eAdd_i, eAdd_l, eMul_i, eMul_l, eIx_l, eIx_t, eLen_l, eLen_t, eInt_i, eInt_b, eEq_i, eNe_i, eEq_e, dRaise, dRetX, dTry, dGcd3, dIsB, dChain, dZip, dItT, dItL, dSl, dNoPart, dPart, dChain, dgUnl, dParO, notN_no, notN_t, isN_no, dRev, dItL]
    exact hR
  · rintro pre u post e σ' ⟨x2, x3, rfl⟩
    have hu : PB k u := hb u (by rw [e]; simp)
    have hpre : ∀ x ∈ ordT Pt.lt pre, PB k x := fun x hx => hb x (by rw [e]; simp [(pord_mem pre x).mp hx])
    have hpl : pre.length < ps.length := by rw [e]; simp
    have hol := pord_len pre
    rw [show ordT Pt.lt (pre ++ [u]) = insT Pt.lt (ordT Pt.lt pre) u by unfold ordT; rw [List.foldl_append]; rfl]
    generalize ordT Pt.lt pre = xs at hpre hol ⊢
    simp only [dSeq, dNext, dRet, dIf, dDrop, dAsg, dgName, dgNil, dgCons, dgTup, dPar, dPar3, dOwn, dApp, dFrz, dVar, dC, dOp, dI, dI0, dB0, dNeg, dTup, dLst, dBoolT, dAndT, dOrT, dNotT, dAndV, dOrV, dNotV, dCall, dCall0, dB, dIsi, dRepr, dAbs, dInt1, dInt2, dAll, dstart, dwipe, clean, Sl.clean, List.map_cons, List.map_nil, List.length_cons, List.length_nil, List.replicate, List.cons_append, List.nil_append, List.set_cons_zero, List.set_cons_succ, List.getElem?_cons_zero, List.getElem?_cons_succ, Nat.reduceAdd, Nat.reduceSub, Nat.add_zero, Nat.zero_add, Nat.add_sub_cancel, Nat.sub_self, atI_0, atI_1, atI_2, atI_3, dLtI, dLeI, dGtI, dGeI, dSub, dFd, dMod, dPow, eAdd_i, eAdd_l, eMul_i, eMul_l, eIx_l, eIx_t, eLen_l, eLen_t, eInt_i, eInt_b, eEq_i, eNe_i, eEq_e, dRaise, dRetX, dTry, dGcd3, dIsB, dChain, dZip, dItT, dItL, dSl, dNoPart, dPart, dChain, dgUnl, dParO, notN_no, notN_t, isN_no, dRev]
    refine dIn_pD (fun hin => ?_) (fun hin => ?_)
    · rw [show insT Pt.lt xs u = xs from if_pos hin]
      exact iteF ⟨_, _, rfl⟩
    · refine iteT ?_
      refine dLcc_mt xs pD (fun x => Pt.lt x u) pD (fun R hR => ?_) (by omega) ?_ ?_
      · simp only [dSeq, dNext, dRet, dIf, dDrop, dAsg, dgName, dgNil, dgCons, dgTup, dPar, dPar3, dOwn, dApp, dFrz, dVar, dC, dOp, dI, dI0, dB0, dNeg, dTup, dLst, dBoolT, dAndT, dOrT, dNotT, dAndV, dOrV, dNotV, dCall, dCall0, dB, dIsi, dRepr, dAbs, dInt1, dInt2, dAll, dstart, dwipe, clean, Sl.clean, List.map_cons, List.map_nil, List.length_cons, List.length_nil, List.replicate, List.cons_append, List.nil_append, List.set_cons_zero, List.set_cons_succ, List.getElem?_cons_zero, List.getElem?_cons_succ, Nat.reduceAdd, Nat.reduceSub, Nat.add_zero, Nat.zero_add, Nat.add_sub_cancel, Nat.sub_self, atI_0, atI_1, atI_2, atI_3, dLtI, dLeI, dGtI, dGeI, dSub, dFd, dMod, dPow, eAdd_i, eAdd_l, eMul_i, eMul_l, eIx_l, eIx_t, eLen_l, eLen_t, eInt_i, eInt_b, eEq_i, eNe_i, eEq_e, dRaise, dRetX, dTry, dGcd3, dIsB, dChain, dZip, dItT, dItL, dSl, dNoPart, dPart, dChain, dgUnl, dParO, notN_no, notN_t, isN_no, dRev, dItL]
        exact hR
      · intro x hx Q1 Q0 q1 q0
        simp only [dSeq, dNext, dRet, dIf, dDrop, dAsg, dgName, dgNil, dgCons, dgTup, dPar, dPar3, dOwn, dApp, dFrz, dVar, dC, dOp, dI, dI0, dB0, dNeg, dTup, dLst, dBoolT, dAndT, dOrT, dNotT, dAndV, dOrV, dNotV, dCall, dCall0, dB, dIsi, dRepr, dAbs, dInt1, dInt2, dAll, dstart, dwipe, clean, Sl.clean, List.map_cons, List.map_nil, List.length_cons, List.length_nil, List.replicate, List.cons_append, List.nil_append, List.set_cons_zero, List.set_cons_succ, List.getElem?_cons_zero, List.getElem?_cons_succ, Nat.reduceAdd, Nat.reduceSub, Nat.add_zero, Nat.zero_add, Nat.add_sub_cancel, Nat.sub_self, atI_0, atI_1, atI_2, atI_3, dLtI, dLeI, dGtI, dGeI, dSub, dFd, dMod, dPow, eAdd_i, eAdd_l, eMul_i, eMul_l, eIx_l, eIx_t, eLen_l, eLen_t, eInt_i, eInt_b, eEq_i, eNe_i, eEq_e, dRaise, dRetX, dTry, dGcd3, dIsB, dChain, dZip, dItT, dItL, dSl, dNoPart, dPart, dChain, dgUnl, dParO, notN_no, notN_t, isN_no, dRev]
        refine first_c (hpre x hx) hu hk ?_
        cases z : Pt.lt x u with
        | true => exact iteT (q1 z)
        | false => exact iteF (q0 z)
      · have lz : (xs.filter fun x => Pt.lt x u).length ≤ xs.length := List.length_filter_le _ _
        rw [show insT Pt.lt xs u = xs.filter (fun x => Pt.lt x u) ++ [u] ++ xs.drop (xs.filter fun x => Pt.lt x u).length from if_neg hin]
        generalize hz : xs.filter (fun x => Pt.lt x u) = zs at lz ⊢
        simp only [dSeq, dNext, dRet, dIf, dDrop, dAsg, dgName, dgNil, dgCons, dgTup, dPar, dPar3, dOwn, dApp, dFrz, dVar, dC, dOp, dI, dI0, dB0, dNeg, dTup, dLst, dBoolT, dAndT, dOrT, dNotT, dAndV, dOrV, dNotV, dCall, dCall0, dB, dIsi, dRepr, dAbs, dInt1, dInt2, dAll, dstart, dwipe, clean, Sl.clean, List.map_cons, List.map_nil, List.length_cons, List.length_nil, List.replicate, List.cons_append, List.nil_append, List.set_cons_zero, List.set_cons_succ, List.getElem?_cons_zero, List.getElem?_cons_succ, Nat.reduceAdd, Nat.reduceSub, Nat.add_zero, Nat.zero_add, Nat.add_sub_cancel, Nat.sub_self, atI_0, atI_1, atI_2, atI_3, dLtI, dLeI, dGtI, dGeI, dSub, dFd, dMod, dPow, eAdd_i, eAdd_l, eMul_i, eMul_l, eIx_l, eIx_t, eLen_l, eLen_t, eInt_i, eInt_b, eEq_i, eNe_i, eEq_e, dRaise, dRetX, dTry, dGcd3, dIsB, dChain, dZip, dItT, dItL, dSl, dNoPart, dPart, dChain, dgUnl, dParO, notN_no, notN_t, isN_no, dRev, dSlA]
        have cl := cutD_len (xs.map pD) (some (((zs.map pD).length : Nat) : Int)) none
        rw [List.length_map] at cl
        have eq : zs.map pD ++ [pD u] ++ cutD (xs.map pD) (some (((zs.map pD).length : Nat) : Int)) none = (zs ++ [u] ++ xs.drop zs.length).map pD := by
          rw [List.length_map, cutD_from (by rw [List.length_map]; omega), List.map_append, List.map_append, List.map_drop]
          rfl
        refine ⟨by rw [List.length_map]; omega, by simp only [List.length_append, List.length_map, List.length_cons, List.length_nil] at cl ⊢; omega, ?_⟩
        rw [← eq]
        exact ⟨_, _, rfl⟩
  rintro σ' ⟨x2, x3, rfl⟩
  simp only [dSeq, dNext, dRet, dIf, dDrop, dAsg, dgName, dgNil, dgCons, dgTup, dPar, dPar3, dOwn, dApp, dFrz, dVar, dC, dOp, dI, dI0, dB0, dNeg, dTup, dLst, dBoolT, dAndT, dOrT, dNotT, dAndV, dOrV, dNotV, dCall, dCall0, dB, dIsi, dRepr, dAbs, dInt1, dInt2, dAll, dstart, dwipe, clean, Sl.clean, List.map_cons, List.map_nil, List.length_cons, List.length_nil, List.replicate, List.cons_append, List.nil_append, List.set_cons_zero, List.set_cons_succ, List.getElem?_cons_zero, List.getElem?_cons_succ, Nat.reduceAdd, Nat.reduceSub, Nat.add_zero, Nat.zero_add, Nat.add_sub_cancel, Nat.sub_self, atI_0, atI_1, atI_2, atI_3, dLtI, dLeI, dGtI, dGeI, dSub, dFd, dMod, dPow, eAdd_i, eAdd_l, eMul_i, eMul_l, eIx_l, eIx_t, eLen_l, eLen_t, eInt_i, eInt_b, eEq_i, eNe_i, eEq_e, dRaise, dRetX, dTry, dGcd3, dIsB, dChain, dZip, dItT, dItL, dSl, dNoPart, dPart, dChain, dgUnl, dParO, notN_no, notN_t, isN_no, dRev]
  exact h
theorem ok_l_step (T : Tx K mg base) : DefOk P w K mg base 1 "_law_step" ["_law_p", "_law_q"] (spPl2 (fun _ _ _ _ _ _ => True) fun a b c d e g => .tuple [.int (stepX a c d g), .int (stepX b c e g)]) := by
  refine defOk T.f_l_step sc_l_step bn_l_step (fun f cdv A outer s H hr hg => (pss_d1 (psd_ret (pd_tup (pda_cons (pd_sub (pd_mulA (pd_ix (pd_var 1) pd_int) (pd_ix (pd_var 0) pd_int)) (pd_mulA (pd_ix (pd_var 0) pd_int) (pd_ix (pd_var 1) pd_int))) (pda_cons (pd_sub (pd_mulA (pd_ix (pd_var 1) pd_int) (pd_ix (pd_var 0) pd_int)) (pd_mulA (pd_ix (pd_var 0) pd_int) (pd_ix (pd_var 1) pd_int))) pda_nil)))))) ?_
  rintro ds Qd _ ⟨a, b, c, d, e, g, k, rfl, _, h1, h2, h3, h4, h5, h6, hk, h⟩
  simp only [dSeq, dNext, dRet, dIf, dDrop, dAsg, dgName, dgNil, dgCons, dgTup, dPar, dPar3, dOwn, dApp, dFrz, dVar, dC, dOp, dI, dI0, dB0, dNeg, dTup, dLst, dBoolT, dAndT, dOrT, dNotT, dAndV, dOrV, dNotV, dIfE, dCall, dCall0, dB, dIsi, dRepr, dAbs, dInt1, dInt2, dAll, dstart, dwipe, clean, Sl.clean, List.map_cons, List.map_nil, List.length_cons, List.length_nil, List.replicate, List.cons_append, List.nil_append, List.set_cons_zero, List.set_cons_succ, List.getElem?_cons_zero, List.getElem?_cons_succ, Nat.reduceAdd, Nat.reduceSub, Nat.add_zero, Nat.zero_add, Nat.add_sub_cancel, Nat.sub_self, atI_0, atI_1, atI_2, atI_3, dLtI, dLeI, dGtI, dGeI, dSub, dFd, dMod, dPow, eAdd_i, eAdd_l, eMul_i, eMul_l, eIx_l, eIx_t, eLen_l, eLen_t, eInt_i, eInt_b, eEq_i, eNe_i, eEq_e]
  exact ⟨cmb h4 h3 (by omega), cmb h1 h6 (by omega), cmb h5 h3 (by omega), cmb h2 h6 (by omega), h⟩
theorem ok_l_turn (T : Tx K mg base) : DefOk P w K mg base 2 "_law_turn" ["_law_p", "_law_q", "_law_r"] spTurnP := by
  refine defOk T.f_l_turn sc_l_turn bn_l_turn (fun f cdv A outer s H hr hg => (pss_dc (psd_par (i := 3) (j := 4) rfl sc_l_turn.nd rfl rfl (by decide) rfl rfl (pda_cons (pd_fn (ok_l_step T) hr (by decide) hg (pda_cons (pd_var 0) (pda_cons (pd_var 1) pda_nil))) (pda_cons (pd_fn (ok_l_step T) hr (by decide) hg (pda_cons (pd_var 0) (pda_cons (pd_var 2) pda_nil))) pda_nil)) rfl)
      (pss_dc (psd_set (i := 5) sc_l_turn.nd rfl (Or.inl rfl) (pd_sub (pd_mulA (pd_ix (pd_var 3) pd_int) (pd_ix (pd_var 4) pd_int)) (pd_mulA (pd_ix (pd_var 3) pd_int) (pd_ix (pd_var 4) pd_int))))
      (pss_d1 (psd_ret (pd_sub (pd_ty call_int1 lc_int rfl T.b_int (by decide +kernel) (pda_cons (pd_gt (pd_var 5) pd_int) pda_nil)) (pd_ty call_int1 lc_int rfl T.b_int (by decide +kernel) (pda_cons (pd_lt (pd_var 5) pd_int) pda_nil)))))))) ?_
  rintro ds Qd _ ⟨p, q, r, k, rfl, hp, hq, hr, hk, h⟩
  have sb : ∀ a b : Pt, PB k a → PB k b → Bd (2 * k + 1) (Pt.sx a b) ∧ Bd (2 * k + 1) (Pt.sy a b) := fun a b ha hb => ⟨(bd_sub2 (@bd_mul _ _ _ _ hb.1 ha.2.2) (@bd_mul _ _ _ _ ha.1 hb.2.2)).mono (by omega), (bd_sub2 (@bd_mul _ _ _ _ hb.2.1 ha.2.2) (@bd_mul _ _ _ _ ha.2.1 hb.2.2)).mono (by omega)⟩
  obtain ⟨b1, b2⟩ := sb p q hp hq
  obtain ⟨b3, b4⟩ := sb p r hp hr
  simp only [dSeq, dNext, dRet, dIf, dDrop, dAsg, dgName, dgNil, dgCons, dgTup, dPar, dPar3, dOwn, dApp, dFrz, dVar, dC, dOp, dI, dI0, dB0, dNeg, dTup, dLst, dBoolT, dAndT, dOrT, dNotT, dAndV, dOrV, dNotV, dCall, dCall0, dB, dIsi, dRepr, dAbs, dInt1, dInt2, dAll, dstart, dwipe, clean, Sl.clean, List.map_cons, List.map_nil, List.length_cons, List.length_nil, List.replicate, List.cons_append, List.nil_append, List.set_cons_zero, List.set_cons_succ, List.getElem?_cons_zero, List.getElem?_cons_succ, Nat.reduceAdd, Nat.reduceSub, Nat.add_zero, Nat.zero_add, Nat.add_sub_cancel, Nat.sub_self, atI_0, atI_1, atI_2, atI_3, dLtI, dLeI, dGtI, dGeI, dSub, dFd, dMod, dPow, eAdd_i, eAdd_l, eMul_i, eMul_l, eIx_l, eIx_t, eLen_l, eLen_t, eInt_i, eInt_b, eEq_i, eNe_i, eEq_e, dRaise, dRetX, dTry, dGcd3, dIsB, dChain, dZip, dItT, dItL, dSl, dNoPart, dPart, dChain, dgUnl, dParO, notN_no, notN_t, isN_no, dRev]
  refine step_c hp hq hk (step_c hp hr hk ?_)
  simp only [dSeq, dNext, dRet, dIf, dDrop, dAsg, dgName, dgNil, dgCons, dgTup, dPar, dPar3, dOwn, dApp, dFrz, dVar, dC, dOp, dI, dI0, dB0, dNeg, dTup, dLst, dBoolT, dAndT, dOrT, dNotT, dAndV, dOrV, dNotV, dCall, dCall0, dB, dIsi, dRepr, dAbs, dInt1, dInt2, dAll, dstart, dwipe, clean, Sl.clean, List.map_cons, List.map_nil, List.length_cons, List.length_nil, List.replicate, List.cons_append, List.nil_append, List.set_cons_zero, List.set_cons_succ, List.getElem?_cons_zero, List.getElem?_cons_succ, Nat.reduceAdd, Nat.reduceSub, Nat.add_zero, Nat.zero_add, Nat.add_sub_cancel, Nat.sub_self, atI_0, atI_1, atI_2, atI_3, dLtI, dLeI, dGtI, dGeI, dSub, dFd, dMod, dPow, eAdd_i, eAdd_l, eMul_i, eMul_l, eIx_l, eIx_t, eLen_l, eLen_t, eInt_i, eInt_b, eEq_i, eNe_i, eEq_e, dRaise, dRetX, dTry, dGcd3, dIsB, dChain, dZip, dItT, dItL, dSl, dNoPart, dPart, dChain, dgUnl, dParO, notN_no, notN_t, isN_no, dRev]
  refine ⟨cmb b1 b4 (by omega), cmb b2 b3 (by omega), ?_⟩
  rw [sign_eq, sign_turn]
  exact h
theorem ok_l_chain (T : Tx K mg base) : DefOk P w K mg base 3 "_law_chain" ["_law_places_here"] spChain := by
  refine defOk T.f_l_chain sc_l_chain bn_l_chain (fun f cdv A outer s H hr hg => (pss_dc (psd_set (i := 1) sc_l_chain.nd rfl (Or.inl rfl) (pd_lst pda_nil))
      (pss_dc (psd_for PassesOwn.never rfl (pdi_list (pd_var 0)) (pdg_name (i := 2) sc_l_chain.nd rfl (Or.inl rfl)) (pss_dc (psd_while PassesOwn.never (pdt_w (pdw_and (pdt_gt (pd_blt call_len lc_len rfl T.b_len (by decide +kernel) (pda_cons (pd_var 1) pda_nil)) pd_int) (pdw_and1 (pdt_lt (pd_fn (ok_l_turn T) hr (by decide) hg (pda_cons (pd_ix (pd_var 1) (pd_neg pd_int)) (pda_cons (pd_ix (pd_var 1) (pd_neg pd_int)) (pda_cons (pd_var 2) pda_nil)))) pd_int)))) (pss_d1 (psd_set (i := 1) sc_l_chain.nd rfl (Or.inl rfl) (pd_sl (pd_var 1) pdo_none (pdo_some (pd_neg pd_int))))))
      (pss_d1 (psd_set (i := 1) sc_l_chain.nd rfl (Or.inl rfl) (pd_addA (pd_var 1) (pd_lst (pda_cons (pd_var 2) pda_nil)))))))
      (pss_d1 (psd_ret (pd_sl (pd_var 1) pdo_none (pdo_some (pd_neg pd_int)))))))) ?_
  rintro ds Qd _ ⟨ps, ⟨rfl, ⟨k, hk, hb⟩, hl⟩, h⟩
  show dSeq _ _ _ [.val (.list (ps.map pD)), .emp, .emp]
  refine dSeq_g (fun σ => σ = [.val (.list (ps.map pD)), .val (.list []), .emp]) ?_ ?_
  · intro N hN
    simp only [dSeq, dNext, dRet, dIf, dDrop, dAsg, dgName, dgNil, dgCons, dgTup, dPar, dPar3, dOwn, dApp, dFrz, dVar, dC, dOp, dI, dI0, dB0, dNeg, dTup, dLst, dBoolT, dAndT, dOrT, dNotT, dAndV, dOrV, dNotV, dCall, dCall0, dB, dIsi, dRepr, dAbs, dInt1, dInt2, dAll, dstart, dwipe, clean, Sl.clean, List.map_cons, List.map_nil, List.length_cons, List.length_nil, List.replicate, List.cons_append, List.nil_append, List.set_cons_zero, List.set_cons_succ, List.getElem?_cons_zero, List.getElem?_cons_succ, Nat.reduceAdd, Nat.reduceSub, Nat.add_zero, Nat.zero_add, Nat.add_sub_cancel, Nat.sub_self, atI_0, atI_1, atI_2, atI_3, dLtI, dLeI, dGtI, dGeI, dSub, dFd, dMod, dPow, eAdd_i, eAdd_l, eMul_i, eMul_l, eIx_l, eIx_t, eLen_l, eLen_t, eInt_i, eInt_b, eEq_i, eNe_i, eEq_e, dRaise, dRetX, dTry, dGcd3, dIsB, dChain, dZip, dItT, dItL, dSl, dNoPart, dPart, dChain, dgUnl, dParO, notN_no, notN_t, isN_no, dRev]
    exact hN _ rfl
  rintro σ2 rfl
  refine dFor_m ps pD (fun pre σ => ∃ x2 : Sl, (∀ x ∈ chainR Pt.o pre, x ∈ pre) ∧ σ = [.val (.list (ps.map pD)), .val (.list ((chainR Pt.o pre).reverse.map pD)), x2]) ?_ ⟨_, by simp [chainR], rfl⟩ ?_ ?_
  · intro R hR
    simp only [dSeq, dNext, dRet, dIf, dDrop, dAsg, dgName, dgNil, dgCons, dgTup, dPar, dPar3, dOwn, dApp, dFrz, dVar, dC, dOp, dI, dI0, dB0, dNeg, dTup, dLst, dBoolT, dAndT, dOrT, dNotT, dAndV, dOrV, dNotV, dCall, dCall0, dB, dIsi, dRepr, dAbs, dInt1, dInt2, dAll, dstart, dwipe, clean, Sl.clean, List.map_cons, List.map_nil, List.length_cons, List.length_nil, List.replicate, List.cons_append, List.nil_append, List.set_cons_zero, List.set_cons_succ, List.getElem?_cons_zero, List.getElem?_cons_succ, Nat.reduceAdd, Nat.reduceSub, Nat.add_zero, Nat.zero_add, Nat.add_sub_cancel, Nat.sub_self, atI_0, atI_1, atI_2, atI_3, dLtI, dLeI, dGtI, dGeI, dSub, dFd, dMod, dPow, eAdd_i, eAdd_l, eMul_i, eMul_l, eIx_l, eIx_t, eLen_l, eLen_t, eInt_i, eInt_b, eEq_i, eNe_i, eEq_e, dRaise, dRetX, dTry, dGcd3, dIsB, dChain, dZip, dItT, dItL, dSl, dNoPart, dPart, dChain, dgUnl, dParO, notN_no, notN_t, isN_no, dRev, dItL]
    exact hR
  · rintro pre u post e σ' ⟨x2, hm, rfl⟩
    have hu : PB k u := hb u (by rw [e]; simp)
    have hpl : pre.length < ps.length := by rw [e]; simp
    have hcl := chain_len Pt.o pre
    have hst : ∀ x ∈ chainR Pt.o pre, x ∈ pre ∧ PB k x := fun x hx => ⟨hm x hx, hb x (by rw [e]; simp [hm x hx])⟩
    rw [chain_step]
    have fin : (∀ x ∈ push Pt.o u (chainR Pt.o pre), x ∈ pre ++ [u]) := fun x hx => by
      rcases push_mem _ _ hx with rfl | y
      · simp
      · exact List.mem_append.mpr (.inl (hm x y))
    generalize chainR Pt.o pre = st0 at hst hcl fin ⊢
    show dSeq _ _ _ _
    simp only [dgName, List.set_cons_zero, List.set_cons_succ]
    refine dSeq_g (fun σ => ∃ st : List Pt, push Pt.o u st0 = u :: st ∧ st.length ≤ st0.length ∧ σ = [.val (.list (ps.map pD)), .val (.list (st.reverse.map pD)), .val (pD u)]) ?_ ?_
    · intro N hN
      refine ⟨fun n σ => ∃ st : List Pt, n = st.length ∧ push Pt.o u st0 = push Pt.o u st ∧ (∀ x ∈ st, PB k x) ∧ st.length ≤ st0.length ∧ σ = [.val (.list (ps.map pD)), .val (.list (st.reverse.map pD)), .val (pD u)], ⟨_, st0, rfl, rfl, fun x hx => (hst x hx).2, Nat.le_refl _, rfl⟩, ?_⟩
      rintro n σ' ⟨st, rfl, hp, hs, hsl, rfl⟩
      match st, hp, hs, hsl with
      | [], hp, hs, hsl =>
        simp only [dSeq, dNext, dRet, dIf, dDrop, dAsg, dgName, dgNil, dgCons, dgTup, dPar, dPar3, dOwn, dApp, dFrz, dVar, dC, dOp, dI, dI0, dB0, dNeg, dTup, dLst, dBoolT, dAndT, dOrT, dNotT, dAndV, dOrV, dNotV, dCall, dCall0, dB, dIsi, dRepr, dAbs, dInt1, dInt2, dAll, dstart, dwipe, clean, Sl.clean, List.map_cons, List.map_nil, List.length_cons, List.length_nil, List.replicate, List.cons_append, List.nil_append, List.set_cons_zero, List.set_cons_succ, List.getElem?_cons_zero, List.getElem?_cons_succ, Nat.reduceAdd, Nat.reduceSub, Nat.add_zero, Nat.zero_add, Nat.add_sub_cancel, Nat.sub_self, atI_0, atI_1, atI_2, atI_3, dLtI, dLeI, dGtI, dGeI, dSub, dFd, dMod, dPow, eAdd_i, eAdd_l, eMul_i, eMul_l, eIx_l, eIx_t, eLen_l, eLen_t, eInt_i, eInt_b, eEq_i, eNe_i, eEq_e, dRaise, dRetX, dTry, dGcd3, dIsB, dChain, dZip, dItT, dItL, dSl, dNoPart, dPart, dChain, dgUnl, dParO, notN_no, notN_t, isN_no, dRev]
        refine iteF (hN _ ⟨[], by rw [hp]; rfl, hsl, rfl⟩)
      | [b], hp, hs, hsl =>
        simp only [dSeq, dNext, dRet, dIf, dDrop, dAsg, dgName, dgNil, dgCons, dgTup, dPar, dPar3, dOwn, dApp, dFrz, dVar, dC, dOp, dI, dI0, dB0, dNeg, dTup, dLst, dBoolT, dAndT, dOrT, dNotT, dAndV, dOrV, dNotV, dCall, dCall0, dB, dIsi, dRepr, dAbs, dInt1, dInt2, dAll, dstart, dwipe, clean, Sl.clean, List.map_cons, List.map_nil, List.length_cons, List.length_nil, List.replicate, List.cons_append, List.nil_append, List.set_cons_zero, List.set_cons_succ, List.getElem?_cons_zero, List.getElem?_cons_succ, Nat.reduceAdd, Nat.reduceSub, Nat.add_zero, Nat.zero_add, Nat.add_sub_cancel, Nat.sub_self, atI_0, atI_1, atI_2, atI_3, dLtI, dLeI, dGtI, dGeI, dSub, dFd, dMod, dPow, eAdd_i, eAdd_l, eMul_i, eMul_l, eIx_l, eIx_t, eLen_l, eLen_t, eInt_i, eInt_b, eEq_i, eNe_i, eEq_e, dRaise, dRetX, dTry, dGcd3, dIsB, dChain, dZip, dItT, dItL, dSl, dNoPart, dPart, dChain, dgUnl, dParO, notN_no, notN_t, isN_no, dRev]
        refine ifF (by simp) (hN _ ⟨[b], by rw [hp]; rfl, hsl, rfl⟩)
      | b :: a :: r, hp, hs, hsl =>
        have er : (b :: a :: r).reverse.map pD = r.reverse.map pD ++ [pD a, pD b] := by simp
        have er2 : (b :: a :: r).reverse.map pD = (r.reverse.map pD ++ [pD a]) ++ [pD b] := by simp
        have a1 : L2.atI ((b :: a :: r).reverse.map pD) (-2) = some (pD a) := by rw [er]; exact atI_m2 _ _ _
        have a2 : L2.atI ((b :: a :: r).reverse.map pD) (-1) = some (pD b) := by rw [er2]; exact atI_m1 _ _
        have ln : 1 < (((b :: a :: r).reverse.map pD).length : Int) := by simp; omega
        have ct : cutD ((b :: a :: r).reverse.map pD) none (some (-1)) = (a :: r).reverse.map pD := by rw [cut_init, List.reverse_cons, List.dropLast_concat]
        generalize hL : (b :: a :: r).reverse.map pD = L at a1 a2 ln ct ⊢
        simp only [dSeq, dNext, dRet, dIf, dDrop, dAsg, dgName, dgNil, dgCons, dgTup, dPar, dPar3, dOwn, dApp, dFrz, dVar, dC, dOp, dI, dI0, dB0, dNeg, dTup, dLst, dBoolT, dAndT, dOrT, dNotT, dAndV, dOrV, dNotV, dCall, dCall0, dB, dIsi, dRepr, dAbs, dInt1, dInt2, dAll, dstart, dwipe, clean, Sl.clean, List.map_cons, List.map_nil, List.length_cons, List.length_nil, List.replicate, List.cons_append, List.nil_append, List.set_cons_zero, List.set_cons_succ, List.getElem?_cons_zero, List.getElem?_cons_succ, Nat.reduceAdd, Nat.reduceSub, Nat.add_zero, Nat.zero_add, Nat.add_sub_cancel, Nat.sub_self, atI_0, atI_1, atI_2, atI_3, dLtI, dLeI, dGtI, dGeI, dSub, dFd, dMod, dPow, eAdd_i, eAdd_l, eMul_i, eMul_l, eIx_l, eIx_t, eLen_l, eLen_t, eInt_i, eInt_b, eEq_i, eNe_i, eEq_e, dRaise, dRetX, dTry, dGcd3, dIsB, dChain, dZip, dItT, dItL, dSl, dNoPart, dPart, dChain, dgUnl, dParO, notN_no, notN_t, isN_no, dRev]
        refine ifT (decide_eq_true (by omega)) ?_
        rw [a1, a2]
        dsimp only
        refine turn_c (hs a (by simp)) (hs b (by simp)) hu hk ?_
        dsimp only
        have eqp : push Pt.o u (b :: a :: r) = if Pt.o a b u < 1 then push Pt.o u (a :: r) else u :: b :: a :: r := rfl
        by_cases z : Pt.o a b u < 1
        · have sz : Int.sign (Pt.o a b u) < 1 := by
            rcases Int.lt_trichotomy (Pt.o a b u) 0 with y | y | y
            · rw [Int.sign_eq_neg_one_of_neg y]; decide
            · rw [y]; decide
            · omega
          refine ifT (decide_eq_true sz) ?_
          simp only [dSeq, dNext, dRet, dIf, dDrop, dAsg, dgName, dgNil, dgCons, dgTup, dPar, dPar3, dOwn, dApp, dFrz, dVar, dC, dOp, dI, dI0, dB0, dNeg, dTup, dLst, dBoolT, dAndT, dOrT, dNotT, dAndV, dOrV, dNotV, dCall, dCall0, dB, dIsi, dRepr, dAbs, dInt1, dInt2, dAll, dstart, dwipe, clean, Sl.clean, List.map_cons, List.map_nil, List.length_cons, List.length_nil, List.replicate, List.cons_append, List.nil_append, List.set_cons_zero, List.set_cons_succ, List.getElem?_cons_zero, List.getElem?_cons_succ, Nat.reduceAdd, Nat.reduceSub, Nat.add_zero, Nat.zero_add, Nat.add_sub_cancel, Nat.sub_self, atI_0, atI_1, atI_2, atI_3, dLtI, dLeI, dGtI, dGeI, dSub, dFd, dMod, dPow, eAdd_i, eAdd_l, eMul_i, eMul_l, eIx_l, eIx_t, eLen_l, eLen_t, eInt_i, eInt_b, eEq_i, eNe_i, eEq_e, dRaise, dRetX, dTry, dGcd3, dIsB, dChain, dZip, dItT, dItL, dSl, dNoPart, dPart, dChain, dgUnl, dParO, notN_no, notN_t, isN_no, dRev, dSlA]
          rw [ct]
          exact ⟨_, by simp, a :: r, rfl, by rw [hp, eqp, if_pos z], fun x hx => hs x (by simp [hx]), by simp at hsl ⊢; omega, rfl⟩
        · have sz : Int.sign (Pt.o a b u) = 1 := Int.sign_eq_one_of_pos (by omega)
          refine ifF (decide_eq_false (by rw [sz]; decide)) ?_
          exact hN _ ⟨b :: a :: r, by rw [hp, eqp, if_neg z], hsl, by rw [hL]⟩
    rintro σ2 ⟨st, hp, hsl, rfl⟩
    simp only [dSeq, dNext, dRet, dIf, dDrop, dAsg, dgName, dgNil, dgCons, dgTup, dPar, dPar3, dOwn, dApp, dFrz, dVar, dC, dOp, dI, dI0, dB0, dNeg, dTup, dLst, dBoolT, dAndT, dOrT, dNotT, dAndV, dOrV, dNotV, dCall, dCall0, dB, dIsi, dRepr, dAbs, dInt1, dInt2, dAll, dstart, dwipe, clean, Sl.clean, List.map_cons, List.map_nil, List.length_cons, List.length_nil, List.replicate, List.cons_append, List.nil_append, List.set_cons_zero, List.set_cons_succ, List.getElem?_cons_zero, List.getElem?_cons_succ, Nat.reduceAdd, Nat.reduceSub, Nat.add_zero, Nat.zero_add, Nat.add_sub_cancel, Nat.sub_self, atI_0, atI_1, atI_2, atI_3, dLtI, dLeI, dGtI, dGeI, dSub, dFd, dMod, dPow, eAdd_i, eAdd_l, eMul_i, eMul_l, eIx_l, eIx_t, eLen_l, eLen_t, eInt_i, eInt_b, eEq_i, eNe_i, eEq_e, dRaise, dRetX, dTry, dGcd3, dIsB, dChain, dZip, dItT, dItL, dSl, dNoPart, dPart, dChain, dgUnl, dParO, notN_no, notN_t, isN_no, dRev]
    have eq : st.reverse.map pD ++ [pD u] = (push Pt.o u st0).reverse.map pD := by rw [hp]; simp
    refine ⟨by simp; omega, ?_⟩
    rw [eq]
    exact ⟨_, fin, rfl⟩
  rintro σ' ⟨x2, hm, rfl⟩
  simp only [dSeq, dNext, dRet, dIf, dDrop, dAsg, dgName, dgNil, dgCons, dgTup, dPar, dPar3, dOwn, dApp, dFrz, dVar, dC, dOp, dI, dI0, dB0, dNeg, dTup, dLst, dBoolT, dAndT, dOrT, dNotT, dAndV, dOrV, dNotV, dCall, dCall0, dB, dIsi, dRepr, dAbs, dInt1, dInt2, dAll, dstart, dwipe, clean, Sl.clean, List.map_cons, List.map_nil, List.length_cons, List.length_nil, List.replicate, List.cons_append, List.nil_append, List.set_cons_zero, List.set_cons_succ, List.getElem?_cons_zero, List.getElem?_cons_succ, Nat.reduceAdd, Nat.reduceSub, Nat.add_zero, Nat.zero_add, Nat.add_sub_cancel, Nat.sub_self, atI_0, atI_1, atI_2, atI_3, dLtI, dLeI, dGtI, dGeI, dSub, dFd, dMod, dPow, eAdd_i, eAdd_l, eMul_i, eMul_l, eIx_l, eIx_t, eLen_l, eLen_t, eInt_i, eInt_b, eEq_i, eNe_i, eEq_e, dRaise, dRetX, dTry, dGcd3, dIsB, dChain, dZip, dItT, dItL, dSl, dNoPart, dPart, dChain, dgUnl, dParO, notN_no, notN_t, isN_no, dRev, dSlA]
  rw [cut_init]
  exact h
theorem ok_l_hull (T : Tx K mg base) : DefOk P w K mg base 4 "_law_hull" ["_law_places_here"] spHull := by
  refine defOk T.f_l_hull sc_l_hull bn_l_hull (fun f cdv A outer s H hr hg => (pss_dc (psd_set (i := 1) sc_l_hull.nd rfl (Or.inl rfl) (pd_fn (ok_l_places T) hr (by decide) hg (pda_cons (pd_var 0) pda_nil)))
      (pss_dc (psd_if (pdt_lt (pd_blt call_len lc_len rfl T.b_len (by decide +kernel) (pda_cons (pd_var 1) pda_nil)) pd_int) (pss_d1 (psd_ret (pd_ty call_tuple_of lc_tupOf rfl T.b_tuple (by decide +kernel) (pda_cons (pd_var 1) pda_nil)))) pss_d0)
      (pss_d1 (psd_ret (pd_ty call_tuple_of lc_tupOf rfl T.b_tuple (by decide +kernel) (pda_cons (pd_addA (pd_fn (ok_l_chain T) hr (by decide) hg (pda_cons (pd_var 1) pda_nil)) (pd_fn (ok_l_chain T) hr (by decide) hg (pda_cons (pd_rev (pd_var 1)) pda_nil))) pda_nil))))))) ?_
  rintro ds Qd _ ⟨ps, ⟨rfl, ⟨k, hk, hb⟩, hl⟩, h⟩
  have ml := pord_len ps
  have mm := pord_mem ps
  show dSeq _ _ _ [.val (.list (ps.map pD)), .emp]
  refine dSeq_g (fun σ => σ = [.val (.list (ps.map pD)), .val (.list ((ordT Pt.lt ps).map pD))]) ?_ ?_
  · intro N hN
    simp only [dSeq, dNext, dRet, dIf, dDrop, dAsg, dgName, dgNil, dgCons, dgTup, dPar, dPar3, dOwn, dApp, dFrz, dVar, dC, dOp, dI, dI0, dB0, dNeg, dTup, dLst, dBoolT, dAndT, dOrT, dNotT, dAndV, dOrV, dNotV, dCall, dCall0, dB, dIsi, dRepr, dAbs, dInt1, dInt2, dAll, dstart, dwipe, clean, Sl.clean, List.map_cons, List.map_nil, List.length_cons, List.length_nil, List.replicate, List.cons_append, List.nil_append, List.set_cons_zero, List.set_cons_succ, List.getElem?_cons_zero, List.getElem?_cons_succ, Nat.reduceAdd, Nat.reduceSub, Nat.add_zero, Nat.zero_add, Nat.add_sub_cancel, Nat.sub_self, atI_0, atI_1, atI_2, atI_3, dLtI, dLeI, dGtI, dGeI, dSub, dFd, dMod, dPow, eAdd_i, eAdd_l, eMul_i, eMul_l, eIx_l, eIx_t, eLen_l, eLen_t, eInt_i, eInt_b, eEq_i, eNe_i, eEq_e, dRaise, dRetX, dTry, dGcd3, dIsB, dChain, dZip, dItT, dItL, dSl, dNoPart, dPart, dChain, dgUnl, dParO, notN_no, notN_t, isN_no, dRev]
    exact ⟨ps, ⟨rfl, ⟨k, hk, hb⟩, hl⟩, hN _ rfl⟩
  rintro σ2 rfl
  unfold hullP at h
  have hb' : ∀ x ∈ ordT Pt.lt ps, PB k x := fun x hx => hb x ((mm x).mp hx)
  generalize ordT Pt.lt ps = qs at ml hb' h ⊢
  simp only [dSeq, dNext, dRet, dIf, dDrop, dAsg, dgName, dgNil, dgCons, dgTup, dPar, dPar3, dOwn, dApp, dFrz, dVar, dC, dOp, dI, dI0, dB0, dNeg, dTup, dLst, dBoolT, dAndT, dOrT, dNotT, dAndV, dOrV, dNotV, dCall, dCall0, dB, dIsi, dRepr, dAbs, dInt1, dInt2, dAll, dstart, dwipe, clean, Sl.clean, List.map_cons, List.map_nil, List.length_cons, List.length_nil, List.replicate, List.cons_append, List.nil_append, List.set_cons_zero, List.set_cons_succ, List.getElem?_cons_zero, List.getElem?_cons_succ, Nat.reduceAdd, Nat.reduceSub, Nat.add_zero, Nat.zero_add, Nat.add_sub_cancel, Nat.sub_self, atI_0, atI_1, atI_2, atI_3, dLtI, dLeI, dGtI, dGeI, dSub, dFd, dMod, dPow, eAdd_i, eAdd_l, eMul_i, eMul_l, eIx_l, eIx_t, eLen_l, eLen_t, eInt_i, eInt_b, eEq_i, eNe_i, eEq_e, dRaise, dRetX, dTry, dGcd3, dIsB, dChain, dZip, dItT, dItL, dSl, dNoPart, dPart, dChain, dgUnl, dParO, notN_no, notN_t, isN_no, dRev]
  by_cases z : qs.length < 2
  · rw [if_pos z] at h
    exact ifT (by simp; omega) h
  · rw [if_neg z] at h
    have c1 := chain_len Pt.o qs
    have c2 := chain_len Pt.o qs.reverse
    rw [List.length_reverse] at c2
    refine ifF (by simp; omega) ⟨qs, ⟨rfl, ⟨k, hk, hb'⟩, by omega⟩, qs.reverse, ⟨by rw [List.map_reverse], ⟨k, hk, fun x hx => hb' x (List.mem_reverse.mp hx)⟩, by rw [List.length_reverse]; omega⟩, ?_⟩
    refine ⟨?_, ?_⟩
    · simp only [chainL, List.length_map, List.length_dropLast, List.length_reverse]; omega
    unfold hullL at h
    rw [List.map_append] at h
    exact h
theorem ok_l_half (T : Tx K mg base) : DefOk P w K mg base 2 "_law_half" ["_law_u", "_law_p"] spHfD := by
  refine defOk T.f_l_half sc_l_half bn_l_half (fun f cdv A outer s H hr hg => (pss_dc (psd_par3 (i := 2) (j := 3) (l := 4) rfl sc_l_half.nd rfl rfl rfl (by decide) rfl rfl rfl (pda_cons (pd_mulA (pd_ix (pd_var 0) pd_int) (pd_ix (pd_var 1) pd_int)) (pda_cons (pd_mulA (pd_ix (pd_var 0) pd_int) (pd_ix (pd_var 1) pd_int)) (pda_cons (pd_addA (pd_mulA (pd_ix (pd_var 0) pd_int) (pd_ix (pd_var 1) pd_int)) (pd_mulA (pd_ix (pd_var 0) pd_int) (pd_ix (pd_var 1) pd_int))) pda_nil))) rfl)
      (pss_dc (psd_set (i := 5) sc_l_half.nd rfl (Or.inl rfl) (pd_fn (ok_l_common T) hr (by decide) hg (pda_cons (pd_fn (ok_l_common T) hr (by decide) hg (pda_cons (pd_var 2) (pda_cons (pd_var 3) pda_nil))) (pda_cons (pd_var 4) pda_nil))))
      (pss_d1 (psd_ret (pd_tup (pda_cons (pd_fd (pd_var 2) (pd_var 5)) (pda_cons (pd_fd (pd_var 3) (pd_var 5)) (pda_cons (pd_fd (pd_var 4) (pd_var 5)) pda_nil))))))))) ?_
  rintro ds Qd _ ⟨u, q, k, rfl, hu, hq', hk, h⟩
  have q0 := q.pos
  have ne : ¬ (u.a * q.d = 0 ∧ u.b * q.d = 0) := mul_ne2 u.ne (by omega)
  have b1 : Bd (2 * k) (u.a * q.d) := (@bd_mul _ _ _ _ hu.1 hq'.2.2).mono (by omega)
  have b2 : Bd (2 * k) (u.b * q.d) := (@bd_mul _ _ _ _ hu.2 hq'.2.2).mono (by omega)
  have g0 := g3h_pos (c := u.a * q.x + u.b * q.y) ne
  have gb := g3_bd (c := u.a * q.x + u.b * q.y) ne b1 b2
  have gne : (g3 (u.a * q.d) (u.b * q.d) (u.a * q.x + u.b * q.y) : Int) ≠ 0 := by omega
  simp only [dSeq, dNext, dRet, dIf, dDrop, dAsg, dgName, dgNil, dgCons, dgTup, dPar, dPar3, dOwn, dApp, dFrz, dVar, dC, dOp, dI, dI0, dB0, dNeg, dTup, dLst, dBoolT, dAndT, dOrT, dNotT, dAndV, dOrV, dNotV, dCall, dCall0, dB, dIsi, dRepr, dAbs, dInt1, dInt2, dAll, dstart, dwipe, clean, Sl.clean, List.map_cons, List.map_nil, List.length_cons, List.length_nil, List.replicate, List.cons_append, List.nil_append, List.set_cons_zero, List.set_cons_succ, List.getElem?_cons_zero, List.getElem?_cons_succ, Nat.reduceAdd, Nat.reduceSub, Nat.add_zero, Nat.zero_add, Nat.add_sub_cancel, Nat.sub_self, atI_0, atI_1, atI_2, atI_3, dLtI, dLeI, dGtI, dGeI, dSub, dFd, dMod, dPow, eAdd_i, eAdd_l, eMul_i, eMul_l, eIx_l, eIx_t, eLen_l, eLen_t, eInt_i, eInt_b, eEq_i, eNe_i, eEq_e, dRaise, dRetX, dTry, dGcd3, dIsB, dChain, dZip, dItT, dItL, dSl, dNoPart, dPart, dChain, dgUnl, dParO, notN_no, notN_t, isN_no, dRev, dParC, dOwnC]
  refine ⟨cmb hu.1 hq'.2.2 (by omega), cmb hu.2 hq'.2.2 (by omega), cmb hu.1 hq'.1 (by omega), cmb hu.2 hq'.2.1 (by omega), ?_⟩
  refine ⟨_, _, rfl, _, _, rfl, ?_⟩
  exact ⟨cfd gne gb (by omega), cfd gne gb (by omega), cfd gne gb (by omega), h⟩
theorem ok_l_meets (T : Tx K mg base) : DefOk P w K mg base 1 "_law_meets" ["_law_plate", "_law_edge"] spMet := by
  refine defOk T.f_l_meets sc_l_meets bn_l_meets (fun f cdv A outer s H hr hg => (pss_d1 (psd_ret (pd_blt (cr_any rfl) lc_any rfl T.b_any (by decide +kernel) (pda_cons (pd_new (pdn_lc (own := [("_law_p", 2)]) rfl sc_l_meets.nd (pdi_tup (pd_var 0)) (blk (N := N_l_meets) (sc := defScope s_l_meets) (by decide +kernel)) (fun _ _ _ _ _ => pg_name sc_l_meets.nd rfl (Or.inl rfl)) (lg_name 2) (sets_name (by decide)) (fun _ _ _ _ _ => (pd_ge (pd_addA (pd_mulA (pd_ix (pd_var 1) pd_int) (pd_ix (pd_var 2) pd_int)) (pd_mulA (pd_ix (pd_var 1) pd_int) (pd_ix (pd_var 2) pd_int))) (pd_mulA (pd_ix (pd_var 1) pd_int) (pd_ix (pd_var 2) pd_int)))))) pda_nil))))) ?_
  rintro ds Qd _ ⟨H, A, B, C, k, rfl, hb, hA, hB, hC, hk, hl, h⟩
  simp only [dSeq, dNext, dRet, dIf, dDrop, dAsg, dgName, dgNil, dgCons, dgTup, dPar, dPar3, dOwn, dApp, dFrz, dVar, dC, dOp, dI, dI0, dB0, dNeg, dTup, dLst, dBoolT, dAndT, dOrT, dNotT, dAndV, dOrV, dNotV, dCall, dCall0, dB, dIsi, dRepr, dAbs, dInt1, dInt2, dAll, dstart, dwipe, clean, Sl.clean, List.map_cons, List.map_nil, List.length_cons, List.length_nil, List.replicate, List.cons_append, List.nil_append, List.set_cons_zero, List.set_cons_succ, List.getElem?_cons_zero, List.getElem?_cons_succ, Nat.reduceAdd, Nat.reduceSub, Nat.add_zero, Nat.zero_add, Nat.add_sub_cancel, Nat.sub_self, atI_0, atI_1, atI_2, atI_3, dLtI, dLeI, dGtI, dGeI, dSub, dFd, dMod, dPow, eAdd_i, eAdd_l, eMul_i, eMul_l, eIx_l, eIx_t, eLen_l, eLen_t, eInt_i, eInt_b, eEq_i, eNe_i, eEq_e, dRaise, dRetX, dTry, dGcd3, dIsB, dChain, dZip, dItT, dItL, dSl, dNoPart, dPart, dChain, dgUnl, dParO, notN_no, notN_t, isN_no, dRev, dParC, dOwnC]
  refine dLcc_m H pD (fun x => .bool (decide (0 ≤ excess A B C x.x x.y x.d))) (fun R hR => ?_) (by omega) ?_ ?_
  · simp only [dSeq, dNext, dRet, dIf, dDrop, dAsg, dgName, dgNil, dgCons, dgTup, dPar, dPar3, dOwn, dApp, dFrz, dVar, dC, dOp, dI, dI0, dB0, dNeg, dTup, dLst, dBoolT, dAndT, dOrT, dNotT, dAndV, dOrV, dNotV, dCall, dCall0, dB, dIsi, dRepr, dAbs, dInt1, dInt2, dAll, dstart, dwipe, clean, Sl.clean, List.map_cons, List.map_nil, List.length_cons, List.length_nil, List.replicate, List.cons_append, List.nil_append, List.set_cons_zero, List.set_cons_succ, List.getElem?_cons_zero, List.getElem?_cons_succ, Nat.reduceAdd, Nat.reduceSub, Nat.add_zero, Nat.zero_add, Nat.add_sub_cancel, Nat.sub_self, atI_0, atI_1, atI_2, atI_3, dLtI, dLeI, dGtI, dGeI, dSub, dFd, dMod, dPow, eAdd_i, eAdd_l, eMul_i, eMul_l, eIx_l, eIx_t, eLen_l, eLen_t, eInt_i, eInt_b, eEq_i, eNe_i, eEq_e, dRaise, dRetX, dTry, dGcd3, dIsB, dChain, dZip, dItT, dItL, dSl, dNoPart, dPart, dChain, dgUnl, dParO, notN_no, notN_t, isN_no, dRev, dParC, dOwnC, dItT]
    exact hR
  · intro x hx Q hQ
    have bx := hb x hx
    simp only [dSeq, dNext, dRet, dIf, dDrop, dAsg, dgName, dgNil, dgCons, dgTup, dPar, dPar3, dOwn, dApp, dFrz, dVar, dC, dOp, dI, dI0, dB0, dNeg, dTup, dLst, dBoolT, dAndT, dOrT, dNotT, dAndV, dOrV, dNotV, dCall, dCall0, dB, dIsi, dRepr, dAbs, dInt1, dInt2, dAll, dstart, dwipe, clean, Sl.clean, List.map_cons, List.map_nil, List.length_cons, List.length_nil, List.replicate, List.cons_append, List.nil_append, List.set_cons_zero, List.set_cons_succ, List.getElem?_cons_zero, List.getElem?_cons_succ, Nat.reduceAdd, Nat.reduceSub, Nat.add_zero, Nat.zero_add, Nat.add_sub_cancel, Nat.sub_self, atI_0, atI_1, atI_2, atI_3, dLtI, dLeI, dGtI, dGeI, dSub, dFd, dMod, dPow, eAdd_i, eAdd_l, eMul_i, eMul_l, eIx_l, eIx_t, eLen_l, eLen_t, eInt_i, eInt_b, eEq_i, eNe_i, eEq_e, dRaise, dRetX, dTry, dGcd3, dIsB, dChain, dZip, dItT, dItL, dSl, dNoPart, dPart, dChain, dgUnl, dParO, notN_no, notN_t, isN_no, dRev, dParC, dOwnC]
    refine ⟨cmb hA bx.1 (by omega), cmb hB bx.2.1 (by omega), cmb hC bx.2.2 (by omega), ?_⟩
    have e : decide (C * x.d ≤ A * x.x + B * x.y) = decide (0 ≤ excess A B C x.x x.y x.d) := decide_eq_decide.mpr (by unfold excess; omega)
    rw [← e] at hQ
    exact hQ
  · exact any_map h
theorem ok_l_half_sum (T : Tx K mg base) : DefOk P w K mg base 2 "_law_half_sum" ["_law_rows", "_law_edge"] spLHalfS := by
  refine defOk T.f_l_half_sum sc_l_half_sum bn_l_half_sum (fun f cdv A outer s H hr hg => (pss_d1 (psd_ret (pd_blt (cr_sum rfl) lc_sum rfl T.b_sum (by decide +kernel) (pda_cons (pd_new (pdn_lci (own := [("_law_plate", 2), ("_law_weight", 3)]) rfl sc_l_half_sum.nd (pdi_list (pd_var 0)) (blk (N := N_l_half_sum) (sc := defScope s_l_half_sum) (by decide +kernel)) (fun _ _ _ _ _ => pg_tup rfl (pgs_cons (pg_name (i := 2) sc_l_half_sum.nd rfl (Or.inl rfl)) (pgs_cons (pg_name (i := 3) sc_l_half_sum.nd rfl (Or.inl rfl)) pgs_nil))) (lg_tup (lgs_cons (lgs_cons lgs_nil)) (dgl_cons (dgl_cons dgl_nil))) (sets_tup (sets_cons (by decide) (sets_cons (by decide) sets_nil))) (fun _ _ _ _ _ => (pdt_val (pd_fn (ok_l_meets T) hr (by decide) hg (pda_cons (pd_var 2) (pda_cons (pd_var 1) pda_nil))))) (fun _ _ _ _ _ => (pd_var 3)))) pda_nil))))) ?_
  rintro ds Qd _ ⟨R, e, k, rfl, ok, he, hk, h⟩
  have hl := ok.l
  simp only [dSeq, dNext, dRet, dIf, dDrop, dAsg, dgName, dgNil, dgCons, dgTup, dPar, dPar3, dOwn, dApp, dFrz, dVar, dC, dOp, dI, dI0, dB0, dNeg, dTup, dLst, dBoolT, dAndT, dOrT, dNotT, dAndV, dOrV, dNotV, dCall, dCall0, dB, dIsi, dRepr, dAbs, dInt1, dInt2, dAll, dstart, dwipe, clean, Sl.clean, List.map_cons, List.map_nil, List.length_cons, List.length_nil, List.replicate, List.cons_append, List.nil_append, List.set_cons_zero, List.set_cons_succ, List.getElem?_cons_zero, List.getElem?_cons_succ, Nat.reduceAdd, Nat.reduceSub, Nat.add_zero, Nat.zero_add, Nat.add_sub_cancel, Nat.sub_self, atI_0, atI_1, atI_2, atI_3, dLtI, dLeI, dGtI, dGeI, dSub, dFd, dMod, dPow, eAdd_i, eAdd_l, eMul_i, eMul_l, eIx_l, eIx_t, eLen_l, eLen_t, eInt_i, eInt_b, eEq_i, eNe_i, eEq_e, dRaise, dRetX, dTry, dGcd3, dIsB, dChain, dZip, dItT, dItL, dSl, dNoPart, dPart, dChain, dgUnl, dParO, notN_no, notN_t, isN_no, dRev, dParC, dOwnC, dMaxD, dEnum, capD, dLstN, dNGet, dWts, dItN, dHH, dHI, dIH, dMeth, dMeth0, dMake, dIsH, dSortD, dDcn, dYes, dHE, dLenH, dOwnG, dSum]
  refine dLcc_mt R rowD (fun r => metE e r.1) (fun r => .int r.2) (fun P hP => ?_) (by omega) (fun r hr Q1 Q0 q1 q0 => ?_) ?_
  · simp only [dSeq, dNext, dRet, dIf, dDrop, dAsg, dgName, dgNil, dgCons, dgTup, dPar, dPar3, dOwn, dApp, dFrz, dVar, dC, dOp, dI, dI0, dB0, dNeg, dTup, dLst, dBoolT, dAndT, dOrT, dNotT, dAndV, dOrV, dNotV, dCall, dCall0, dB, dIsi, dRepr, dAbs, dInt1, dInt2, dAll, dstart, dwipe, clean, Sl.clean, List.map_cons, List.map_nil, List.length_cons, List.length_nil, List.replicate, List.cons_append, List.nil_append, List.set_cons_zero, List.set_cons_succ, List.getElem?_cons_zero, List.getElem?_cons_succ, Nat.reduceAdd, Nat.reduceSub, Nat.add_zero, Nat.zero_add, Nat.add_sub_cancel, Nat.sub_self, atI_0, atI_1, atI_2, atI_3, dLtI, dLeI, dGtI, dGeI, dSub, dFd, dMod, dPow, eAdd_i, eAdd_l, eMul_i, eMul_l, eIx_l, eIx_t, eLen_l, eLen_t, eInt_i, eInt_b, eEq_i, eNe_i, eEq_e, dRaise, dRetX, dTry, dGcd3, dIsB, dChain, dZip, dItT, dItL, dSl, dNoPart, dPart, dChain, dgUnl, dParO, notN_no, notN_t, isN_no, dRev, dParC, dOwnC, dMaxD, dEnum, capD, dLstN, dNGet, dWts, dItN, dHH, dHI, dIH, dMeth, dMeth0, dMake, dIsH, dSortD, dDcn, dYes, dHE, dLenH, dOwnG, dItL]
    exact hP
  · have pk := ok.p r hr
    simp only [dSeq, dNext, dRet, dIf, dDrop, dAsg, dgName, dgNil, dgCons, dgTup, dPar, dPar3, dOwn, dApp, dFrz, dVar, dC, dOp, dI, dI0, dB0, dNeg, dTup, dLst, dBoolT, dAndT, dOrT, dNotT, dAndV, dOrV, dNotV, dCall, dCall0, dB, dIsi, dRepr, dAbs, dInt1, dInt2, dAll, dstart, dwipe, clean, Sl.clean, List.map_cons, List.map_nil, List.length_cons, List.length_nil, List.replicate, List.cons_append, List.nil_append, List.set_cons_zero, List.set_cons_succ, List.getElem?_cons_zero, List.getElem?_cons_succ, Nat.reduceAdd, Nat.reduceSub, Nat.add_zero, Nat.zero_add, Nat.add_sub_cancel, Nat.sub_self, atI_0, atI_1, atI_2, atI_3, dLtI, dLeI, dGtI, dGeI, dSub, dFd, dMod, dPow, eAdd_i, eAdd_l, eMul_i, eMul_l, eIx_l, eIx_t, eLen_l, eLen_t, eInt_i, eInt_b, eEq_i, eNe_i, eEq_e, dRaise, dRetX, dTry, dGcd3, dIsB, dChain, dZip, dItT, dItL, dSl, dNoPart, dPart, dChain, dgUnl, dParO, notN_no, notN_t, isN_no, dRev, dParC, dOwnC, dMaxD, dEnum, capD, dLstN, dNGet, dWts, dItN, dHH, dHI, dIH, dMeth, dMeth0, dMake, dIsH, dSortD, dDcn, dYes, dHE, dLenH, dOwnG]
    refine ⟨r.1, e.a, e.b, e.c, k, rfl, pk.b, he.1, he.2.1, he.2.2, hk, Nat.le_trans pk.l (by decide), ?_⟩
    show if metE e r.1 = true then _ else _
    cases z : metE e r.1 with
    | true => exact iteT (q1 z)
    | false => exact iteF (q0 z)
  · exact dSum_m (f := fun r : List Pt × Int => r.2) h
theorem ok_l_side (T : Tx K mg base) : DefOk P w K mg base 1 "_law_side" ["_law_u"] spSide := by
  refine defOk T.f_l_side sc_l_side bn_l_side (fun f cdv A outer s H hr hg => (pss_d1 (psd_ret (pd_ty call_int1 lc_int rfl T.b_int (by decide +kernel) (pda_cons (pd_or (pd_lt (pd_ix (pd_var 0) pd_int) pd_int) (pd_one (pd_and (pd_eq hr.units (pd_ix (pd_var 0) pd_int) pd_int) (pd_one (pd_lt (pd_ix (pd_var 0) pd_int) pd_int))))) pda_nil))))) ?_
  rintro ds Qd _ ⟨a, b, rfl, h0, h⟩
  simp only [dSeq, dNext, dRet, dIf, dDrop, dAsg, dgName, dgNil, dgCons, dgTup, dPar, dPar3, dOwn, dApp, dFrz, dVar, dC, dOp, dI, dI0, dB0, dNeg, dTup, dLst, dBoolT, dAndT, dOrT, dNotT, dAndV, dOrV, dNotV, dCall, dCall0, dB, dIsi, dRepr, dAbs, dInt1, dInt2, dAll, dstart, dwipe, clean, Sl.clean, List.map_cons, List.map_nil, List.length_cons, List.length_nil, List.replicate, List.cons_append, List.nil_append, List.set_cons_zero, List.set_cons_succ, List.getElem?_cons_zero, List.getElem?_cons_succ, Nat.reduceAdd, Nat.reduceSub, Nat.add_zero, Nat.zero_add, Nat.add_sub_cancel, Nat.sub_self, atI_0, atI_1, atI_2, atI_3, dLtI, dLeI, dGtI, dGeI, dSub, dFd, dMod, dPow, eAdd_i, eAdd_l, eMul_i, eMul_l, eIx_l, eIx_t, eLen_l, eLen_t, eInt_i, eInt_b, eEq_i, eNe_i, eEq_e, dRaise, dRetX, dTry, dGcd3, dIsB, dChain, dZip, dItT, dItL, dSl, dNoPart, dPart, dChain]
  cases hu : upper a b with
  | true =>
    rw [if_pos hu] at h
    have := upper_iff.mp hu
    refine ifF (decide_eq_false (by omega)) ?_
    by_cases z : b = 0
    · refine ifT (decide_eq_true z) ?_
      rw [decide_eq_false (show ¬ a < 0 by omega)]
      exact h
    · exact ifF (decide_eq_false z) h
  | false =>
    rw [hu, if_neg (by decide)] at h
    have := (lower_iff h0).mp hu
    by_cases y : b < 0
    · exact ifT (decide_eq_true y) h
    · refine ifF (decide_eq_false y) (ifT (decide_eq_true (by omega)) ?_)
      rw [decide_eq_true (show a < 0 by omega)]
      exact h
theorem ok_l_ahead (T : Tx K mg base) : DefOk P w K mg base 2 "_law_ahead" ["_law_u", "_law_v"] (spDir2 fun a b c d => .bool (aheadB a b c d)) := by
  refine defOk T.f_l_ahead sc_l_ahead bn_l_ahead (fun f cdv A outer s H hr hg => (pss_dc (psd_if (pdt_ne hr.units (pd_fn (ok_l_side T) hr (by decide) hg (pda_cons (pd_var 0) pda_nil)) (pd_fn (ok_l_side T) hr (by decide) hg (pda_cons (pd_var 1) pda_nil))) (pss_d1 (psd_ret (pd_lt (pd_fn (ok_l_side T) hr (by decide) hg (pda_cons (pd_var 0) pda_nil)) (pd_fn (ok_l_side T) hr (by decide) hg (pda_cons (pd_var 1) pda_nil))))) pss_d0)
      (pss_d1 (psd_ret (pd_gt (pd_sub (pd_mulA (pd_ix (pd_var 0) pd_int) (pd_ix (pd_var 1) pd_int)) (pd_mulA (pd_ix (pd_var 0) pd_int) (pd_ix (pd_var 1) pd_int))) pd_int))))) ?_
  rintro ds Qd _ ⟨a, b, c, d, k, rfl, hu, hv, hk, h⟩
  obtain ⟨g1, A, B⟩ := id hu
  obtain ⟨g2, C, D⟩ := id hv
  simp only [dSeq, dNext, dRet, dIf, dDrop, dAsg, dgName, dgNil, dgCons, dgTup, dPar, dPar3, dOwn, dApp, dFrz, dVar, dC, dOp, dI, dI0, dB0, dNeg, dTup, dLst, dBoolT, dAndT, dOrT, dNotT, dAndV, dOrV, dNotV, dCall, dCall0, dB, dIsi, dRepr, dAbs, dInt1, dInt2, dAll, dstart, dwipe, clean, Sl.clean, List.map_cons, List.map_nil, List.length_cons, List.length_nil, List.replicate, List.cons_append, List.nil_append, List.set_cons_zero, List.set_cons_succ, List.getElem?_cons_zero, List.getElem?_cons_succ, Nat.reduceAdd, Nat.reduceSub, Nat.add_zero, Nat.zero_add, Nat.add_sub_cancel, Nat.sub_self, atI_0, atI_1, atI_2, atI_3, dLtI, dLeI, dGtI, dGeI, dSub, dFd, dMod, dPow, eAdd_i, eAdd_l, eMul_i, eMul_l, eIx_l, eIx_t, eLen_l, eLen_t, eInt_i, eInt_b, eEq_i, eNe_i, eEq_e, dRaise, dRetX, dTry, dGcd3, dIsB, dChain, dZip, dItT, dItL, dSl, dNoPart, dPart, dChain]
  refine ⟨a, b, rfl, hu.ne, c, d, rfl, hv.ne, ?_⟩
  dsimp only at h ⊢
  unfold aheadB at h
  by_cases e : upper a b = upper c d
  · rw [if_pos e] at h
    refine ifF (by rw [e]; simp) ⟨cmb A D (by omega), cmb B C (by omega), ?_⟩
    exact h
  · rw [if_neg e] at h
    refine ifT ?_ ⟨a, b, rfl, hu.ne, c, d, rfl, hv.ne, ?_⟩
    · cases h1 : upper a b <;> cases h2 : upper c d <;> rw [h1, h2] at e <;> first | rfl | exact absurd rfl e
    · cases h1 : upper a b <;> cases h2 : upper c d <;> rw [h1, h2] at e <;> rw [h1] at h <;> first | exact h | exact absurd rfl e
theorem ok_l_round (T : Tx K mg base) : DefOk P w K mg base 3 "_law_round" ["_law_directions"] spRound := by
  refine defOk T.f_l_round sc_l_round bn_l_round (fun f cdv A outer s H hr hg => (pss_dc (psd_set (i := 1) sc_l_round.nd rfl (Or.inl rfl) (pd_lst pda_nil))
      (pss_dc (psd_for PassesOwn.never rfl (pdi_list (pd_var 0)) (pdg_name (i := 2) sc_l_round.nd rfl (Or.inr rfl)) (pss_d1 (psd_if (pdt_notin hr.units2 (pd_var 2) (pd_var 1)) (pss_dc (psd_setLci (i := 3) (own := [("_law_v", 4)]) rfl sc_l_round.nd rfl rfl (sw_true rfl rfl rfl (by decide +kernel)) (pdi_list (pd_var 1)) (blk (N := N_l_round) (sc := defScope s_l_round) (by decide +kernel)) (fun _ _ _ _ _ => pg_name sc_l_round.nd rfl (Or.inl rfl)) (lg_name 4) (sets_name (by decide)) (fun _ _ _ _ _ => (pdt_val (pd_fn (ok_l_ahead T) hr (by decide) hg (pda_cons (pd_var 4) (pda_cons (pd_var 2) pda_nil))))) (fun _ _ _ _ _ => (pd_var 4)))
      (pss_d1 (psd_set (i := 1) sc_l_round.nd rfl (Or.inl rfl) (pd_addA (pd_addA (pd_var 3) (pd_lst (pda_cons (pd_var 2) pda_nil))) (pd_sl (pd_var 1) (pdo_some (pd_blt call_len lc_len rfl T.b_len (by decide +kernel) (pda_cons (pd_var 3) pda_nil))) pdo_none))))) pss_d0)))
      (pss_d1 (psd_ret (pd_var 1)))))) ?_
  rintro ds Qd _ ⟨xs, k, rfl, hx, hl, hk, h⟩
  show dSeq _ _ _ [.val (.list xs), .emp, .emp, .emp, .emp]
  refine dSeq_g (fun σ => σ = [.val (.list xs), .val (.list []), .emp, .emp, .emp]) ?_ ?_
  · intro N hN
    simp only [dSeq, dNext, dRet, dIf, dDrop, dAsg, dgName, dgNil, dgCons, dgTup, dPar, dPar3, dOwn, dApp, dFrz, dVar, dC, dOp, dI, dI0, dB0, dNeg, dTup, dLst, dBoolT, dAndT, dOrT, dNotT, dAndV, dOrV, dNotV, dCall, dCall0, dB, dIsi, dRepr, dAbs, dInt1, dInt2, dAll, dstart, dwipe, clean, Sl.clean, List.map_cons, List.map_nil, List.length_cons, List.length_nil, List.replicate, List.cons_append, List.nil_append, List.set_cons_zero, List.set_cons_succ, List.getElem?_cons_zero, List.getElem?_cons_succ, Nat.reduceAdd, Nat.reduceSub, Nat.add_zero, Nat.zero_add, Nat.add_sub_cancel, Nat.sub_self, atI_0, atI_1, atI_2, atI_3, dLtI, dLeI, dGtI, dGeI, dSub, dFd, dMod, dPow, eAdd_i, eAdd_l, eMul_i, eMul_l, eIx_l, eIx_t, eLen_l, eLen_t, eInt_i, eInt_b, eEq_i, eNe_i, eEq_e, dRaise, dRetX, dTry, dGcd3, dIsB, dChain, dZip, dItT, dItL, dSl, dNoPart, dPart, dChain]
    exact hN _ rfl
  rintro σ2 rfl
  refine dFor_i xs (fun i σ => ∃ (ys : List D) (x2 x3 : Sl), (∀ y ∈ ys, IsDr k y) ∧ ys.Pairwise (fun x y => aheadD x y = true) ∧ ys.length ≤ i ∧ σ = [.val (.list xs), .val (.list ys), x2, x3, .emp]) ?_ ⟨[], _, _, by simp, by simp, by simp, rfl⟩ ?_ ?_
  · intro R hR
    simp only [dSeq, dNext, dRet, dIf, dDrop, dAsg, dgName, dgNil, dgCons, dgTup, dPar, dPar3, dOwn, dApp, dFrz, dVar, dC, dOp, dI, dI0, dB0, dNeg, dTup, dLst, dBoolT, dAndT, dOrT, dNotT, dAndV, dOrV, dNotV, dCall, dCall0, dB, dIsi, dRepr, dAbs, dInt1, dInt2, dAll, dstart, dwipe, clean, Sl.clean, List.map_cons, List.map_nil, List.length_cons, List.length_nil, List.replicate, List.cons_append, List.nil_append, List.set_cons_zero, List.set_cons_succ, List.getElem?_cons_zero, List.getElem?_cons_succ, Nat.reduceAdd, Nat.reduceSub, Nat.add_zero, Nat.zero_add, Nat.add_sub_cancel, Nat.sub_self, atI_0, atI_1, atI_2, atI_3, dLtI, dLeI, dGtI, dGeI, dSub, dFd, dMod, dPow, eAdd_i, eAdd_l, eMul_i, eMul_l, eIx_l, eIx_t, eLen_l, eLen_t, eInt_i, eInt_b, eEq_i, eNe_i, eEq_e, dRaise, dRetX, dTry, dGcd3, dIsB, dChain, dZip, dItT, dItL, dSl, dNoPart, dPart, dChain, dItL]
    exact hR
  · rintro i u hi σ' ⟨ys, x2, x3, hy, hp, hly, rfl⟩
    have hu := hx u (List.mem_of_getElem? hi)
    have hil : i < xs.length := (List.getElem?_eq_some_iff.mp hi).1
    simp only [dSeq, dNext, dRet, dIf, dDrop, dAsg, dgName, dgNil, dgCons, dgTup, dPar, dPar3, dOwn, dApp, dFrz, dVar, dC, dOp, dI, dI0, dB0, dNeg, dTup, dLst, dBoolT, dAndT, dOrT, dNotT, dAndV, dOrV, dNotV, dCall, dCall0, dB, dIsi, dRepr, dAbs, dInt1, dInt2, dAll, dstart, dwipe, clean, Sl.clean, List.map_cons, List.map_nil, List.length_cons, List.length_nil, List.replicate, List.cons_append, List.nil_append, List.set_cons_zero, List.set_cons_succ, List.getElem?_cons_zero, List.getElem?_cons_succ, Nat.reduceAdd, Nat.reduceSub, Nat.add_zero, Nat.zero_add, Nat.add_sub_cancel, Nat.sub_self, atI_0, atI_1, atI_2, atI_3, dLtI, dLeI, dGtI, dGeI, dSub, dFd, dMod, dPow, eAdd_i, eAdd_l, eMul_i, eMul_l, eIx_l, eIx_t, eLen_l, eLen_t, eInt_i, eInt_b, eEq_i, eNe_i, eEq_e, dRaise, dRetX, dTry, dGcd3, dIsB, dChain, dZip, dItT, dItL, dSl, dNoPart, dPart, dChain]
    refine dIn_fr (fun y h => (hy y h).fr) hu.fr (fun hin => ?_) (fun hin => ?_)
    · exact iteF ⟨ys, _, _, hy, hp, by omega, rfl⟩
    · refine iteT ?_
      refine dLcc_t ys (fun x => aheadD x u) (fun x => x) (fun R hR => ?_) (by omega) ?_ ?_
      · simp only [dSeq, dNext, dRet, dIf, dDrop, dAsg, dgName, dgNil, dgCons, dgTup, dPar, dPar3, dOwn, dApp, dFrz, dVar, dC, dOp, dI, dI0, dB0, dNeg, dTup, dLst, dBoolT, dAndT, dOrT, dNotT, dAndV, dOrV, dNotV, dCall, dCall0, dB, dIsi, dRepr, dAbs, dInt1, dInt2, dAll, dstart, dwipe, clean, Sl.clean, List.map_cons, List.map_nil, List.length_cons, List.length_nil, List.replicate, List.cons_append, List.nil_append, List.set_cons_zero, List.set_cons_succ, List.getElem?_cons_zero, List.getElem?_cons_succ, Nat.reduceAdd, Nat.reduceSub, Nat.add_zero, Nat.zero_add, Nat.add_sub_cancel, Nat.sub_self, atI_0, atI_1, atI_2, atI_3, dLtI, dLeI, dGtI, dGeI, dSub, dFd, dMod, dPow, eAdd_i, eAdd_l, eMul_i, eMul_l, eIx_l, eIx_t, eLen_l, eLen_t, eInt_i, eInt_b, eEq_i, eNe_i, eEq_e, dRaise, dRetX, dTry, dGcd3, dIsB, dChain, dZip, dItT, dItL, dSl, dNoPart, dPart, dChain, dItL]
        exact hR
      · rintro y hyy Q1 Q0 q1 q0
        simp only [dSeq, dNext, dRet, dIf, dDrop, dAsg, dgName, dgNil, dgCons, dgTup, dPar, dPar3, dOwn, dApp, dFrz, dVar, dC, dOp, dI, dI0, dB0, dNeg, dTup, dLst, dBoolT, dAndT, dOrT, dNotT, dAndV, dOrV, dNotV, dCall, dCall0, dB, dIsi, dRepr, dAbs, dInt1, dInt2, dAll, dstart, dwipe, clean, Sl.clean, List.map_cons, List.map_nil, List.length_cons, List.length_nil, List.replicate, List.cons_append, List.nil_append, List.set_cons_zero, List.set_cons_succ, List.getElem?_cons_zero, List.getElem?_cons_succ, Nat.reduceAdd, Nat.reduceSub, Nat.add_zero, Nat.zero_add, Nat.add_sub_cancel, Nat.sub_self, atI_0, atI_1, atI_2, atI_3, dLtI, dLeI, dGtI, dGeI, dSub, dFd, dMod, dPow, eAdd_i, eAdd_l, eMul_i, eMul_l, eIx_l, eIx_t, eLen_l, eLen_t, eInt_i, eInt_b, eEq_i, eNe_i, eEq_e, dRaise, dRetX, dTry, dGcd3, dIsB, dChain, dZip, dItT, dItL, dSl, dNoPart, dPart, dChain]
        obtain ⟨a, b, rfl, D1⟩ := hy y hyy
        obtain ⟨c, d, rfl, D2⟩ := hu
        refine ⟨a, b, c, d, k, rfl, D1, D2, hk, ?_⟩
        dsimp only
        cases e : aheadB a b c d with
        | true => exact iteT (q1 e)
        | false => exact iteF (q0 e)
      · rw [List.map_id']
        obtain ⟨r1, r2, r3⟩ := round_ins hu hy hp hin
        have lz : (ys.filter fun x => aheadD x u).length ≤ ys.length := List.length_filter_le _ _
        simp only [dSeq, dNext, dRet, dIf, dDrop, dAsg, dgName, dgNil, dgCons, dgTup, dPar, dPar3, dOwn, dApp, dFrz, dVar, dC, dOp, dI, dI0, dB0, dNeg, dTup, dLst, dBoolT, dAndT, dOrT, dNotT, dAndV, dOrV, dNotV, dCall, dCall0, dB, dIsi, dRepr, dAbs, dInt1, dInt2, dAll, dstart, dwipe, clean, Sl.clean, List.map_cons, List.map_nil, List.length_cons, List.length_nil, List.replicate, List.cons_append, List.nil_append, List.set_cons_zero, List.set_cons_succ, List.getElem?_cons_zero, List.getElem?_cons_succ, Nat.reduceAdd, Nat.reduceSub, Nat.add_zero, Nat.zero_add, Nat.add_sub_cancel, Nat.sub_self, atI_0, atI_1, atI_2, atI_3, dLtI, dLeI, dGtI, dGeI, dSub, dFd, dMod, dPow, eAdd_i, eAdd_l, eMul_i, eMul_l, eIx_l, eIx_t, eLen_l, eLen_t, eInt_i, eInt_b, eEq_i, eNe_i, eEq_e, dRaise, dRetX, dTry, dGcd3, dIsB, dChain, dZip, dItT, dItL, dSl, dNoPart, dPart, dChain, dSlA]
        refine ⟨by omega, ?_, ?_⟩
        · have : (cutD ys (some (((ys.filter fun x => aheadD x u).length : Nat) : Int)) none).length ≤ ys.length := cutD_len ..
          simp only [List.length_append, List.length_cons, List.length_nil]; omega
        · rw [cutD_from (by omega)]
          exact ⟨_, _, _, r2, r1, by omega, rfl⟩
  rintro σ' ⟨ys, x2, x3, hy, hp, hly, rfl⟩
  simp only [dSeq, dNext, dRet, dIf, dDrop, dAsg, dgName, dgNil, dgCons, dgTup, dPar, dPar3, dOwn, dApp, dFrz, dVar, dC, dOp, dI, dI0, dB0, dNeg, dTup, dLst, dBoolT, dAndT, dOrT, dNotT, dAndV, dOrV, dNotV, dCall, dCall0, dB, dIsi, dRepr, dAbs, dInt1, dInt2, dAll, dstart, dwipe, clean, Sl.clean, List.map_cons, List.map_nil, List.length_cons, List.length_nil, List.replicate, List.cons_append, List.nil_append, List.set_cons_zero, List.set_cons_succ, List.getElem?_cons_zero, List.getElem?_cons_succ, Nat.reduceAdd, Nat.reduceSub, Nat.add_zero, Nat.zero_add, Nat.add_sub_cancel, Nat.sub_self, atI_0, atI_1, atI_2, atI_3, dLtI, dLeI, dGtI, dGeI, dSub, dFd, dMod, dPow, eAdd_i, eAdd_l, eMul_i, eMul_l, eIx_l, eIx_t, eLen_l, eLen_t, eInt_i, eInt_b, eEq_i, eNe_i, eEq_e, dRaise, dRetX, dTry, dGcd3, dIsB, dChain, dZip, dItT, dItL, dSl, dNoPart, dPart, dChain]
  exact h ys hy hp hly
theorem ok_l_across (T : Tx K mg base) : DefOk P w K mg base 4 "_law_across" ["_law_places_here"] spAcross := by
  refine defOk T.f_l_across sc_l_across bn_l_across (fun f cdv A outer s H hr hg => (pss_dc (psd_own (i := 1) sc_l_across.nd rfl (Or.inl rfl) (pdn_lst pda_nil))
      (pss_dc (psd_for PassesOwn.never rfl (pdi_list (pd_var 0)) (pdg_name (i := 2) sc_l_across.nd rfl (Or.inl rfl)) (pss_d1 (psd_for PassesOwn.never rfl (pdi_list (pd_var 0)) (pdg_name (i := 3) sc_l_across.nd rfl (Or.inl rfl)) (pss_d1 (psd_if (pdt_ne hr.units (pd_var 2) (pd_var 3)) (pss_dc (psd_asg (pd_fn (ok_l_step T) hr (by decide) hg (pda_cons (pd_var 2) (pda_cons (pd_var 3) pda_nil))) (pdg_tup rfl (pdgs_cons (i := 4) sc_l_across.nd rfl (Or.inl rfl) (pdgs_cons (i := 5) sc_l_across.nd rfl (Or.inl rfl) pdgs_nil))))
      (pss_d1 (psd_app 1 rfl (Or.inl rfl) (pd_fn (ok_l_direction T) hr (by decide) hg (pda_cons (pd_sub pd_int (pd_var 5)) (pda_cons (pd_var 4) pda_nil)))))) pss_d0)))))
      (pss_frz 1 (pss_d1 (psd_ret (pd_fn (ok_l_round T) hr (by decide) hg (pda_cons (pd_var 1) pda_nil)))))))) ?_
  rintro ds Qd _ ⟨ps, k, rfl, hb, hk, hl, h⟩
  show dSeq _ _ _ _
  refine dSeq_g (fun σ => ∃ a, σ = [.val (.list (ps.map pD)), .own a [], .emp, .emp, .emp, .emp]) ?_ ?_
  · intro N hN
    simp only [dSeq, dNext, dRet, dIf, dDrop, dAsg, dgName, dgNil, dgCons, dgTup, dPar, dPar3, dOwn, dApp, dFrz, dVar, dC, dOp, dI, dI0, dB0, dNeg, dTup, dLst, dBoolT, dAndT, dOrT, dNotT, dAndV, dOrV, dNotV, dCall, dCall0, dB, dIsi, dRepr, dAbs, dInt1, dInt2, dAll, dstart, dwipe, clean, Sl.clean, List.map_cons, List.map_nil, List.length_cons, List.length_nil, List.replicate, List.cons_append, List.nil_append, List.set_cons_zero, List.set_cons_succ, List.getElem?_cons_zero, List.getElem?_cons_succ, Nat.reduceAdd, Nat.reduceSub, Nat.add_zero, Nat.zero_add, Nat.add_sub_cancel, Nat.sub_self, atI_0, atI_1, atI_2, atI_3, dLtI, dLeI, dGtI, dGeI, dSub, dFd, dMod, dPow, eAdd_i, eAdd_l, eMul_i, eMul_l, eIx_l, eIx_t, eLen_l, eLen_t, eInt_i, eInt_b, eEq_i, eNe_i, eEq_e, dRaise, dRetX, dTry, dGcd3, dIsB, dChain, dZip, dItT, dItL, dSl, dNoPart, dPart, dChain, dgUnl, dParO, notN_no, notN_t, isN_no, dRev, dParC, dOwnC, dMaxD, dEnum, capD, dLstN, dAsg2, dIncI]
    exact fun a => hN _ ⟨a, rfl⟩
  rintro σ2 ⟨a, rfl⟩
  refine dFor_m ps pD (fun pre σ => ∃ (ys : List D) (x2 x3 x4 x5 : Sl), (∀ y ∈ ys, IsDr (2 * k + 1) y) ∧ ys.length ≤ 20 * pre.length ∧ σ = [.val (.list (ps.map pD)), .own a ys, x2, x3, x4, x5]) ?_ ⟨[], _, _, _, _, by simp, by simp, rfl⟩ ?_ ?_
  · intro R hR
    simp only [dSeq, dNext, dRet, dIf, dDrop, dAsg, dgName, dgNil, dgCons, dgTup, dPar, dPar3, dOwn, dApp, dFrz, dVar, dC, dOp, dI, dI0, dB0, dNeg, dTup, dLst, dBoolT, dAndT, dOrT, dNotT, dAndV, dOrV, dNotV, dCall, dCall0, dB, dIsi, dRepr, dAbs, dInt1, dInt2, dAll, dstart, dwipe, clean, Sl.clean, List.map_cons, List.map_nil, List.length_cons, List.length_nil, List.replicate, List.cons_append, List.nil_append, List.set_cons_zero, List.set_cons_succ, List.getElem?_cons_zero, List.getElem?_cons_succ, Nat.reduceAdd, Nat.reduceSub, Nat.add_zero, Nat.zero_add, Nat.add_sub_cancel, Nat.sub_self, atI_0, atI_1, atI_2, atI_3, dLtI, dLeI, dGtI, dGeI, dSub, dFd, dMod, dPow, eAdd_i, eAdd_l, eMul_i, eMul_l, eIx_l, eIx_t, eLen_l, eLen_t, eInt_i, eInt_b, eEq_i, eNe_i, eEq_e, dRaise, dRetX, dTry, dGcd3, dIsB, dChain, dZip, dItT, dItL, dSl, dNoPart, dPart, dChain, dgUnl, dParO, notN_no, notN_t, isN_no, dRev, dParC, dOwnC, dMaxD, dEnum, capD, dLstN, dAsg2, dIncI, dItL]
    exact hR
  · rintro pre u post e σ' ⟨ys, x2, x3, x4, x5, hy, ly, rfl⟩
    have bu := hb u (by rw [e]; simp)
    have pl : pre.length < ps.length := by
      have := congrArg List.length e
      simp at this; omega
    simp only [dgName, List.set_cons_zero, List.set_cons_succ]
    refine dFor_last ?_
    refine dFor_m ps pD (fun pre2 σ => ∃ (ys : List D) (x3 x4 x5 : Sl), (∀ y ∈ ys, IsDr (2 * k + 1) y) ∧ ys.length ≤ 20 * pre.length + pre2.length ∧ σ = [.val (.list (ps.map pD)), .own a ys, .val (pD u), x3, x4, x5]) ?_ ⟨ys, _, _, _, hy, by simp; omega, rfl⟩ ?_ ?_
    · intro R hR
      simp only [dSeq, dNext, dRet, dIf, dDrop, dAsg, dgName, dgNil, dgCons, dgTup, dPar, dPar3, dOwn, dApp, dFrz, dVar, dC, dOp, dI, dI0, dB0, dNeg, dTup, dLst, dBoolT, dAndT, dOrT, dNotT, dAndV, dOrV, dNotV, dCall, dCall0, dB, dIsi, dRepr, dAbs, dInt1, dInt2, dAll, dstart, dwipe, clean, Sl.clean, List.map_cons, List.map_nil, List.length_cons, List.length_nil, List.replicate, List.cons_append, List.nil_append, List.set_cons_zero, List.set_cons_succ, List.getElem?_cons_zero, List.getElem?_cons_succ, Nat.reduceAdd, Nat.reduceSub, Nat.add_zero, Nat.zero_add, Nat.add_sub_cancel, Nat.sub_self, atI_0, atI_1, atI_2, atI_3, dLtI, dLeI, dGtI, dGeI, dSub, dFd, dMod, dPow, eAdd_i, eAdd_l, eMul_i, eMul_l, eIx_l, eIx_t, eLen_l, eLen_t, eInt_i, eInt_b, eEq_i, eNe_i, eEq_e, dRaise, dRetX, dTry, dGcd3, dIsB, dChain, dZip, dItT, dItL, dSl, dNoPart, dPart, dChain, dgUnl, dParO, notN_no, notN_t, isN_no, dRev, dParC, dOwnC, dMaxD, dEnum, capD, dLstN, dAsg2, dIncI, dItL]
      exact hR
    · rintro pre2 v post2 e2 σ' ⟨ys, x3, x4, x5, hy, ly, rfl⟩
      have bv := hb v (by rw [e2]; simp)
      have pl2 : pre2.length < ps.length := by
        have := congrArg List.length e2
        simp at this; omega
      generalize ps.map pD = L at *
      simp only [dSeq, dNext, dRet, dIf, dDrop, dAsg, dgName, dgNil, dgCons, dgTup, dPar, dPar3, dOwn, dApp, dFrz, dVar, dC, dOp, dI, dI0, dB0, dNeg, dTup, dLst, dBoolT, dAndT, dOrT, dNotT, dAndV, dOrV, dNotV, dCall, dCall0, dB, dIsi, dRepr, dAbs, dInt1, dInt2, dAll, dstart, dwipe, clean, Sl.clean, List.map_cons, List.map_nil, List.length_cons, List.length_nil, List.replicate, List.cons_append, List.nil_append, List.set_cons_zero, List.set_cons_succ, List.getElem?_cons_zero, List.getElem?_cons_succ, Nat.reduceAdd, Nat.reduceSub, Nat.add_zero, Nat.zero_add, Nat.add_sub_cancel, Nat.sub_self, atI_0, atI_1, atI_2, atI_3, dLtI, dLeI, dGtI, dGeI, dSub, dFd, dMod, dPow, eAdd_i, eAdd_l, eMul_i, eMul_l, eIx_l, eIx_t, eLen_l, eLen_t, eInt_i, eInt_b, eEq_i, eNe_i, eEq_e, dRaise, dRetX, dTry, dGcd3, dIsB, dChain, dZip, dItT, dItL, dSl, dNoPart, dPart, dChain, dgUnl, dParO, notN_no, notN_t, isN_no, dRev, dParC, dOwnC, dMaxD, dEnum, capD, dLstN, dAsg2, dIncI]
      refine dNe_pD ?_
      by_cases c : u = v
      · rw [decide_eq_true c]
        exact iteF ⟨ys, _, _, _, hy, by simp; omega, rfl⟩
      · rw [decide_eq_false c]
        refine iteT (step_c bu bv (by omega) ?_)
        obtain ⟨b1, b2⟩ := s_bd bu bv
        have sn := s_ne c
        obtain ⟨n, en, nb, _⟩ := vd_of (a := 0 - Pt.sy u v) (b := Pt.sx u v) (k := 2 * k + 1) (fun z => sn ⟨z.2, by omega⟩) (bd_z b2) b1
        refine ⟨by omega, _, _, 2 * k + 1, rfl, fun z => sn ⟨z.2, by omega⟩, bd_z b2, b1, by omega, ?_⟩
        rw [en]
        refine ⟨ys ++ [vD n], _, _, _, fun y hy' => ?_, by simp; omega, rfl⟩
        rcases List.mem_append.mp hy' with z | z
        · exact hy y z
        · simp at z; rw [z]; exact vd_isdr nb
    · rintro σ' ⟨ys, x3, x4, x5, hy, ly, rfl⟩
      exact ⟨ys, _, _, _, _, hy, by simp; omega, rfl⟩
  rintro σ' ⟨ys, x2, x3, x4, x5, hy, ly, rfl⟩
  simp only [dSeq, dNext, dRet, dIf, dDrop, dAsg, dgName, dgNil, dgCons, dgTup, dPar, dPar3, dOwn, dApp, dFrz, dVar, dC, dOp, dI, dI0, dB0, dNeg, dTup, dLst, dBoolT, dAndT, dOrT, dNotT, dAndV, dOrV, dNotV, dCall, dCall0, dB, dIsi, dRepr, dAbs, dInt1, dInt2, dAll, dstart, dwipe, clean, Sl.clean, List.map_cons, List.map_nil, List.length_cons, List.length_nil, List.replicate, List.cons_append, List.nil_append, List.set_cons_zero, List.set_cons_succ, List.getElem?_cons_zero, List.getElem?_cons_succ, Nat.reduceAdd, Nat.reduceSub, Nat.add_zero, Nat.zero_add, Nat.add_sub_cancel, Nat.sub_self, atI_0, atI_1, atI_2, atI_3, dLtI, dLeI, dGtI, dGeI, dSub, dFd, dMod, dPow, eAdd_i, eAdd_l, eMul_i, eMul_l, eIx_l, eIx_t, eLen_l, eLen_t, eInt_i, eInt_b, eEq_i, eNe_i, eEq_e, dRaise, dRetX, dTry, dGcd3, dIsB, dChain, dZip, dItT, dItL, dSl, dNoPart, dPart, dChain, dgUnl, dParO, notN_no, notN_t, isN_no, dRev, dParC, dOwnC, dMaxD, dEnum, capD, dLstN, dAsg2, dIncI]
  exact ⟨ys, 2 * k + 1, rfl, hy, by omega, by omega, fun zs z1 _ z3 => h zs z1 (by omega)⟩
theorem ok_l_draw_place (T : Tx K mg base) : DefOk P w K mg base 3 "_law_draw_place" ["_law_source", "_law_wide"] spDrawPlace := by
  refine defOk T.f_l_draw_place sc_l_draw_place bn_l_draw_place (fun f cdv A outer s H hr hg => (pss_dc (psd_set (i := 2) sc_l_draw_place.nd rfl (Or.inl rfl) (pd_ix (pd_lst (pda_cons pd_int (pda_cons pd_int (pda_cons pd_int (pda_cons pd_int (pda_cons pd_int pda_nil)))))) (pd_fn (ok_l_pick T) hr (by decide) hg (pda_cons (pd_var 0) (pda_cons pd_int pda_nil)))))
      (pss_d1 (psd_ret (pd_fn (ok_l_place T) hr (by decide) hg (pda_cons (pd_fn (ok_l_pick T) hr (by decide) hg (pda_cons (pd_var 0) (pda_cons (pd_addA (pd_mulA (pd_var 1) (pd_var 2)) pd_int) pda_nil))) (pda_cons (pd_fn (ok_l_pick T) hr (by decide) hg (pda_cons (pd_var 0) (pda_cons (pd_addA (pd_mulA (pd_var 1) (pd_var 2)) pd_int) pda_nil))) (pda_cons (pd_var 2) pda_nil)))))))) ?_
  rintro ds Qd _ ⟨w0, rfl, hw0, hw, h⟩
  simp only [dSeq, dNext, dRet, dIf, dDrop, dAsg, dgName, dgNil, dgCons, dgTup, dPar, dPar3, dOwn, dApp, dFrz, dVar, dC, dOp, dI, dI0, dB0, dNeg, dTup, dLst, dBoolT, dAndT, dOrT, dNotT, dAndV, dOrV, dNotV, dIfE, dCall, dCall0, dB, dIsi, dRepr, dAbs, dInt1, dInt2, dAll, dstart, dwipe, clean, Sl.clean, List.map_cons, List.map_nil, List.length_cons, List.length_nil, List.replicate, List.cons_append, List.nil_append, List.set_cons_zero, List.set_cons_succ, List.getElem?_cons_zero, List.getElem?_cons_succ, Nat.reduceAdd, Nat.reduceSub, Nat.add_zero, Nat.zero_add, Nat.add_sub_cancel, Nat.sub_self, atI_0, atI_1, atI_2, atI_3, dLtI, dLeI, dGtI, dGeI, dSub, dFd, dMod, dPow, eAdd_i, eAdd_l, eMul_i, eMul_l, eIx_l, eIx_t, eLen_l, eLen_t, eInt_i, eInt_b, eEq_i, eNe_i, eEq_e]
  have fin : ∀ d : Int, 0 < d → d ≤ 3 → CMB w0 d ∧ spPick [SRC, .int (w0 * d + 1)] fun z => CMB w0 d ∧ spPick [SRC, .int (w0 * d + 1)] fun z2 => spPlc [z, z2, .int d] Qd := fun d h0 h3 => by
    have hm : w0 * d ≤ w0 * 3 := Int.mul_le_mul_of_nonneg_left h3 hw0
    have hm0 : 0 ≤ w0 * d := Int.mul_nonneg hw0 (by omega)
    have bw : Bd 20 w0 := ⟨by omega⟩
    have bd : Bd 2 d := ⟨by omega⟩
    refine ⟨cmb bw bd (by decide), pick (by omega) (by omega) fun i i0 i1 => ⟨cmb bw bd (by decide), pick (by omega) (by omega) fun j j0 j1 => ?_⟩⟩
    obtain ⟨u, v, r, e, hr, hg, l1, l2, l3⟩ := plc_spec (x := i) (y := j) (d := d) (by omega)
    exact spPlc_c (a := 30) ⟨by omega⟩ ⟨by omega⟩ ⟨by omega⟩ (by omega) (by decide) e (h u v r (by omega) (by omega) hr (by omega) hg)
  refine pick (by decide) (by decide) fun k h0 h5 => ?_
  obtain rfl | rfl | rfl | rfl | rfl : k = 0 ∨ k = 1 ∨ k = 2 ∨ k = 3 ∨ k = 4 := by omega
  · rw [eIx_l]; simp only [atI_0]; exact fin 1 (by decide) (by decide)
  · rw [eIx_l]; simp only [atI_1]; exact fin 1 (by decide) (by decide)
  · rw [eIx_l]; simp only [atI_2]; exact fin 2 (by decide) (by decide)
  · rw [eIx_l]; simp only [atI_3]; exact fin 1 (by decide) (by decide)
  · rw [eIx_l]; simp only [atI_4]; exact fin 3 (by decide) (by decide)
theorem ok_l_draw_pool (T : Tx K mg base) : DefOk P w K mg base 4 "_law_draw_pool" ["_law_source", "_law_many", "_law_wide"] spPool := by
  refine defOk T.f_l_draw_pool sc_l_draw_pool bn_l_draw_pool (fun f cdv A outer s H hr hg => (pss_d1 (psd_ret (pd_new (pdn_lc (own := [("_law_lap", 3)]) rfl sc_l_draw_pool.nd (pdi_rng1 rfl T.b_range (pda_cons (pd_var 1) pda_nil)) (blk (N := N_l_draw_pool) (sc := defScope s_l_draw_pool) (by decide +kernel)) (fun _ _ _ _ _ => pg_name sc_l_draw_pool.nd rfl (Or.inl rfl)) (lg_name 3) (sets_name (by decide)) (fun _ _ _ _ _ => (pd_fn (ok_l_draw_place T) hr (by decide) hg (pda_cons (pd_var 0) (pda_cons (pd_var 2) pda_nil))))))))) ?_
  rintro ds Qd _ ⟨n, w, rfl, n1, n2, w0, w4, h⟩
  simp only [dSeq, dNext, dRet, dIf, dDrop, dAsg, dgName, dgNil, dgCons, dgTup, dPar, dPar3, dOwn, dApp, dFrz, dVar, dC, dOp, dI, dI0, dB0, dNeg, dTup, dLst, dBoolT, dAndT, dOrT, dNotT, dAndV, dOrV, dNotV, dCall, dCall0, dB, dIsi, dRepr, dAbs, dInt1, dInt2, dAll, dstart, dwipe, clean, Sl.clean, List.map_cons, List.map_nil, List.length_cons, List.length_nil, List.replicate, List.cons_append, List.nil_append, List.set_cons_zero, List.set_cons_succ, List.getElem?_cons_zero, List.getElem?_cons_succ, Nat.reduceAdd, Nat.reduceSub, Nat.add_zero, Nat.zero_add, Nat.add_sub_cancel, Nat.sub_self, atI_0, atI_1, atI_2, atI_3, dLtI, dLeI, dGtI, dGeI, dSub, dFd, dMod, dPow, eAdd_i, eAdd_l, eMul_i, eMul_l, eIx_l, eIx_t, eLen_l, eLen_t, eInt_i, eInt_b, eEq_i, eNe_i, eEq_e, dRaise, dRetX, dTry, dGcd3, dIsB, dChain, dZip, dItT, dItL, dSl, dNoPart, dPart, dChain, dgUnl, dParO, notN_no, notN_t, isN_no, dRev]
  refine dLcc_n (List.range n.toNat) (fun i : Nat => .int ((0 : Int) + (i : Int))) pD (fun _ p => PBd 4 2 p) (fun R hR => ?_) (by simp; omega) ?_ ?_
  · simp only [dSeq, dNext, dRet, dIf, dDrop, dAsg, dgName, dgNil, dgCons, dgTup, dPar, dPar3, dOwn, dApp, dFrz, dVar, dC, dOp, dI, dI0, dB0, dNeg, dTup, dLst, dBoolT, dAndT, dOrT, dNotT, dAndV, dOrV, dNotV, dCall, dCall0, dB, dIsi, dRepr, dAbs, dInt1, dInt2, dAll, dstart, dwipe, clean, Sl.clean, List.map_cons, List.map_nil, List.length_cons, List.length_nil, List.replicate, List.cons_append, List.nil_append, List.set_cons_zero, List.set_cons_succ, List.getElem?_cons_zero, List.getElem?_cons_succ, Nat.reduceAdd, Nat.reduceSub, Nat.add_zero, Nat.zero_add, Nat.add_sub_cancel, Nat.sub_self, atI_0, atI_1, atI_2, atI_3, dLtI, dLeI, dGtI, dGeI, dSub, dFd, dMod, dPow, eAdd_i, eAdd_l, eMul_i, eMul_l, eIx_l, eIx_t, eLen_l, eLen_t, eInt_i, eInt_b, eEq_i, eNe_i, eEq_e, dRaise, dRetX, dTry, dGcd3, dIsB, dChain, dZip, dItT, dItL, dSl, dNoPart, dPart, dChain, dgUnl, dParO, notN_no, notN_t, isN_no, dRev, dRng1]
    exact ⟨by omega, hR⟩
  · intro x hx Q hQ
    simp only [dSeq, dNext, dRet, dIf, dDrop, dAsg, dgName, dgNil, dgCons, dgTup, dPar, dPar3, dOwn, dApp, dFrz, dVar, dC, dOp, dI, dI0, dB0, dNeg, dTup, dLst, dBoolT, dAndT, dOrT, dNotT, dAndV, dOrV, dNotV, dCall, dCall0, dB, dIsi, dRepr, dAbs, dInt1, dInt2, dAll, dstart, dwipe, clean, Sl.clean, List.map_cons, List.map_nil, List.length_cons, List.length_nil, List.replicate, List.cons_append, List.nil_append, List.set_cons_zero, List.set_cons_succ, List.getElem?_cons_zero, List.getElem?_cons_succ, Nat.reduceAdd, Nat.reduceSub, Nat.add_zero, Nat.zero_add, Nat.add_sub_cancel, Nat.sub_self, atI_0, atI_1, atI_2, atI_3, dLtI, dLeI, dGtI, dGeI, dSub, dFd, dMod, dPow, eAdd_i, eAdd_l, eMul_i, eMul_l, eIx_l, eIx_t, eLen_l, eLen_t, eInt_i, eInt_b, eEq_i, eNe_i, eEq_e, dRaise, dRetX, dTry, dGcd3, dIsB, dChain, dZip, dItT, dItL, dSl, dNoPart, dPart, dChain, dgUnl, dParO, notN_no, notN_t, isN_no, dRev]
    refine ⟨w, rfl, w0, by omega, fun x y d hx hy hd hd3 hg => hQ ⟨x, y, d, hd, hg⟩ ⟨⟨?_⟩, ⟨?_⟩, ⟨?_⟩⟩⟩
    · show x.natAbs < 16; omega
    · show y.natAbs < 16; omega
    · show d.natAbs < 4; omega
  · intro bs F
    have l := F.len
    rw [List.length_range] at l
    exact h bs l.symm (F.all (R := fun p => PBd 4 2 p) fun _ _ z => z)
theorem ok_l_draw_plate (T : Tx K mg base) : DefOk P w K mg base 5 "_law_draw_plate" ["_law_source", "_law_pool"] spPlateW := by
  refine defOk T.f_l_draw_plate sc_l_draw_plate bn_l_draw_plate (fun f cdv A outer s H hr hg => (pss_d1 (psd_ret (pd_fn (ok_l_hull T) hr (by decide) hg (pda_cons (pd_new (pdn_lc (own := [("_law_lap", 2)]) rfl sc_l_draw_plate.nd (pdi_rng1 rfl T.b_range (pda_cons (pd_addA pd_int (pd_fn (ok_l_pick T) hr (by decide) hg (pda_cons (pd_var 0) (pda_cons pd_int pda_nil)))) pda_nil)) (blk (N := N_l_draw_plate) (sc := defScope s_l_draw_plate) (by decide +kernel)) (fun _ _ _ _ _ => pg_name sc_l_draw_plate.nd rfl (Or.inl rfl)) (lg_name 2) (sets_name (by decide)) (fun _ _ _ _ _ => (pd_ix (pd_var 1) (pd_fn (ok_l_pick T) hr (by decide) hg (pda_cons (pd_var 0) (pda_cons (pd_blt call_len lc_len rfl T.b_len (by decide +kernel) (pda_cons (pd_var 1) pda_nil)) pda_nil))))))) pda_nil))))) ?_
  rintro ds Qd _ ⟨ps, rfl, ne, hl, hb, h⟩
  have pos : 0 < ps.length := List.length_pos_iff.mpr ne
  simp only [dSeq, dNext, dRet, dIf, dDrop, dAsg, dgName, dgNil, dgCons, dgTup, dPar, dPar3, dOwn, dApp, dFrz, dVar, dC, dOp, dI, dI0, dB0, dNeg, dTup, dLst, dBoolT, dAndT, dOrT, dNotT, dAndV, dOrV, dNotV, dCall, dCall0, dB, dIsi, dRepr, dAbs, dInt1, dInt2, dAll, dstart, dwipe, clean, Sl.clean, List.map_cons, List.map_nil, List.length_cons, List.length_nil, List.replicate, List.cons_append, List.nil_append, List.set_cons_zero, List.set_cons_succ, List.getElem?_cons_zero, List.getElem?_cons_succ, Nat.reduceAdd, Nat.reduceSub, Nat.add_zero, Nat.zero_add, Nat.add_sub_cancel, Nat.sub_self, atI_0, atI_1, atI_2, atI_3, dLtI, dLeI, dGtI, dGeI, dSub, dFd, dMod, dPow, eAdd_i, eAdd_l, eMul_i, eMul_l, eIx_l, eIx_t, eLen_l, eLen_t, eInt_i, eInt_b, eEq_i, eNe_i, eEq_e, dRaise, dRetX, dTry, dGcd3, dIsB, dChain, dZip, dItT, dItL, dSl, dNoPart, dPart, dChain, dgUnl, dParO, notN_no, notN_t, isN_no, dRev]
  refine dLcc_x (fun k : Int => 0 ≤ k ∧ k < 4) (fun k => (List.range (1 + k).toNat).map fun i : Nat => PyData.int ((0 : Int) + (i : Int))) (fun R hR => ?_) ?_
  · simp only [dSeq, dNext, dRet, dIf, dDrop, dAsg, dgName, dgNil, dgCons, dgTup, dPar, dPar3, dOwn, dApp, dFrz, dVar, dC, dOp, dI, dI0, dB0, dNeg, dTup, dLst, dBoolT, dAndT, dOrT, dNotT, dAndV, dOrV, dNotV, dCall, dCall0, dB, dIsi, dRepr, dAbs, dInt1, dInt2, dAll, dstart, dwipe, clean, Sl.clean, List.map_cons, List.map_nil, List.length_cons, List.length_nil, List.replicate, List.cons_append, List.nil_append, List.set_cons_zero, List.set_cons_succ, List.getElem?_cons_zero, List.getElem?_cons_succ, Nat.reduceAdd, Nat.reduceSub, Nat.add_zero, Nat.zero_add, Nat.add_sub_cancel, Nat.sub_self, atI_0, atI_1, atI_2, atI_3, dLtI, dLeI, dGtI, dGeI, dSub, dFd, dMod, dPow, eAdd_i, eAdd_l, eMul_i, eMul_l, eIx_l, eIx_t, eLen_l, eLen_t, eInt_i, eInt_b, eEq_i, eNe_i, eEq_e, dRaise, dRetX, dTry, dGcd3, dIsB, dChain, dZip, dItT, dItL, dSl, dNoPart, dPart, dChain, dgUnl, dParO, notN_no, notN_t, isN_no, dRev, dRng1]
    exact pick (by decide) (by decide) fun k k0 k4 => ⟨by omega, hR k ⟨k0, k4⟩⟩
  rintro k ⟨k0, k4⟩
  refine dLcc_n (List.range (1 + k).toNat) (fun i : Nat => .int ((0 : Int) + (i : Int))) pD (fun _ p => p ∈ ps) (fun R hR => hR) (by simp; omega) ?_ ?_
  · intro x hx Q hQ
    simp only [dSeq, dNext, dRet, dIf, dDrop, dAsg, dgName, dgNil, dgCons, dgTup, dPar, dPar3, dOwn, dApp, dFrz, dVar, dC, dOp, dI, dI0, dB0, dNeg, dTup, dLst, dBoolT, dAndT, dOrT, dNotT, dAndV, dOrV, dNotV, dCall, dCall0, dB, dIsi, dRepr, dAbs, dInt1, dInt2, dAll, dstart, dwipe, clean, Sl.clean, List.map_cons, List.map_nil, List.length_cons, List.length_nil, List.replicate, List.cons_append, List.nil_append, List.set_cons_zero, List.set_cons_succ, List.getElem?_cons_zero, List.getElem?_cons_succ, Nat.reduceAdd, Nat.reduceSub, Nat.add_zero, Nat.zero_add, Nat.add_sub_cancel, Nat.sub_self, atI_0, atI_1, atI_2, atI_3, dLtI, dLeI, dGtI, dGeI, dSub, dFd, dMod, dPow, eAdd_i, eAdd_l, eMul_i, eMul_l, eIx_l, eIx_t, eLen_l, eLen_t, eInt_i, eInt_b, eEq_i, eNe_i, eEq_e, dRaise, dRetX, dTry, dGcd3, dIsB, dChain, dZip, dItT, dItL, dSl, dNoPart, dPart, dChain, dgUnl, dParO, notN_no, notN_t, isN_no, dRev]
    refine pick (by rw [List.length_map]; omega) (by rw [List.length_map]; omega) fun j j0 j1 => ?_
    obtain ⟨v, e, hv⟩ := atI_ok (xs := ps.map pD) j0 j1
    obtain ⟨p, hp, rfl⟩ := List.mem_map.mp hv
    rw [eIx_l, e]
    exact hQ p hp
  · intro bs F
    have l := F.len
    rw [List.length_range] at l
    have hm := F.all (R := fun p => p ∈ ps) fun _ _ z => z
    have bne : bs ≠ [] := fun z => by rw [z] at l; simp at l; omega
    obtain ⟨P1, P2, P3⟩ := plate_ok bne
    refine ⟨bs, ⟨rfl, ⟨24, by decide, fun p hp => (hb p (hm p hp)).pb (by decide)⟩, by omega⟩, ?_⟩
    exact h _ ⟨bs, bne, rfl⟩ (fun p hp => hb p (hm p (P2 p hp))) (by omega)
theorem ok_l_draw_rows (T : Tx K mg base) : DefOk P w K mg base 6 "_law_draw_rows" ["_law_source", "_law_pool", "_law_most"] spDrawRows := by
  refine defOk T.f_l_draw_rows sc_l_draw_rows bn_l_draw_rows (fun f cdv A outer s H hr hg => (pss_dc (psd_own (i := 3) sc_l_draw_rows.nd rfl (Or.inl rfl) (pdn_lst pda_nil))
      (pss_dc (psd_for PassesOwn.never rfl (pdi_rng1 rfl T.b_range (pda_cons (pd_fn (ok_l_pick T) hr (by decide) hg (pda_cons (pd_var 0) (pda_cons (pd_addA (pd_var 2) pd_int) pda_nil))) pda_nil)) (pdg_name (i := 4) sc_l_draw_rows.nd rfl (Or.inl rfl)) (pss_dc (psd_set (i := 5) sc_l_draw_rows.nd rfl (Or.inl rfl) (pd_ix (pd_lst (pda_cons pd_int (pda_cons (pd_sub pd_int pd_int) (pda_cons pd_int (pda_cons pd_int (pda_cons (pd_sub pd_int pd_int) pda_nil)))))) (pd_fn (ok_l_pick T) hr (by decide) hg (pda_cons (pd_var 0) (pda_cons pd_int pda_nil)))))
      (pss_d1 (psd_app 3 rfl (Or.inl rfl) (pd_tup (pda_cons (pd_fn (ok_l_draw_plate T) hr (by decide) hg (pda_cons (pd_var 0) (pda_cons (pd_var 1) pda_nil))) (pda_cons (pd_var 5) pda_nil)))))))
      (pss_frz 3 (pss_d1 (psd_ret (pd_var 3))))))) ?_
  rintro ds Qd _ ⟨ps, m, rfl, ne, hl, hb, hm, h⟩
  show dSeq _ _ _ [.val SRC, .val (.list (ps.map pD)), .val (.int m), .emp, .emp, .emp]
  refine dSeq_g (fun σ => ∃ ad : Addr, σ = [.val SRC, .val (.list (ps.map pD)), .val (.int m), .own ad [], .emp, .emp]) ?_ ?_
  · intro N hN
    simp only [dSeq, dNext, dRet, dIf, dDrop, dAsg, dgName, dgNil, dgCons, dgTup, dPar, dPar3, dOwn, dApp, dFrz, dVar, dC, dOp, dI, dI0, dB0, dNeg, dTup, dLst, dBoolT, dAndT, dOrT, dNotT, dAndV, dOrV, dNotV, dCall, dCall0, dB, dIsi, dRepr, dAbs, dInt1, dInt2, dAll, dstart, dwipe, clean, Sl.clean, List.map_cons, List.map_nil, List.length_cons, List.length_nil, List.replicate, List.cons_append, List.nil_append, List.set_cons_zero, List.set_cons_succ, List.getElem?_cons_zero, List.getElem?_cons_succ, Nat.reduceAdd, Nat.reduceSub, Nat.add_zero, Nat.zero_add, Nat.add_sub_cancel, Nat.sub_self, atI_0, atI_1, atI_2, atI_3, dLtI, dLeI, dGtI, dGeI, dSub, dFd, dMod, dPow, eAdd_i, eAdd_l, eMul_i, eMul_l, eIx_l, eIx_t, eLen_l, eLen_t, eInt_i, eInt_b, eEq_i, eNe_i, eEq_e, dRaise, dRetX, dTry, dGcd3, dIsB, dChain, dZip, dItT, dItL, dSl, dNoPart, dPart, dChain, dgUnl, dParO, notN_no, notN_t, isN_no, dRev, dParC, dOwnC, dMaxD, dEnum, capD, dLstN, dNGet, dWts, dItN, dHH, dHI, dIH, dMeth, dMeth0, dMake, dIsH, dSortD, dDcn, dYes]
    exact fun ad => hN _ ⟨ad, rfl⟩
  rintro σ2 ⟨ad, rfl⟩
  refine dFor_n m (fun i σ => ∃ (R : TR) (x4 x5 : Sl), DR i R ∧ σ = [.val SRC, .val (.list (ps.map pD)), .val (.int m), .own ad (R.map rowD), x4, x5]) ?_ ⟨[], _, _, ⟨fun _ h => (nomatch h), fun _ h => (nomatch h), Nat.le_refl _⟩, rfl⟩ ?_ ?_
  · intro P hP
    simp only [dSeq, dNext, dRet, dIf, dDrop, dAsg, dgName, dgNil, dgCons, dgTup, dPar, dPar3, dOwn, dApp, dFrz, dVar, dC, dOp, dI, dI0, dB0, dNeg, dTup, dLst, dBoolT, dAndT, dOrT, dNotT, dAndV, dOrV, dNotV, dCall, dCall0, dB, dIsi, dRepr, dAbs, dInt1, dInt2, dAll, dstart, dwipe, clean, Sl.clean, List.map_cons, List.map_nil, List.length_cons, List.length_nil, List.replicate, List.cons_append, List.nil_append, List.set_cons_zero, List.set_cons_succ, List.getElem?_cons_zero, List.getElem?_cons_succ, Nat.reduceAdd, Nat.reduceSub, Nat.add_zero, Nat.zero_add, Nat.add_sub_cancel, Nat.sub_self, atI_0, atI_1, atI_2, atI_3, dLtI, dLeI, dGtI, dGeI, dSub, dFd, dMod, dPow, eAdd_i, eAdd_l, eMul_i, eMul_l, eIx_l, eIx_t, eLen_l, eLen_t, eInt_i, eInt_b, eEq_i, eNe_i, eEq_e, dRaise, dRetX, dTry, dGcd3, dIsB, dChain, dZip, dItT, dItL, dSl, dNoPart, dPart, dChain, dgUnl, dParO, notN_no, notN_t, isN_no, dRev, dParC, dOwnC, dMaxD, dEnum, capD, dLstN, dNGet, dWts, dItN, dHH, dHI, dIH, dMeth, dMeth0, dMake, dIsH, dSortD, dDcn, dYes, dRng1]
    refine pick (by omega) (by omega) fun k k0 k6 => ⟨by omega, hP _ ?_⟩
    simp [intsD]; omega
  · rintro i y hi5 σ' ⟨R, x4, x5, A, rfl⟩
    have rl := A.l
    simp only [dSeq, dNext, dRet, dIf, dDrop, dAsg, dgName, dgNil, dgCons, dgTup, dPar, dPar3, dOwn, dApp, dFrz, dVar, dC, dOp, dI, dI0, dB0, dNeg, dTup, dLst, dBoolT, dAndT, dOrT, dNotT, dAndV, dOrV, dNotV, dCall, dCall0, dB, dIsi, dRepr, dAbs, dInt1, dInt2, dAll, dstart, dwipe, clean, Sl.clean, List.map_cons, List.map_nil, List.length_cons, List.length_nil, List.replicate, List.cons_append, List.nil_append, List.set_cons_zero, List.set_cons_succ, List.getElem?_cons_zero, List.getElem?_cons_succ, Nat.reduceAdd, Nat.reduceSub, Nat.add_zero, Nat.zero_add, Nat.add_sub_cancel, Nat.sub_self, atI_0, atI_1, atI_2, atI_3, dLtI, dLeI, dGtI, dGeI, dSub, dFd, dMod, dPow, eAdd_i, eAdd_l, eMul_i, eMul_l, eIx_l, eIx_t, eLen_l, eLen_t, eInt_i, eInt_b, eEq_i, eNe_i, eEq_e, dRaise, dRetX, dTry, dGcd3, dIsB, dChain, dZip, dItT, dItL, dSl, dNoPart, dPart, dChain, dgUnl, dParO, notN_no, notN_t, isN_no, dRev, dParC, dOwnC, dMaxD, dEnum, capD, dLstN, dNGet, dWts, dItN, dHH, dHI, dIH, dMeth, dMeth0, dMake, dIsH, dSortD, dDcn, dYes]
    refine pick (by decide) (by decide) fun k k0 k6 => ?_
    obtain ⟨v, e, hv⟩ := atI_ok (xs := [PyData.int 1, .int (-1), .int 2, .int 1, .int (-3)]) k0 (by simpa using k6)
    have hw : ∃ w : Int, v = .int w ∧ w.natAbs ≤ 3 := by
      simp only [List.mem_cons, List.not_mem_nil, or_false] at hv
      rcases hv with rfl | rfl | rfl | rfl | rfl <;> exact ⟨_, rfl, by decide⟩
    obtain ⟨w, rfl, hw⟩ := hw
    have e' : L2.atI [PyData.int 1, .int (0 - 1), .int 2, .int 1, .int (0 - 3)] k = some (.int w) := e
    rw [eIx_l, e']
    simp only [dSeq, dNext, dRet, dIf, dDrop, dAsg, dgName, dgNil, dgCons, dgTup, dPar, dPar3, dOwn, dApp, dFrz, dVar, dC, dOp, dI, dI0, dB0, dNeg, dTup, dLst, dBoolT, dAndT, dOrT, dNotT, dAndV, dOrV, dNotV, dCall, dCall0, dB, dIsi, dRepr, dAbs, dInt1, dInt2, dAll, dstart, dwipe, clean, Sl.clean, List.map_cons, List.map_nil, List.length_cons, List.length_nil, List.replicate, List.cons_append, List.nil_append, List.set_cons_zero, List.set_cons_succ, List.getElem?_cons_zero, List.getElem?_cons_succ, Nat.reduceAdd, Nat.reduceSub, Nat.add_zero, Nat.zero_add, Nat.add_sub_cancel, Nat.sub_self, atI_0, atI_1, atI_2, atI_3, dLtI, dLeI, dGtI, dGeI, dSub, dFd, dMod, dPow, eAdd_i, eAdd_l, eMul_i, eMul_l, eIx_l, eIx_t, eLen_l, eLen_t, eInt_i, eInt_b, eEq_i, eNe_i, eEq_e, dRaise, dRetX, dTry, dGcd3, dIsB, dChain, dZip, dItT, dItL, dSl, dNoPart, dPart, dChain, dgUnl, dParO, notN_no, notN_t, isN_no, dRev, dParC, dOwnC, dMaxD, dEnum, capD, dLstN, dNGet, dWts, dItN, dHH, dHI, dIH, dMeth, dMeth0, dMake, dIsH, dSortD, dDcn, dYes]
    refine ⟨by rw [List.length_map]; omega, ps, rfl, ne, hl, hb, fun H hx hb2 hl2 => ?_⟩
    refine ⟨R ++ [(H, w)], _, _, ⟨fun r hr => ?_, fun r hr => ?_, by rw [List.length_append]; simp; omega⟩, by rw [List.map_append]; rfl⟩
    · rcases List.mem_append.mp hr with q | q
      · exact A.p r q
      · simp at q; subst q; exact ⟨hx, hb2, hl2⟩
    · rcases List.mem_append.mp hr with q | q
      · exact A.w r q
      · simp at q; subst q; exact hw
  rintro i hi σ' ⟨R, x4, x5, A, rfl⟩
  simp only [dSeq, dNext, dRet, dIf, dDrop, dAsg, dgName, dgNil, dgCons, dgTup, dPar, dPar3, dOwn, dApp, dFrz, dVar, dC, dOp, dI, dI0, dB0, dNeg, dTup, dLst, dBoolT, dAndT, dOrT, dNotT, dAndV, dOrV, dNotV, dCall, dCall0, dB, dIsi, dRepr, dAbs, dInt1, dInt2, dAll, dstart, dwipe, clean, Sl.clean, List.map_cons, List.map_nil, List.length_cons, List.length_nil, List.replicate, List.cons_append, List.nil_append, List.set_cons_zero, List.set_cons_succ, List.getElem?_cons_zero, List.getElem?_cons_succ, Nat.reduceAdd, Nat.reduceSub, Nat.add_zero, Nat.zero_add, Nat.add_sub_cancel, Nat.sub_self, atI_0, atI_1, atI_2, atI_3, dLtI, dLeI, dGtI, dGeI, dSub, dFd, dMod, dPow, eAdd_i, eAdd_l, eMul_i, eMul_l, eIx_l, eIx_t, eLen_l, eLen_t, eInt_i, eInt_b, eEq_i, eNe_i, eEq_e, dRaise, dRetX, dTry, dGcd3, dIsB, dChain, dZip, dItT, dItL, dSl, dNoPart, dPart, dChain, dgUnl, dParO, notN_no, notN_t, isN_no, dRev, dParC, dOwnC, dMaxD, dEnum, capD, dLstN, dNGet, dWts, dItN, dHH, dHI, dIH, dMeth, dMeth0, dMake, dIsH, dSortD, dDcn, dYes]
  exact h R ⟨A.p, A.w, Nat.le_trans A.l hi⟩
theorem ok_m___sub__ (T : Tx K mg base) : MethOk P w K mg base 12 "__sub__" ["self", "other"] spHSub := by
  refine methOk T.m___sub__ sc_m___sub__ bn_m___sub__ (fun f cdv A outer s H hr hg => (pss_dc (psd_if (pdt_not (pdt_val (pd_isH T.hpk T.hpi rfl T.b_isinstance (by decide +kernel) rfl (pd_var 1)))) (pss_d1 (psd_ret pd_no)) pss_d0)
      (pss_d1 (psd_ret (pd_fn (ok_summed T) hr (by decide) hg (pda_cons (pd_addA (pd_meth0 T.hpc T.hpk (ok_m_rows T) hr (by decide) hg (pd_var 0)) (pd_new (pdn_lc (own := [("plate", 2), ("weight", 3)]) rfl sc_m___sub__.nd (pdi_list (pd_meth0 T.hpc T.hpk (ok_m_rows T) hr (by decide) hg (pd_var 1))) (blk (N := N_m___sub__) (sc := defScope s_m___sub__) (by decide +kernel)) (fun _ _ _ _ _ => pg_tup rfl (pgs_cons (pg_name (i := 2) sc_m___sub__.nd rfl (Or.inl rfl)) (pgs_cons (pg_name (i := 3) sc_m___sub__.nd rfl (Or.inl rfl)) pgs_nil))) (lg_tup (lgs_cons (lgs_cons lgs_nil)) (dgl_cons (dgl_cons dgl_nil))) (sets_tup (sets_cons (by decide) (sets_cons (by decide) sets_nil))) (fun _ _ _ _ _ => (pd_tup (pda_cons (pd_var 2) (pda_cons (pd_neg (pd_var 3)) pda_nil))))))) pda_nil)))))) ?_
  rintro ds Qd _ ⟨R, S, rfl, hR, hS, h⟩
  simp only [dSeq, dNext, dRet, dIf, dDrop, dAsg, dgName, dgNil, dgCons, dgTup, dPar, dPar3, dOwn, dApp, dFrz, dVar, dC, dOp, dI, dI0, dB0, dNeg, dTup, dLst, dBoolT, dAndT, dOrT, dNotT, dAndV, dOrV, dNotV, dCall, dCall0, dB, dIsi, dRepr, dAbs, dInt1, dInt2, dAll, dstart, dwipe, clean, Sl.clean, List.map_cons, List.map_nil, List.length_cons, List.length_nil, List.replicate, List.cons_append, List.nil_append, List.set_cons_zero, List.set_cons_succ, List.getElem?_cons_zero, List.getElem?_cons_succ, Nat.reduceAdd, Nat.reduceSub, Nat.add_zero, Nat.zero_add, Nat.add_sub_cancel, Nat.sub_self, atI_0, atI_1, atI_2, atI_3, dLtI, dLeI, dGtI, dGeI, dSub, dFd, dMod, dPow, eAdd_i, eAdd_l, eMul_i, eMul_l, eIx_l, eIx_t, eLen_l, eLen_t, eInt_i, eInt_b, eEq_i, eNe_i, eEq_e, dRaise, dRetX, dTry, dGcd3, dIsB, dChain, dZip, dItT, dItL, dSl, dNoPart, dPart, dChain, dgUnl, dParO, notN_no, notN_t, isN_no, dRev, dParC, dOwnC, dMaxD, dEnum, capD, dLstN, dNGet, dWts, dItN, dHH, dHI, dIH, dMeth, dMeth0, dMake, dIsH, dSortD, dDcn, dYes]
  refine ifF (by simp [isHp_hp]) ?_
  refine ⟨⟨_, rfl⟩, R, rfl, hR.1, Nat.le_trans hR.2.l (by decide), ?_⟩
  have sl : S.length ≤ 2000 := hS.2.l
  refine dLcc_m S rowD (fun r => rowD (r.1, -r.2)) (fun P hP => ?_) (by omega) (fun r hr Q hQ => ?_) ?_
  · simp only [dSeq, dNext, dRet, dIf, dDrop, dAsg, dgName, dgNil, dgCons, dgTup, dPar, dPar3, dOwn, dApp, dFrz, dVar, dC, dOp, dI, dI0, dB0, dNeg, dTup, dLst, dBoolT, dAndT, dOrT, dNotT, dAndV, dOrV, dNotV, dCall, dCall0, dB, dIsi, dRepr, dAbs, dInt1, dInt2, dAll, dstart, dwipe, clean, Sl.clean, List.map_cons, List.map_nil, List.length_cons, List.length_nil, List.replicate, List.cons_append, List.nil_append, List.set_cons_zero, List.set_cons_succ, List.getElem?_cons_zero, List.getElem?_cons_succ, Nat.reduceAdd, Nat.reduceSub, Nat.add_zero, Nat.zero_add, Nat.add_sub_cancel, Nat.sub_self, atI_0, atI_1, atI_2, atI_3, dLtI, dLeI, dGtI, dGeI, dSub, dFd, dMod, dPow, eAdd_i, eAdd_l, eMul_i, eMul_l, eIx_l, eIx_t, eLen_l, eLen_t, eInt_i, eInt_b, eEq_i, eNe_i, eEq_e, dRaise, dRetX, dTry, dGcd3, dIsB, dChain, dZip, dItT, dItL, dSl, dNoPart, dPart, dChain, dgUnl, dParO, notN_no, notN_t, isN_no, dRev, dParC, dOwnC, dMaxD, dEnum, capD, dLstN, dNGet, dWts, dItN, dHH, dHI, dIH, dMeth, dMeth0, dMake, dIsH, dSortD, dDcn, dYes, dItL]
    exact ⟨⟨_, rfl⟩, S, rfl, hS.1, by omega, hP⟩
  · simp only [dSeq, dNext, dRet, dIf, dDrop, dAsg, dgName, dgNil, dgCons, dgTup, dPar, dPar3, dOwn, dApp, dFrz, dVar, dC, dOp, dI, dI0, dB0, dNeg, dTup, dLst, dBoolT, dAndT, dOrT, dNotT, dAndV, dOrV, dNotV, dCall, dCall0, dB, dIsi, dRepr, dAbs, dInt1, dInt2, dAll, dstart, dwipe, clean, Sl.clean, List.map_cons, List.map_nil, List.length_cons, List.length_nil, List.replicate, List.cons_append, List.nil_append, List.set_cons_zero, List.set_cons_succ, List.getElem?_cons_zero, List.getElem?_cons_succ, Nat.reduceAdd, Nat.reduceSub, Nat.add_zero, Nat.zero_add, Nat.add_sub_cancel, Nat.sub_self, atI_0, atI_1, atI_2, atI_3, dLtI, dLeI, dGtI, dGeI, dSub, dFd, dMod, dPow, eAdd_i, eAdd_l, eMul_i, eMul_l, eIx_l, eIx_t, eLen_l, eLen_t, eInt_i, eInt_b, eEq_i, eNe_i, eEq_e, dRaise, dRetX, dTry, dGcd3, dIsB, dChain, dZip, dItT, dItL, dSl, dNoPart, dPart, dChain, dgUnl, dParO, notN_no, notN_t, isN_no, dRev, dParC, dOwnC, dMaxD, dEnum, capD, dLstN, dNGet, dWts, dItN, dHH, dHI, dIH, dMeth, dMeth0, dMake, dIsH, dSortD, dDcn, dYes]
    exact hQ
  · have e : (S.map fun r => rowD (r.1, -r.2)) = (negT S).map rowD := by unfold negT; rw [List.map_map]; rfl
    rw [e]
    change _ ∧ _
    refine ⟨by have := hR.2.l; have := hS.2.neg.l; simp; omega, ?_⟩
    rw [← List.map_append]
    exact spSumd_c ((hR.2.app hS.2.neg).mono (Nat.le_refl _) (by decide)) h
theorem ok_m___mul__ (T : Tx K mg base) : MethOk P w K mg base 12 "__mul__" ["self", "n"] spHMul := by
  refine methOk T.m___mul__ sc_m___mul__ bn_m___mul__ (fun f cdv A outer s H hr hg => (pss_dc (psd_if (pdt_not (pdt_val (pd_fn (ok_is_number T) hr (by decide) hg (pda_cons (pd_var 1) pda_nil)))) (pss_d1 (psd_ret pd_no)) pss_d0)
      (pss_d1 (psd_ret (pd_fn (ok_summed T) hr (by decide) hg (pda_cons (pd_new (pdn_lc (own := [("plate", 2), ("weight", 3)]) rfl sc_m___mul__.nd (pdi_list (pd_meth0 T.hpc T.hpk (ok_m_rows T) hr (by decide) hg (pd_var 0))) (blk (N := N_m___mul__) (sc := defScope s_m___mul__) (by decide +kernel)) (fun _ _ _ _ _ => pg_tup rfl (pgs_cons (pg_name (i := 2) sc_m___mul__.nd rfl (Or.inl rfl)) (pgs_cons (pg_name (i := 3) sc_m___mul__.nd rfl (Or.inl rfl)) pgs_nil))) (lg_tup (lgs_cons (lgs_cons lgs_nil)) (dgl_cons (dgl_cons dgl_nil))) (sets_tup (sets_cons (by decide) (sets_cons (by decide) sets_nil))) (fun _ _ _ _ _ => (pd_tup (pda_cons (pd_var 2) (pda_cons (pd_mulA (pd_var 1) (pd_var 3)) pda_nil)))))) pda_nil)))))) ?_
  rintro ds Qd _ ⟨R, n, rfl, hR, ⟨k, hk, bn, br⟩, h⟩
  simp only [dSeq, dNext, dRet, dIf, dDrop, dAsg, dgName, dgNil, dgCons, dgTup, dPar, dPar3, dOwn, dApp, dFrz, dVar, dC, dOp, dI, dI0, dB0, dNeg, dTup, dLst, dBoolT, dAndT, dOrT, dNotT, dAndV, dOrV, dNotV, dCall, dCall0, dB, dIsi, dRepr, dAbs, dInt1, dInt2, dAll, dstart, dwipe, clean, Sl.clean, List.map_cons, List.map_nil, List.length_cons, List.length_nil, List.replicate, List.cons_append, List.nil_append, List.set_cons_zero, List.set_cons_succ, List.getElem?_cons_zero, List.getElem?_cons_succ, Nat.reduceAdd, Nat.reduceSub, Nat.add_zero, Nat.zero_add, Nat.add_sub_cancel, Nat.sub_self, atI_0, atI_1, atI_2, atI_3, dLtI, dLeI, dGtI, dGeI, dSub, dFd, dMod, dPow, eAdd_i, eAdd_l, eMul_i, eMul_l, eIx_l, eIx_t, eLen_l, eLen_t, eInt_i, eInt_b, eEq_i, eNe_i, eEq_e, dRaise, dRetX, dTry, dGcd3, dIsB, dChain, dZip, dItT, dItL, dSl, dNoPart, dPart, dChain, dgUnl, dParO, notN_no, notN_t, isN_no, dRev, dParC, dOwnC, dMaxD, dEnum, capD, dLstN, dNGet, dWts, dItN, dHH, dHI, dIH, dMeth, dMeth0, dMake, dIsH, dSortD, dDcn, dYes]
  refine ⟨.int n, rfl, ?_⟩
  change if (!true) = true then False else _
  refine ifF (by simp) ?_
  have sl : R.length ≤ 5000 := hR.2.l
  refine dLcc_m R rowD (fun r => rowD (r.1, n * r.2)) (fun P hP => ?_) (by omega) (fun r hr Q hQ => ?_) ?_
  · simp only [dSeq, dNext, dRet, dIf, dDrop, dAsg, dgName, dgNil, dgCons, dgTup, dPar, dPar3, dOwn, dApp, dFrz, dVar, dC, dOp, dI, dI0, dB0, dNeg, dTup, dLst, dBoolT, dAndT, dOrT, dNotT, dAndV, dOrV, dNotV, dCall, dCall0, dB, dIsi, dRepr, dAbs, dInt1, dInt2, dAll, dstart, dwipe, clean, Sl.clean, List.map_cons, List.map_nil, List.length_cons, List.length_nil, List.replicate, List.cons_append, List.nil_append, List.set_cons_zero, List.set_cons_succ, List.getElem?_cons_zero, List.getElem?_cons_succ, Nat.reduceAdd, Nat.reduceSub, Nat.add_zero, Nat.zero_add, Nat.add_sub_cancel, Nat.sub_self, atI_0, atI_1, atI_2, atI_3, dLtI, dLeI, dGtI, dGeI, dSub, dFd, dMod, dPow, eAdd_i, eAdd_l, eMul_i, eMul_l, eIx_l, eIx_t, eLen_l, eLen_t, eInt_i, eInt_b, eEq_i, eNe_i, eEq_e, dRaise, dRetX, dTry, dGcd3, dIsB, dChain, dZip, dItT, dItL, dSl, dNoPart, dPart, dChain, dgUnl, dParO, notN_no, notN_t, isN_no, dRev, dParC, dOwnC, dMaxD, dEnum, capD, dLstN, dNGet, dWts, dItN, dHH, dHI, dIH, dMeth, dMeth0, dMake, dIsH, dSortD, dDcn, dYes, dItL]
    exact ⟨⟨_, rfl⟩, R, rfl, hR.1, by omega, hP⟩
  · simp only [dSeq, dNext, dRet, dIf, dDrop, dAsg, dgName, dgNil, dgCons, dgTup, dPar, dPar3, dOwn, dApp, dFrz, dVar, dC, dOp, dI, dI0, dB0, dNeg, dTup, dLst, dBoolT, dAndT, dOrT, dNotT, dAndV, dOrV, dNotV, dCall, dCall0, dB, dIsi, dRepr, dAbs, dInt1, dInt2, dAll, dstart, dwipe, clean, Sl.clean, List.map_cons, List.map_nil, List.length_cons, List.length_nil, List.replicate, List.cons_append, List.nil_append, List.set_cons_zero, List.set_cons_succ, List.getElem?_cons_zero, List.getElem?_cons_succ, Nat.reduceAdd, Nat.reduceSub, Nat.add_zero, Nat.zero_add, Nat.add_sub_cancel, Nat.sub_self, atI_0, atI_1, atI_2, atI_3, dLtI, dLeI, dGtI, dGeI, dSub, dFd, dMod, dPow, eAdd_i, eAdd_l, eMul_i, eMul_l, eIx_l, eIx_t, eLen_l, eLen_t, eInt_i, eInt_b, eEq_i, eNe_i, eEq_e, dRaise, dRetX, dTry, dGcd3, dIsB, dChain, dZip, dItT, dItL, dSl, dNoPart, dPart, dChain, dgUnl, dParO, notN_no, notN_t, isN_no, dRev, dParC, dOwnC, dMaxD, dEnum, capD, dLstN, dNGet, dWts, dItN, dHH, dHI, dIH, dMeth, dMeth0, dMake, dIsH, dSortD, dDcn, dYes]
    exact ⟨cmb bn (br r hr) (by omega), hQ⟩
  · have e : (R.map fun r => rowD (r.1, n * r.2)) = (mulT n R).map rowD := by unfold mulT; rw [List.map_map]; rfl
    rw [e]
    exact spSumd_c (hR.2.mul n) h
theorem ok_m___rmul__ (T : Tx K mg base) : MethOk P w K mg base 13 "__rmul__" ["self", "n"] spHMul := by
  refine methOk T.m___rmul__ sc_m___rmul__ bn_m___rmul__ (fun f cdv A outer s H hr hg => (pss_d1 (psd_ret (pd_hi T.hpo hr (by decide) hg (pd_var 0) (pd_var 1) (ok_m___mul__ T) T.m___rmul__.m)))) ?_
  rintro ds Qd _ ⟨R, n, rfl, hR, hb, h⟩
  simp only [dSeq, dNext, dRet, dIf, dDrop, dAsg, dgName, dgNil, dgCons, dgTup, dPar, dPar3, dOwn, dApp, dFrz, dVar, dC, dOp, dI, dI0, dB0, dNeg, dTup, dLst, dBoolT, dAndT, dOrT, dNotT, dAndV, dOrV, dNotV, dCall, dCall0, dB, dIsi, dRepr, dAbs, dInt1, dInt2, dAll, dstart, dwipe, clean, Sl.clean, List.map_cons, List.map_nil, List.length_cons, List.length_nil, List.replicate, List.cons_append, List.nil_append, List.set_cons_zero, List.set_cons_succ, List.getElem?_cons_zero, List.getElem?_cons_succ, Nat.reduceAdd, Nat.reduceSub, Nat.add_zero, Nat.zero_add, Nat.add_sub_cancel, Nat.sub_self, atI_0, atI_1, atI_2, atI_3, dLtI, dLeI, dGtI, dGeI, dSub, dFd, dMod, dPow, eAdd_i, eAdd_l, eMul_i, eMul_l, eIx_l, eIx_t, eLen_l, eLen_t, eInt_i, eInt_b, eEq_i, eNe_i, eEq_e, dRaise, dRetX, dTry, dGcd3, dIsB, dChain, dZip, dItT, dItL, dSl, dNoPart, dPart, dChain, dgUnl, dParO, notN_no, notN_t, isN_no, dRev, dParC, dOwnC, dMaxD, dEnum, capD, dLstN, dNGet, dWts, dItN, dHH, dHI, dIH, dMeth, dMeth0, dMake, dIsH, dSortD, dDcn, dYes]
  exact ⟨⟨_, _, rfl, rfl⟩, R, n, rfl, hR, hb, h⟩
theorem ok_m___add__ (T : Tx K mg base) : MethOk P w K mg base 12 "__add__" ["self", "other"] spHAdd := by
  refine methOk T.m___add__ sc_m___add__ bn_m___add__ (fun f cdv A outer s H hr hg => (pss_dc (psd_if (pdt_not (pdt_val (pd_isH T.hpk T.hpi rfl T.b_isinstance (by decide +kernel) rfl (pd_var 1)))) (pss_d1 (psd_ret pd_no)) pss_d0)
      (pss_d1 (psd_ret (pd_fn (ok_summed T) hr (by decide) hg (pda_cons (pd_addA (pd_meth0 T.hpc T.hpk (ok_m_rows T) hr (by decide) hg (pd_var 0)) (pd_meth0 T.hpc T.hpk (ok_m_rows T) hr (by decide) hg (pd_var 1))) pda_nil)))))) ?_
  rintro ds Qd _ ⟨R, S, rfl, hR, hS, h⟩
  simp only [dSeq, dNext, dRet, dIf, dDrop, dAsg, dgName, dgNil, dgCons, dgTup, dPar, dPar3, dOwn, dApp, dFrz, dVar, dC, dOp, dI, dI0, dB0, dNeg, dTup, dLst, dBoolT, dAndT, dOrT, dNotT, dAndV, dOrV, dNotV, dCall, dCall0, dB, dIsi, dRepr, dAbs, dInt1, dInt2, dAll, dstart, dwipe, clean, Sl.clean, List.map_cons, List.map_nil, List.length_cons, List.length_nil, List.replicate, List.cons_append, List.nil_append, List.set_cons_zero, List.set_cons_succ, List.getElem?_cons_zero, List.getElem?_cons_succ, Nat.reduceAdd, Nat.reduceSub, Nat.add_zero, Nat.zero_add, Nat.add_sub_cancel, Nat.sub_self, atI_0, atI_1, atI_2, atI_3, dLtI, dLeI, dGtI, dGeI, dSub, dFd, dMod, dPow, eAdd_i, eAdd_l, eMul_i, eMul_l, eIx_l, eIx_t, eLen_l, eLen_t, eInt_i, eInt_b, eEq_i, eNe_i, eEq_e, dRaise, dRetX, dTry, dGcd3, dIsB, dChain, dZip, dItT, dItL, dSl, dNoPart, dPart, dChain, dgUnl, dParO, notN_no, notN_t, isN_no, dRev, dParC, dOwnC, dMaxD, dEnum, capD, dLstN, dNGet, dWts, dItN, dHH, dHI, dIH, dMeth, dMeth0, dMake, dIsH, dSortD, dDcn, dYes]
  refine ifF (by simp [isHp_hp]) ?_
  refine ⟨⟨_, rfl⟩, R, rfl, hR.1, Nat.le_trans hR.2.l (by decide), ⟨_, rfl⟩, S, rfl, hS.1, Nat.le_trans hS.2.l (by decide), ?_⟩
  change _ ∧ _
  refine ⟨by have := hR.2.l; have := hS.2.l; simp; omega, ?_⟩
  rw [← List.map_append]
  exact spSumd_c ((hR.2.app hS.2).mono (Nat.le_refl _) (by decide)) h
theorem ok_l_heap (T : Tx K mg base) : DefOk P w K mg base 14 "_law_heap" ["_law_source", "_law_rows"] spLHeap := by
  refine defOk T.f_l_heap sc_l_heap bn_l_heap (fun f cdv A outer s H hr hg => (pss_dc (psd_par (i := 2) (j := 3) rfl sc_l_heap.nd rfl rfl (by decide) rfl rfl (pda_cons (pd_makeH T.hpm (ok_m___init__ T) hr (by decide) hg (pd_fn (ok_l_any_order T) hr (by decide) hg (pda_cons (pd_var 0) (pda_cons (pd_var 1) pda_nil)))) (pda_cons (pd_fn (ok_l_pick T) hr (by decide) hg (pda_cons (pd_var 0) (pda_cons pd_int pda_nil))) pda_nil)) rfl)
      (pss_dc (psd_if (pdt_eq hr.units (pd_var 3) pd_int) (pss_dc (psd_set (i := 4) sc_l_heap.nd rfl (Or.inl rfl) (pd_makeH T.hpm (ok_m___init__ T) hr (by decide) hg (pd_lst (pda_cons (pd_tup (pda_cons (pd_tup (pda_cons (pd_tup (pda_cons pd_int (pda_cons pd_int (pda_cons pd_int pda_nil)))) (pda_cons (pd_tup (pda_cons pd_int (pda_cons pd_int (pda_cons pd_int pda_nil)))) pda_nil))) (pda_cons pd_int pda_nil))) (pda_cons (pd_tup (pda_cons (pd_tup (pda_cons (pd_tup (pda_cons pd_int (pda_cons pd_int (pda_cons pd_int pda_nil)))) pda_nil)) (pda_cons (pd_sub pd_int pd_int) pda_nil))) pda_nil)))))
      (pss_d1 (psd_ret (pd_hh T.hpo hr (by decide) hg (pd_hh T.hpo hr (by decide) hg (pd_var 2) (pd_var 4) (ok_m___add__ T)) (pd_var 4) (ok_m___sub__ T))))) pss_d0)
      (pss_dc (psd_if (pdt_eq hr.units (pd_var 3) pd_int) (pss_d1 (psd_ret (pd_ih T.hpo hr (by decide) hg (pd_sub pd_int pd_int) (pd_ih T.hpo hr (by decide) hg (pd_sub pd_int pd_int) (pd_var 2) (ok_m___rmul__ T) T.m___mul__.m) (ok_m___rmul__ T) T.m___mul__.m))) pss_d0)
      (pss_d1 (psd_ret (pd_ifexp (pdt_eq hr.units (pd_var 3) pd_int) (pd_hh T.hpo hr (by decide) hg (pd_makeH T.hpm (ok_m___init__ T) hr (by decide) hg (pd_lst pda_nil)) (pd_hh T.hpo hr (by decide) hg (pd_makeH T.hpm (ok_m___init__ T) hr (by decide) hg (pd_lst pda_nil)) (pd_var 2) (ok_m___sub__ T)) (ok_m___sub__ T)) (pd_var 2)))))))) ?_
  rintro ds Qd _ ⟨R, rfl, hR, h⟩
  have lR := hR.l
  show dSeq _ _ _ [.val SRC, .val (.list (R.map rowD)), .emp, .emp, .emp]
  refine dSeq_g (fun σ => ∃ (k : Int), σ = [.val SRC, .val (.list (R.map rowD)), .val (hpT (addT R)), .val (.int k), .emp]) ?_ ?_
  · intro N hN
    simp only [dSeq, dNext, dRet, dIf, dDrop, dAsg, dgName, dgNil, dgCons, dgTup, dPar, dPar3, dOwn, dApp, dFrz, dVar, dC, dOp, dI, dI0, dB0, dNeg, dTup, dLst, dBoolT, dAndT, dOrT, dNotT, dAndV, dOrV, dNotV, dCall, dCall0, dB, dIsi, dRepr, dAbs, dInt1, dInt2, dAll, dstart, dwipe, clean, Sl.clean, List.map_cons, List.map_nil, List.length_cons, List.length_nil, List.replicate, List.cons_append, List.nil_append, List.set_cons_zero, List.set_cons_succ, List.getElem?_cons_zero, List.getElem?_cons_succ, Nat.reduceAdd, Nat.reduceSub, Nat.add_zero, Nat.zero_add, Nat.add_sub_cancel, Nat.sub_self, atI_0, atI_1, atI_2, atI_3, dLtI, dLeI, dGtI, dGeI, dSub, dFd, dMod, dPow, eAdd_i, eAdd_l, eMul_i, eMul_l, eIx_l, eIx_t, eLen_l, eLen_t, eInt_i, eInt_b, eEq_i, eNe_i, eEq_e, dRaise, dRetX, dTry, dGcd3, dIsB, dChain, dZip, dItT, dItL, dSl, dNoPart, dPart, dChain, dgUnl, dParO, notN_no, notN_t, isN_no, dRev, dParC, dOwnC, dMaxD, dEnum, capD, dLstN, dNGet, dWts, dItN, dHH, dHI, dIH, dMeth, dMeth0, dMake, dIsH, dSortD, dDcn, dYes, dHE, dLenH, dOwnG]
    refine ⟨true, R.map rowD, rfl, by rw [List.length_map]; omega, fun ys hp => ?_⟩
    obtain ⟨S, rfl, hS⟩ := perm_rows hp
    refine ⟨nkR S, .inl (by rw [nkR_rows]), ⟨S, rfl, (hR.perm hS).ok (by decide)⟩, ?_⟩
    rw [awh_nk, addT_perm hS]
    exact pick (by decide) (by decide) fun k k0 k5 => hN _ ⟨k, rfl⟩
  rintro σ2 ⟨k, rfl⟩
  have oR : ROk KB 900 R := hR.ok (by decide)
  have oM : ROk KB 900 MORE := MORE_ok.mono (by decide) (by decide)
  have wR : ∀ r ∈ addT R, Bd 200 r.2 := fun r hr => bd_of_le (c := 150) (Nat.le_trans (addT_bd hR.w r hr) (Nat.mul_le_mul_left 3 lR)) (by decide)
  have wN : ∀ r ∈ addT (mulT (-1) R), Bd 200 r.2 := fun r hr => bd_of_le (c := 150) (Nat.le_trans (addT_bd (c := 3) (fun s hs => by
    obtain ⟨t, ht, rfl⟩ := List.mem_map.mp hs
    have := hR.w t ht
    show (-1 * t.2).natAbs ≤ 3
    omega) r hr) (by unfold mulT; rw [List.length_map]; omega)) (by decide)
  have oN : ROk KB 900 (mulT (-1) R) := oR.mul _
  have oE : ROk KB 900 ([] ++ negT R) := oR.neg
  have e0 : awh [] = nkR (addT []) := awh_nk []
  by_cases k0 : k = 0
  · subst k0
    refine dIf_k true (fun _ => False) (fun R' hR' => ?_) (fun _ N _ => ?_) (fun z => nomatch z) (fun _ z => z.elim)
    · simp only [dSeq, dNext, dRet, dIf, dDrop, dAsg, dgName, dgNil, dgCons, dgTup, dPar, dPar3, dOwn, dApp, dFrz, dVar, dC, dOp, dI, dI0, dB0, dNeg, dTup, dLst, dBoolT, dAndT, dOrT, dNotT, dAndV, dOrV, dNotV, dCall, dCall0, dB, dIsi, dRepr, dAbs, dInt1, dInt2, dAll, dstart, dwipe, clean, Sl.clean, List.map_cons, List.map_nil, List.length_cons, List.length_nil, List.replicate, List.cons_append, List.nil_append, List.set_cons_zero, List.set_cons_succ, List.getElem?_cons_zero, List.getElem?_cons_succ, Nat.reduceAdd, Nat.reduceSub, Nat.add_zero, Nat.zero_add, Nat.add_sub_cancel, Nat.sub_self, atI_0, atI_1, atI_2, atI_3, dLtI, dLeI, dGtI, dGeI, dSub, dFd, dMod, dPow, eAdd_i, eAdd_l, eMul_i, eMul_l, eIx_l, eIx_t, eLen_l, eLen_t, eInt_i, eInt_b, eEq_i, eNe_i, eEq_e, dRaise, dRetX, dTry, dGcd3, dIsB, dChain, dZip, dItT, dItL, dSl, dNoPart, dPart, dChain, dgUnl, dParO, notN_no, notN_t, isN_no, dRev, dParC, dOwnC, dMaxD, dEnum, capD, dLstN, dNGet, dWts, dItN, dHH, dHI, dIH, dMeth, dMeth0, dMake, dIsH, dSortD, dDcn, dYes, dHE, dLenH, dOwnG]
      exact hR'
    · show dSeq _ _ _ _
      simp only [dSeq, dNext, dRet, dIf, dDrop, dAsg, dgName, dgNil, dgCons, dgTup, dPar, dPar3, dOwn, dApp, dFrz, dVar, dC, dOp, dI, dI0, dB0, dNeg, dTup, dLst, dBoolT, dAndT, dOrT, dNotT, dAndV, dOrV, dNotV, dCall, dCall0, dB, dIsi, dRepr, dAbs, dInt1, dInt2, dAll, dstart, dwipe, clean, Sl.clean, List.map_cons, List.map_nil, List.length_cons, List.length_nil, List.replicate, List.cons_append, List.nil_append, List.set_cons_zero, List.set_cons_succ, List.getElem?_cons_zero, List.getElem?_cons_succ, Nat.reduceAdd, Nat.reduceSub, Nat.add_zero, Nat.zero_add, Nat.add_sub_cancel, Nat.sub_self, atI_0, atI_1, atI_2, atI_3, dLtI, dLeI, dGtI, dGeI, dSub, dFd, dMod, dPow, eAdd_i, eAdd_l, eMul_i, eMul_l, eIx_l, eIx_t, eLen_l, eLen_t, eInt_i, eInt_b, eEq_i, eNe_i, eEq_e, dRaise, dRetX, dTry, dGcd3, dIsB, dChain, dZip, dItT, dItL, dSl, dNoPart, dPart, dChain, dgUnl, dParO, notN_no, notN_t, isN_no, dRev, dParC, dOwnC, dMaxD, dEnum, capD, dLstN, dNGet, dWts, dItN, dHH, dHI, dIH, dMeth, dMeth0, dMake, dIsH, dSortD, dDcn, dYes, dHE, dLenH, dOwnG]
      refine ⟨nkR MORE, .inl (by rw [nkR_rows]; rfl), ⟨MORE, rfl, MORE_ok.mono (by decide) (by decide)⟩, ?_⟩
      rw [awh_nk]
      refine z_add_c oR oM (z_sub_c (((hR.ok (show 50 ≤ 50 by decide)).app (MORE_ok.mono (show 24 ≤ KB by decide) (Nat.le_refl 2))).mono (Nat.le_refl _) (by decide)) oM ?_)
      rw [addT_back]
      exact h
  refine dIf_no (fun R' hR' => ?_) ?_
  · simp only [dSeq, dNext, dRet, dIf, dDrop, dAsg, dgName, dgNil, dgCons, dgTup, dPar, dPar3, dOwn, dApp, dFrz, dVar, dC, dOp, dI, dI0, dB0, dNeg, dTup, dLst, dBoolT, dAndT, dOrT, dNotT, dAndV, dOrV, dNotV, dCall, dCall0, dB, dIsi, dRepr, dAbs, dInt1, dInt2, dAll, dstart, dwipe, clean, Sl.clean, List.map_cons, List.map_nil, List.length_cons, List.length_nil, List.replicate, List.cons_append, List.nil_append, List.set_cons_zero, List.set_cons_succ, List.getElem?_cons_zero, List.getElem?_cons_succ, Nat.reduceAdd, Nat.reduceSub, Nat.add_zero, Nat.zero_add, Nat.add_sub_cancel, Nat.sub_self, atI_0, atI_1, atI_2, atI_3, dLtI, dLeI, dGtI, dGeI, dSub, dFd, dMod, dPow, eAdd_i, eAdd_l, eMul_i, eMul_l, eIx_l, eIx_t, eLen_l, eLen_t, eInt_i, eInt_b, eEq_i, eNe_i, eEq_e, dRaise, dRetX, dTry, dGcd3, dIsB, dChain, dZip, dItT, dItL, dSl, dNoPart, dPart, dChain, dgUnl, dParO, notN_no, notN_t, isN_no, dRev, dParC, dOwnC, dMaxD, dEnum, capD, dLstN, dNGet, dWts, dItN, dHH, dHI, dIH, dMeth, dMeth0, dMake, dIsH, dSortD, dDcn, dYes, dHE, dLenH, dOwnG]
    rw [decide_eq_false k0]
    exact hR'
  by_cases k1 : k = 1
  · subst k1
    refine dIf_k true (fun _ => False) (fun R' hR' => ?_) (fun _ N _ => ?_) (fun z => nomatch z) (fun _ z => z.elim)
    · simp only [dSeq, dNext, dRet, dIf, dDrop, dAsg, dgName, dgNil, dgCons, dgTup, dPar, dPar3, dOwn, dApp, dFrz, dVar, dC, dOp, dI, dI0, dB0, dNeg, dTup, dLst, dBoolT, dAndT, dOrT, dNotT, dAndV, dOrV, dNotV, dCall, dCall0, dB, dIsi, dRepr, dAbs, dInt1, dInt2, dAll, dstart, dwipe, clean, Sl.clean, List.map_cons, List.map_nil, List.length_cons, List.length_nil, List.replicate, List.cons_append, List.nil_append, List.set_cons_zero, List.set_cons_succ, List.getElem?_cons_zero, List.getElem?_cons_succ, Nat.reduceAdd, Nat.reduceSub, Nat.add_zero, Nat.zero_add, Nat.add_sub_cancel, Nat.sub_self, atI_0, atI_1, atI_2, atI_3, dLtI, dLeI, dGtI, dGeI, dSub, dFd, dMod, dPow, eAdd_i, eAdd_l, eMul_i, eMul_l, eIx_l, eIx_t, eLen_l, eLen_t, eInt_i, eInt_b, eEq_i, eNe_i, eEq_e, dRaise, dRetX, dTry, dGcd3, dIsB, dChain, dZip, dItT, dItL, dSl, dNoPart, dPart, dChain, dgUnl, dParO, notN_no, notN_t, isN_no, dRev, dParC, dOwnC, dMaxD, dEnum, capD, dLstN, dNGet, dWts, dItN, dHH, dHI, dIH, dMeth, dMeth0, dMake, dIsH, dSortD, dDcn, dYes, dHE, dLenH, dOwnG]
      exact hR'
    · simp only [dSeq, dNext, dRet, dIf, dDrop, dAsg, dgName, dgNil, dgCons, dgTup, dPar, dPar3, dOwn, dApp, dFrz, dVar, dC, dOp, dI, dI0, dB0, dNeg, dTup, dLst, dBoolT, dAndT, dOrT, dNotT, dAndV, dOrV, dNotV, dCall, dCall0, dB, dIsi, dRepr, dAbs, dInt1, dInt2, dAll, dstart, dwipe, clean, Sl.clean, List.map_cons, List.map_nil, List.length_cons, List.length_nil, List.replicate, List.cons_append, List.nil_append, List.set_cons_zero, List.set_cons_succ, List.getElem?_cons_zero, List.getElem?_cons_succ, Nat.reduceAdd, Nat.reduceSub, Nat.add_zero, Nat.zero_add, Nat.add_sub_cancel, Nat.sub_self, atI_0, atI_1, atI_2, atI_3, dLtI, dLeI, dGtI, dGeI, dSub, dFd, dMod, dPow, eAdd_i, eAdd_l, eMul_i, eMul_l, eIx_l, eIx_t, eLen_l, eLen_t, eInt_i, eInt_b, eEq_i, eNe_i, eEq_e, dRaise, dRetX, dTry, dGcd3, dIsB, dChain, dZip, dItT, dItL, dSl, dNoPart, dPart, dChain, dgUnl, dParO, notN_no, notN_t, isN_no, dRev, dParC, dOwnC, dMaxD, dEnum, capD, dLstN, dNGet, dWts, dItN, dHH, dHI, dIH, dMeth, dMeth0, dMake, dIsH, dSortD, dDcn, dYes, dHE, dLenH, dOwnG]
      refine z_ih_c (n := -1) oR ⟨by decide⟩ wR (z_ih_c (n := -1) oN ⟨by decide⟩ wN ?_)
      rw [addT_neg2]
      exact h
  refine dIf_no (fun R' hR' => ?_) ?_
  · simp only [dSeq, dNext, dRet, dIf, dDrop, dAsg, dgName, dgNil, dgCons, dgTup, dPar, dPar3, dOwn, dApp, dFrz, dVar, dC, dOp, dI, dI0, dB0, dNeg, dTup, dLst, dBoolT, dAndT, dOrT, dNotT, dAndV, dOrV, dNotV, dCall, dCall0, dB, dIsi, dRepr, dAbs, dInt1, dInt2, dAll, dstart, dwipe, clean, Sl.clean, List.map_cons, List.map_nil, List.length_cons, List.length_nil, List.replicate, List.cons_append, List.nil_append, List.set_cons_zero, List.set_cons_succ, List.getElem?_cons_zero, List.getElem?_cons_succ, Nat.reduceAdd, Nat.reduceSub, Nat.add_zero, Nat.zero_add, Nat.add_sub_cancel, Nat.sub_self, atI_0, atI_1, atI_2, atI_3, dLtI, dLeI, dGtI, dGeI, dSub, dFd, dMod, dPow, eAdd_i, eAdd_l, eMul_i, eMul_l, eIx_l, eIx_t, eLen_l, eLen_t, eInt_i, eInt_b, eEq_i, eNe_i, eEq_e, dRaise, dRetX, dTry, dGcd3, dIsB, dChain, dZip, dItT, dItL, dSl, dNoPart, dPart, dChain, dgUnl, dParO, notN_no, notN_t, isN_no, dRev, dParC, dOwnC, dMaxD, dEnum, capD, dLstN, dNGet, dWts, dItN, dHH, dHI, dIH, dMeth, dMeth0, dMake, dIsH, dSortD, dDcn, dYes, dHE, dLenH, dOwnG]
    rw [decide_eq_false k1]
    exact hR'
  refine dIfE_k (decide (k = 2)) (fun d => d = hpT (addT R)) (fun R' hR' => ?_) (fun _ P hP => ?_) (fun _ P hP => ?_) (fun d hd => ?_)
  · simp only [dSeq, dNext, dRet, dIf, dDrop, dAsg, dgName, dgNil, dgCons, dgTup, dPar, dPar3, dOwn, dApp, dFrz, dVar, dC, dOp, dI, dI0, dB0, dNeg, dTup, dLst, dBoolT, dAndT, dOrT, dNotT, dAndV, dOrV, dNotV, dCall, dCall0, dB, dIsi, dRepr, dAbs, dInt1, dInt2, dAll, dstart, dwipe, clean, Sl.clean, List.map_cons, List.map_nil, List.length_cons, List.length_nil, List.replicate, List.cons_append, List.nil_append, List.set_cons_zero, List.set_cons_succ, List.getElem?_cons_zero, List.getElem?_cons_succ, Nat.reduceAdd, Nat.reduceSub, Nat.add_zero, Nat.zero_add, Nat.add_sub_cancel, Nat.sub_self, atI_0, atI_1, atI_2, atI_3, dLtI, dLeI, dGtI, dGeI, dSub, dFd, dMod, dPow, eAdd_i, eAdd_l, eMul_i, eMul_l, eIx_l, eIx_t, eLen_l, eLen_t, eInt_i, eInt_b, eEq_i, eNe_i, eEq_e, dRaise, dRetX, dTry, dGcd3, dIsB, dChain, dZip, dItT, dItL, dSl, dNoPart, dPart, dChain, dgUnl, dParO, notN_no, notN_t, isN_no, dRev, dParC, dOwnC, dMaxD, dEnum, capD, dLstN, dNGet, dWts, dItN, dHH, dHI, dIH, dMeth, dMeth0, dMake, dIsH, dSortD, dDcn, dYes, dHE, dLenH, dOwnG]
    exact hR'
  · simp only [dSeq, dNext, dRet, dIf, dDrop, dAsg, dgName, dgNil, dgCons, dgTup, dPar, dPar3, dOwn, dApp, dFrz, dVar, dC, dOp, dI, dI0, dB0, dNeg, dTup, dLst, dBoolT, dAndT, dOrT, dNotT, dAndV, dOrV, dNotV, dCall, dCall0, dB, dIsi, dRepr, dAbs, dInt1, dInt2, dAll, dstart, dwipe, clean, Sl.clean, List.map_cons, List.map_nil, List.length_cons, List.length_nil, List.replicate, List.cons_append, List.nil_append, List.set_cons_zero, List.set_cons_succ, List.getElem?_cons_zero, List.getElem?_cons_succ, Nat.reduceAdd, Nat.reduceSub, Nat.add_zero, Nat.zero_add, Nat.add_sub_cancel, Nat.sub_self, atI_0, atI_1, atI_2, atI_3, dLtI, dLeI, dGtI, dGeI, dSub, dFd, dMod, dPow, eAdd_i, eAdd_l, eMul_i, eMul_l, eIx_l, eIx_t, eLen_l, eLen_t, eInt_i, eInt_b, eEq_i, eNe_i, eEq_e, dRaise, dRetX, dTry, dGcd3, dIsB, dChain, dZip, dItT, dItL, dSl, dNoPart, dPart, dChain, dgUnl, dParO, notN_no, notN_t, isN_no, dRev, dParC, dOwnC, dMaxD, dEnum, capD, dLstN, dNGet, dWts, dItN, dHH, dHI, dIH, dMeth, dMeth0, dMake, dIsH, dSortD, dDcn, dYes, dHE, dLenH, dOwnG]
    refine ⟨[], .inl rfl, OKh.nil, [], .inl rfl, OKh.nil, ?_⟩
    rw [e0]
    refine z_sub_c ROk.nil oR (z_sub_c ROk.nil oE ?_)
    rw [addT_sub2]
    exact hP _ rfl
  · simp only [dSeq, dNext, dRet, dIf, dDrop, dAsg, dgName, dgNil, dgCons, dgTup, dPar, dPar3, dOwn, dApp, dFrz, dVar, dC, dOp, dI, dI0, dB0, dNeg, dTup, dLst, dBoolT, dAndT, dOrT, dNotT, dAndV, dOrV, dNotV, dCall, dCall0, dB, dIsi, dRepr, dAbs, dInt1, dInt2, dAll, dstart, dwipe, clean, Sl.clean, List.map_cons, List.map_nil, List.length_cons, List.length_nil, List.replicate, List.cons_append, List.nil_append, List.set_cons_zero, List.set_cons_succ, List.getElem?_cons_zero, List.getElem?_cons_succ, Nat.reduceAdd, Nat.reduceSub, Nat.add_zero, Nat.zero_add, Nat.add_sub_cancel, Nat.sub_self, atI_0, atI_1, atI_2, atI_3, dLtI, dLeI, dGtI, dGeI, dSub, dFd, dMod, dPow, eAdd_i, eAdd_l, eMul_i, eMul_l, eIx_l, eIx_t, eLen_l, eLen_t, eInt_i, eInt_b, eEq_i, eNe_i, eEq_e, dRaise, dRetX, dTry, dGcd3, dIsB, dChain, dZip, dItT, dItL, dSl, dNoPart, dPart, dChain, dgUnl, dParO, notN_no, notN_t, isN_no, dRev, dParC, dOwnC, dMaxD, dEnum, capD, dLstN, dNGet, dWts, dItN, dHH, dHI, dIH, dMeth, dMeth0, dMake, dIsH, dSortD, dDcn, dYes, dHE, dLenH, dOwnG]
    exact hP _ rfl
  · subst hd
    exact h
theorem ok_l_draw_half (T : Tx K mg base) : DefOk P w K mg base 5 "_law_draw_half" ["_law_source", "_law_rows", "_law_pool"] spDrawH41 := by
  refine defOk T.f_l_draw_half sc_l_draw_half bn_l_draw_half (fun f cdv A outer s H hr hg => (pss_dc (psd_set (i := 3) sc_l_draw_half.nd rfl (Or.inl rfl) (pd_fn (ok_l_direction T) hr (by decide) hg (pda_cons (pd_sub (pd_fn (ok_l_pick T) hr (by decide) hg (pda_cons (pd_var 0) (pda_cons pd_int pda_nil))) pd_int) (pda_cons (pd_addA pd_int (pd_fn (ok_l_pick T) hr (by decide) hg (pda_cons (pd_var 0) (pda_cons pd_int pda_nil)))) pda_nil))))
      (pss_dc (psd_set (i := 4) sc_l_draw_half.nd rfl (Or.inl rfl) (pd_addA (pd_fn (ok_l_across T) hr (by decide) hg (pda_cons (pd_sl (pd_var 2) pdo_none (pdo_some pd_int)) pda_nil)) (pd_lst (pda_cons (pd_var 3) (pda_cons (pd_tup (pda_cons (pd_sub pd_int (pd_ix (pd_var 3) pd_int)) (pda_cons (pd_sub pd_int (pd_ix (pd_var 3) pd_int)) pda_nil))) pda_nil)))))
      (pss_dc (psd_set (i := 5) sc_l_draw_half.nd rfl (Or.inl rfl) (pd_addA (pd_var 2) (pd_lst (pda_cons (pd_fn (ok_l_draw_place T) hr (by decide) hg (pda_cons (pd_var 0) (pda_cons pd_int pda_nil))) pda_nil))))
      (pss_d1 (psd_ret (pd_fn (ok_l_half T) hr (by decide) hg (pda_cons (pd_ix (pd_var 4) (pd_fn (ok_l_pick T) hr (by decide) hg (pda_cons (pd_var 0) (pda_cons (pd_blt call_len lc_len rfl T.b_len (by decide +kernel) (pda_cons (pd_var 4) pda_nil)) pda_nil)))) (pda_cons (pd_ix (pd_var 5) (pd_fn (ok_l_pick T) hr (by decide) hg (pda_cons (pd_var 0) (pda_cons (pd_blt call_len lc_len rfl T.b_len (by decide +kernel) (pda_cons (pd_var 5) pda_nil)) pda_nil)))) pda_nil))))))))) ?_
  rintro ds Qd _ ⟨d, ps, rfl, ne, hl, hb, h⟩
  show dSeq _ _ _ [.val SRC, .val d, .val (.list (ps.map pD)), .emp, .emp, .emp]
  refine dSeq_g (fun σ => ∃ u : Vd, VB 10 u ∧ σ = [.val SRC, .val d, .val (.list (ps.map pD)), .val (vD u), .emp, .emp]) ?_ ?_
  · intro N hN
    simp only [dSeq, dNext, dRet, dIf, dDrop, dAsg, dgName, dgNil, dgCons, dgTup, dPar, dPar3, dOwn, dApp, dFrz, dVar, dC, dOp, dI, dI0, dB0, dNeg, dTup, dLst, dBoolT, dAndT, dOrT, dNotT, dAndV, dOrV, dNotV, dCall, dCall0, dB, dIsi, dRepr, dAbs, dInt1, dInt2, dAll, dstart, dwipe, clean, Sl.clean, List.map_cons, List.map_nil, List.length_cons, List.length_nil, List.replicate, List.cons_append, List.nil_append, List.set_cons_zero, List.set_cons_succ, List.getElem?_cons_zero, List.getElem?_cons_succ, Nat.reduceAdd, Nat.reduceSub, Nat.add_zero, Nat.zero_add, Nat.add_sub_cancel, Nat.sub_self, atI_0, atI_1, atI_2, atI_3, dLtI, dLeI, dGtI, dGeI, dSub, dFd, dMod, dPow, eAdd_i, eAdd_l, eMul_i, eMul_l, eIx_l, eIx_t, eLen_l, eLen_t, eInt_i, eInt_b, eEq_i, eNe_i, eEq_e, dRaise, dRetX, dTry, dGcd3, dIsB, dChain, dZip, dItT, dItL, dSl, dNoPart, dPart, dChain, dgUnl, dParO, notN_no, notN_t, isN_no, dRev, dParC, dOwnC, dMaxD, dEnum, capD, dLstN, dNGet, dWts, dItN, dHH, dHI, dIH, dMeth, dMeth0, dMake, dIsH, dSortD, dDcn, dYes, dHE, dLenH, dOwnG]
    refine pick (by decide) (by decide) fun a a0 a7 => pick (by decide) (by decide) fun b b0 b3 => ?_
    obtain ⟨u, e, hu, _⟩ := vd_of (a := a - 3) (b := 1 + b) (k := 10) (by omega) ⟨by omega⟩ ⟨by omega⟩
    refine ⟨a - 3, 1 + b, 10, rfl, by omega, ⟨by omega⟩, ⟨by omega⟩, by decide, ?_⟩
    rw [e]
    exact hN _ ⟨u, hu, rfl⟩
  rintro σ2 ⟨u, hu, rfl⟩
  refine dSeq_g (fun σ => ∃ us : List D, (∀ y ∈ us, IsDr 20 y) ∧ us ≠ [] ∧ us.length ≤ 402 ∧ σ = [.val SRC, .val d, .val (.list (ps.map pD)), .val (vD u), .val (.list us), .emp]) ?_ ?_
  · intro N hN
    have ct : cutD (ps.map pD) none (some 4) = (ps.take 4).map pD := cut_to pD ps 4
    generalize hL : ps.map pD = L at *
    simp only [dSeq, dNext, dRet, dIf, dDrop, dAsg, dgName, dgNil, dgCons, dgTup, dPar, dPar3, dOwn, dApp, dFrz, dVar, dC, dOp, dI, dI0, dB0, dNeg, dTup, dLst, dBoolT, dAndT, dOrT, dNotT, dAndV, dOrV, dNotV, dCall, dCall0, dB, dIsi, dRepr, dAbs, dInt1, dInt2, dAll, dstart, dwipe, clean, Sl.clean, List.map_cons, List.map_nil, List.length_cons, List.length_nil, List.replicate, List.cons_append, List.nil_append, List.set_cons_zero, List.set_cons_succ, List.getElem?_cons_zero, List.getElem?_cons_succ, Nat.reduceAdd, Nat.reduceSub, Nat.add_zero, Nat.zero_add, Nat.add_sub_cancel, Nat.sub_self, atI_0, atI_1, atI_2, atI_3, dLtI, dLeI, dGtI, dGeI, dSub, dFd, dMod, dPow, eAdd_i, eAdd_l, eMul_i, eMul_l, eIx_l, eIx_t, eLen_l, eLen_t, eInt_i, eInt_b, eEq_i, eNe_i, eEq_e, dRaise, dRetX, dTry, dGcd3, dIsB, dChain, dZip, dItT, dItL, dSl, dNoPart, dPart, dChain, dgUnl, dParO, notN_no, notN_t, isN_no, dRev, dParC, dOwnC, dMaxD, dEnum, capD, dLstN, dNGet, dWts, dItN, dHH, dHI, dIH, dMeth, dMeth0, dMake, dIsH, dSortD, dDcn, dYes, dHE, dLenH, dOwnG, dSl, dNoPart, dPart, dSlA]
    rw [ct]
    refine ⟨ps.take 4, 5, rfl, fun x hx => (hb x (List.mem_of_mem_take hx)).pb (by decide), by decide, by rw [List.length_take]; omega, fun ys hy yl => ?_⟩
    refine ⟨by simp; omega, hN _ ⟨ys ++ [vD u, vD (negV u)], fun y hy' => ?_, by simp, by simp; omega, by rw [Int.zero_sub, Int.zero_sub]; rfl⟩⟩
    have up : ∀ {j : Nat} {y : D}, j ≤ 20 → IsDr j y → IsDr 20 y := fun l ⟨a, b, e, g, h1, h2⟩ => ⟨a, b, e, g, h1.mono l, h2.mono l⟩
    rcases List.mem_append.mp hy' with z | z
    · exact up (by decide) (hy y z)
    · simp only [List.mem_cons, List.not_mem_nil, or_false] at z
      rcases z with rfl | rfl
      · exact up (by decide) (vd_isdr hu)
      · exact up (by decide) (vd_isdr hu.neg)
  rintro σ2 ⟨us, hus, une, ul, rfl⟩
  refine dSeq_g (fun σ => ∃ qs : List Pt, (∀ q ∈ qs, PB 20 q) ∧ qs ≠ [] ∧ qs.length ≤ 101 ∧ σ = [.val SRC, .val d, .val (.list (ps.map pD)), .val (vD u), .val (.list us), .val (.list (qs.map pD))]) ?_ ?_
  · intro N hN
    simp only [dSeq, dNext, dRet, dIf, dDrop, dAsg, dgName, dgNil, dgCons, dgTup, dPar, dPar3, dOwn, dApp, dFrz, dVar, dC, dOp, dI, dI0, dB0, dNeg, dTup, dLst, dBoolT, dAndT, dOrT, dNotT, dAndV, dOrV, dNotV, dCall, dCall0, dB, dIsi, dRepr, dAbs, dInt1, dInt2, dAll, dstart, dwipe, clean, Sl.clean, List.map_cons, List.map_nil, List.length_cons, List.length_nil, List.replicate, List.cons_append, List.nil_append, List.set_cons_zero, List.set_cons_succ, List.getElem?_cons_zero, List.getElem?_cons_succ, Nat.reduceAdd, Nat.reduceSub, Nat.add_zero, Nat.zero_add, Nat.add_sub_cancel, Nat.sub_self, atI_0, atI_1, atI_2, atI_3, dLtI, dLeI, dGtI, dGeI, dSub, dFd, dMod, dPow, eAdd_i, eAdd_l, eMul_i, eMul_l, eIx_l, eIx_t, eLen_l, eLen_t, eInt_i, eInt_b, eEq_i, eNe_i, eEq_e, dRaise, dRetX, dTry, dGcd3, dIsB, dChain, dZip, dItT, dItL, dSl, dNoPart, dPart, dChain, dgUnl, dParO, notN_no, notN_t, isN_no, dRev, dParC, dOwnC, dMaxD, dEnum, capD, dLstN, dNGet, dWts, dItN, dHH, dHI, dIH, dMeth, dMeth0, dMake, dIsH, dSortD, dDcn, dYes, dHE, dLenH, dOwnG]
    refine ⟨4, rfl, by decide, by decide, fun x y d' hx hy d0 d3 g => ⟨by simp; omega, hN _ ⟨ps ++ [⟨x, y, d', d0, g⟩], fun q hq => ?_, by simp, by simp; omega, by rw [List.map_append]; rfl⟩⟩⟩
    rcases List.mem_append.mp hq with z | z
    · exact ((hb q z).pb (by decide)).mono (by decide)
    · rw [List.mem_singleton.mp z]
      exact ⟨bd_of_le (c := 12) hx (by decide), bd_of_le (c := 12) hy (by decide), ⟨by show d'.natAbs < 2 ^ 20; omega⟩⟩
  rintro σ2 ⟨qs, hqs, qne, ql, rfl⟩
  have u0 := List.length_pos_iff.mpr une
  have q0 := List.length_pos_iff.mpr qne
  simp only [dSeq, dNext, dRet, dIf, dDrop, dAsg, dgName, dgNil, dgCons, dgTup, dPar, dPar3, dOwn, dApp, dFrz, dVar, dC, dOp, dI, dI0, dB0, dNeg, dTup, dLst, dBoolT, dAndT, dOrT, dNotT, dAndV, dOrV, dNotV, dCall, dCall0, dB, dIsi, dRepr, dAbs, dInt1, dInt2, dAll, dstart, dwipe, clean, Sl.clean, List.map_cons, List.map_nil, List.length_cons, List.length_nil, List.replicate, List.cons_append, List.nil_append, List.set_cons_zero, List.set_cons_succ, List.getElem?_cons_zero, List.getElem?_cons_succ, Nat.reduceAdd, Nat.reduceSub, Nat.add_zero, Nat.zero_add, Nat.add_sub_cancel, Nat.sub_self, atI_0, atI_1, atI_2, atI_3, dLtI, dLeI, dGtI, dGeI, dSub, dFd, dMod, dPow, eAdd_i, eAdd_l, eMul_i, eMul_l, eIx_l, eIx_t, eLen_l, eLen_t, eInt_i, eInt_b, eEq_i, eNe_i, eEq_e, dRaise, dRetX, dTry, dGcd3, dIsB, dChain, dZip, dItT, dItL, dSl, dNoPart, dPart, dChain, dgUnl, dParO, notN_no, notN_t, isN_no, dRev, dParC, dOwnC, dMaxD, dEnum, capD, dLstN, dNGet, dWts, dItN, dHH, dHI, dIH, dMeth, dMeth0, dMake, dIsH, dSortD, dDcn, dYes, dHE, dLenH, dOwnG]
  refine pick (by omega) (by omega) fun i i0 i1 => ?_
  obtain ⟨v, e, hv⟩ := atI_ok (xs := us) i0 i1
  obtain ⟨w, rfl, hw⟩ := isdr_vd (hus v hv)
  rw [eIx_l, e]
  dsimp only
  refine pick (by rw [List.length_map]; omega) (by rw [List.length_map]; omega) fun j j0 j1 => ?_
  obtain ⟨v2, e2, hv2⟩ := atI_ok (xs := qs.map pD) j0 j1
  obtain ⟨q, hq, rfl⟩ := List.mem_map.mp hv2
  rw [eIx_l, e2]
  dsimp only
  obtain ⟨f, f1, f2⟩ := hf_he hw (hqs q hq)
  refine ⟨w, q, 20, rfl, hw, hqs q hq, by decide, ?_⟩
  rw [f1]
  exact h f (f2.mono (by decide))
theorem ok_m___len__ (T : Tx K mg base) : MethOk P w K mg base 1 "__len__" ["self"] spLenM := by
  refine methOk T.m___len__ sc_m___len__ bn_m___len__ (fun f cdv A outer s H hr hg => (pss_d1 (psd_ret (pd_blt call_len_nd lc_lenN rfl T.b_len (by decide +kernel) (pda_cons (pd_wts T.hpk (pd_var 0)) pda_nil))))) ?_
  rintro ds Qd _ ⟨R, rfl, h⟩
  simp only [dSeq, dNext, dRet, dIf, dDrop, dAsg, dgName, dgNil, dgCons, dgTup, dPar, dPar3, dOwn, dApp, dFrz, dVar, dC, dOp, dI, dI0, dB0, dNeg, dTup, dLst, dBoolT, dAndT, dOrT, dNotT, dAndV, dOrV, dNotV, dCall, dCall0, dB, dIsi, dRepr, dAbs, dInt1, dInt2, dAll, dstart, dwipe, clean, Sl.clean, List.map_cons, List.map_nil, List.length_cons, List.length_nil, List.replicate, List.cons_append, List.nil_append, List.set_cons_zero, List.set_cons_succ, List.getElem?_cons_zero, List.getElem?_cons_succ, Nat.reduceAdd, Nat.reduceSub, Nat.add_zero, Nat.zero_add, Nat.add_sub_cancel, Nat.sub_self, atI_0, atI_1, atI_2, atI_3, dLtI, dLeI, dGtI, dGeI, dSub, dFd, dMod, dPow, eAdd_i, eAdd_l, eMul_i, eMul_l, eIx_l, eIx_t, eLen_l, eLen_t, eInt_i, eInt_b, eEq_i, eNe_i, eEq_e, dRaise, dRetX, dTry, dGcd3, dIsB, dChain, dZip, dItT, dItL, dSl, dNoPart, dPart, dChain, dgUnl, dParO, notN_no, notN_t, isN_no, dRev, dParC, dOwnC, dMaxD, dEnum, capD, dLstN, dNGet, dWts, dItN, dHH, dHI, dIH, dMeth, dMeth0, dMake, dIsH, dSortD, dDcn, dYes, dHE, dLenH, dOwnG]
  refine ⟨_, rfl, nkR R, rfl, ?_⟩
  have e : (nkR R).length = R.length := by unfold nkR; rw [List.length_map]
  rw [e]; exact h
theorem ok_m___eq__ (T : Tx K mg base) : MethOk P w K mg base 1 "__eq__" ["self", "other"] spHEq := by
  refine methOk T.m___eq__ sc_m___eq__ bn_m___eq__ (fun f cdv A outer s H hr hg => (pss_d1 (psd_ret (pd_and (pd_isH T.hpk T.hpi rfl T.b_isinstance (by decide +kernel) rfl (pd_var 1)) (pd_one (pd_cmp (op_eqN hr.u10) lr_eqN (pd_wts T.hpk (pd_var 0)) (pd_wts T.hpk (pd_var 1)) rfl)))))) ?_
  rintro ds Qd _ h
  rcases h with ⟨R, S, rfl, h⟩ | ⟨R, i, rfl, h⟩ | ⟨R, xs, rfl, h⟩
  · simp only [dSeq, dNext, dRet, dIf, dDrop, dAsg, dgName, dgNil, dgCons, dgTup, dPar, dPar3, dOwn, dApp, dFrz, dVar, dC, dOp, dI, dI0, dB0, dNeg, dTup, dLst, dBoolT, dAndT, dOrT, dNotT, dAndV, dOrV, dNotV, dCall, dCall0, dB, dIsi, dRepr, dAbs, dInt1, dInt2, dAll, dstart, dwipe, clean, Sl.clean, List.map_cons, List.map_nil, List.length_cons, List.length_nil, List.replicate, List.cons_append, List.nil_append, List.set_cons_zero, List.set_cons_succ, List.getElem?_cons_zero, List.getElem?_cons_succ, Nat.reduceAdd, Nat.reduceSub, Nat.add_zero, Nat.zero_add, Nat.add_sub_cancel, Nat.sub_self, atI_0, atI_1, atI_2, atI_3, dLtI, dLeI, dGtI, dGeI, dSub, dFd, dMod, dPow, eAdd_i, eAdd_l, eMul_i, eMul_l, eIx_l, eIx_t, eLen_l, eLen_t, eInt_i, eInt_b, eEq_i, eNe_i, eEq_e, dRaise, dRetX, dTry, dGcd3, dIsB, dChain, dZip, dItT, dItL, dSl, dNoPart, dPart, dChain, dgUnl, dParO, notN_no, notN_t, isN_no, dRev, dParC, dOwnC, dMaxD, dEnum, capD, dLstN, dNGet, dWts, dItN, dHH, dHI, dIH, dMeth, dMeth0, dMake, dIsH, dSortD, dDcn, dYes, dHE, dLenH, dOwnG, isHp_hp]
    refine ⟨_, rfl, _, rfl, _, _, rfl, rfl, ?_⟩
    rw [eqN_addT]
    exact h
  · simp only [dSeq, dNext, dRet, dIf, dDrop, dAsg, dgName, dgNil, dgCons, dgTup, dPar, dPar3, dOwn, dApp, dFrz, dVar, dC, dOp, dI, dI0, dB0, dNeg, dTup, dLst, dBoolT, dAndT, dOrT, dNotT, dAndV, dOrV, dNotV, dCall, dCall0, dB, dIsi, dRepr, dAbs, dInt1, dInt2, dAll, dstart, dwipe, clean, Sl.clean, List.map_cons, List.map_nil, List.length_cons, List.length_nil, List.replicate, List.cons_append, List.nil_append, List.set_cons_zero, List.set_cons_succ, List.getElem?_cons_zero, List.getElem?_cons_succ, Nat.reduceAdd, Nat.reduceSub, Nat.add_zero, Nat.zero_add, Nat.add_sub_cancel, Nat.sub_self, atI_0, atI_1, atI_2, atI_3, dLtI, dLeI, dGtI, dGeI, dSub, dFd, dMod, dPow, eAdd_i, eAdd_l, eMul_i, eMul_l, eIx_l, eIx_t, eLen_l, eLen_t, eInt_i, eInt_b, eEq_i, eNe_i, eEq_e, dRaise, dRetX, dTry, dGcd3, dIsB, dChain, dZip, dItT, dItL, dSl, dNoPart, dPart, dChain, dgUnl, dParO, notN_no, notN_t, isN_no, dRev, dParC, dOwnC, dMaxD, dEnum, capD, dLstN, dNGet, dWts, dItN, dHH, dHI, dIH, dMeth, dMeth0, dMake, dIsH, dSortD, dDcn, dYes, dHE, dLenH, dOwnG]
    exact h
  · simp only [dSeq, dNext, dRet, dIf, dDrop, dAsg, dgName, dgNil, dgCons, dgTup, dPar, dPar3, dOwn, dApp, dFrz, dVar, dC, dOp, dI, dI0, dB0, dNeg, dTup, dLst, dBoolT, dAndT, dOrT, dNotT, dAndV, dOrV, dNotV, dCall, dCall0, dB, dIsi, dRepr, dAbs, dInt1, dInt2, dAll, dstart, dwipe, clean, Sl.clean, List.map_cons, List.map_nil, List.length_cons, List.length_nil, List.replicate, List.cons_append, List.nil_append, List.set_cons_zero, List.set_cons_succ, List.getElem?_cons_zero, List.getElem?_cons_succ, Nat.reduceAdd, Nat.reduceSub, Nat.add_zero, Nat.zero_add, Nat.add_sub_cancel, Nat.sub_self, atI_0, atI_1, atI_2, atI_3, dLtI, dLeI, dGtI, dGeI, dSub, dFd, dMod, dPow, eAdd_i, eAdd_l, eMul_i, eMul_l, eIx_l, eIx_t, eLen_l, eLen_t, eInt_i, eInt_b, eEq_i, eNe_i, eEq_e, dRaise, dRetX, dTry, dGcd3, dIsB, dChain, dZip, dItT, dItL, dSl, dNoPart, dPart, dChain, dgUnl, dParO, notN_no, notN_t, isN_no, dRev, dParC, dOwnC, dMaxD, dEnum, capD, dLstN, dNGet, dWts, dItN, dHH, dHI, dIH, dMeth, dMeth0, dMake, dIsH, dSortD, dDcn, dYes, dHE, dLenH, dOwnG]
    exact h
theorem ok_law (T0 : Dfn K mg "law" s_law) : ∃ (f : Addr) (fd : FuncData), mg "law" = some (.ref f) ∧ (∀ (s : Shared) (u : Value), BindsTo s fd ⟨[u], []⟩ [("_law_script", u)]) ∧ ∀ base : Heap, Tx K mg base → FnG P w K mg base 15 f fd ["_law_script"] (spLaw K) := by
  refine lawOkG (G := fun base => Tx K mg base) T0 sc_law bn_law spLaw_len (fun base f cdv A outer s H vs Q T hr hg h => ?_)
  obtain ⟨a, ns, rfl, hsq, hl, hb, hTb, hQ⟩ := h
  obtain ⟨fo, fdo, hmo, kpo, hbo, Fo⟩ := ok_l_open_cells (P := P) (w := w) (base := base) T
  obtain ⟨t2, p2, l2⟩ : PDSs W0 (cxOf CX0 P w K mg base N_law "law" (defScope s_law) f cdv A outer s H E0).nox (defBody s_law).tail _ := (pss_dc (psd_for PassesOwn.never rfl (pdi_rng1 rfl T.b_range (pda_cons pd_int pda_nil)) (pdg_name (i := 2) sc_law.nd rfl (Or.inl rfl)) (pss_dc (psd_set (i := 3) sc_law.nd rfl (Or.inl rfl) (pd_fn (ok_l_draw_pool T) hr (by decide) hg (pda_cons (pd_var 1) (pda_cons (pd_addA pd_int (pd_fn (ok_l_pick T) hr (by decide) hg (pda_cons (pd_var 1) (pda_cons pd_int pda_nil)))) (pda_cons pd_int pda_nil)))))
      (pss_dc (psd_set (i := 4) sc_law.nd rfl (Or.inl rfl) (pd_fn (ok_l_draw_rows T) hr (by decide) hg (pda_cons (pd_var 1) (pda_cons (pd_var 3) (pda_cons pd_int pda_nil)))))
      (pss_dc (psd_par (i := 5) (j := 6) rfl sc_law.nd rfl rfl (by decide) rfl rfl (pda_cons (pd_fn (ok_l_heap T) hr (by decide) hg (pda_cons (pd_var 1) (pda_cons (pd_var 4) pda_nil))) (pda_cons (pd_blt (cr_sum rfl) lc_sum rfl T.b_sum (by decide +kernel) (pda_cons (pd_new (pdn_lc (own := [("_law_plate", 14), ("_law_weight", 15)]) rfl sc_law.nd (pdi_list (pd_var 4)) (blk (N := N_law) (sc := defScope s_law) (by decide +kernel)) (fun _ _ _ _ _ => pg_tup rfl (pgs_cons (pg_name (i := 14) sc_law.nd rfl (Or.inl rfl)) (pgs_cons (pg_name (i := 15) sc_law.nd rfl (Or.inl rfl)) pgs_nil))) (lg_tup (lgs_cons (lgs_cons lgs_nil)) (dgl_cons (dgl_cons dgl_nil))) (sets_tup (sets_cons (by decide) (sets_cons (by decide) sets_nil))) (fun _ _ _ _ _ => (pd_var 15)))) pda_nil)) pda_nil)) rfl)
      (pss_dc (psd_set (i := 7) sc_law.nd rfl (Or.inl rfl) (pd_blt (call_repr hg hr.units) lc_repr rfl T.b_repr (by decide +kernel) (pda_cons (pd_meth0 T.hpc T.hpk (ok_m_rows T) hr (by decide) hg (pd_var 5)) pda_nil)))
      (pss_d1 (psd_for PassesOwn.never rfl (pdi_rng1 rfl T.b_range (pda_cons pd_int pda_nil)) (pdg_name (i := 8) sc_law.nd rfl (Or.inl rfl)) (pss_dc (psd_set (i := 9) sc_law.nd rfl (Or.inr rfl) (pd_fn (ok_l_draw_half T) hr (by decide) hg (pda_cons (pd_var 1) (pda_cons (pd_var 4) (pda_cons (pd_var 3) pda_nil)))))
      (pss_dc (psd_set (i := 10) sc_law.nd rfl (Or.inr rfl) (pd_tup (pda_cons (pd_sub pd_int (pd_ix (pd_var 9) pd_int)) (pda_cons (pd_sub pd_int (pd_ix (pd_var 9) pd_int)) (pda_cons (pd_sub pd_int (pd_ix (pd_var 9) pd_int)) pda_nil)))))
      (pss_dc (psd_par (i := 11) (j := 12) rfl sc_law.nd rfl rfl (by decide) rfl rfl (pda_cons (pd_fn (ok_l_half_sum T) hr (by decide) hg (pda_cons (pd_var 4) (pda_cons (pd_var 9) pda_nil))) (pda_cons (pd_fn (ok_l_half_sum T) hr (by decide) hg (pda_cons (pd_var 4) (pda_cons (pd_var 10) pda_nil))) pda_nil)) rfl)
      (pss_dc (psd_if (pdt_w (pdw_or (pdt_ne hr.units (pd_fn (ok_half_sum T) hr (by decide) hg (pda_cons (pd_var 5) (pda_cons (pd_var 9) pda_nil))) (pd_var 11)) (pdw_or1 (pdt_ne hr.units (pd_fn (ok_half_sum T) hr (by decide) hg (pda_cons (pd_var 5) (pda_cons (pd_var 10) pda_nil))) (pd_var 12))))) (pss_d1 (psd_ret pd_bl)) pss_d0)
      (pss_dc (psd_if (pdt_w (pdw_or (pdt_ne hr.units (pd_fn (ok_line_sum T) hr (by decide) hg (pda_cons (pd_var 5) (pda_cons (pd_var 9) pda_nil))) (pd_sub (pd_addA (pd_var 11) (pd_var 12)) (pd_var 6))) (pdw_or1 (pdt_ne hr.units (pd_fn (ok_line_sum T) hr (by decide) hg (pda_cons (pd_var 5) (pda_cons (pd_var 10) pda_nil))) (pd_fn (ok_line_sum T) hr (by decide) hg (pda_cons (pd_var 5) (pda_cons (pd_var 9) pda_nil))))))) (pss_d1 (psd_ret pd_bl)) pss_d0)
      (pss_dc (psd_setLci (i := 13) (own := [("_law_plate", 14), ("_law_weight", 15)]) rfl sc_law.nd rfl rfl (sw_true rfl rfl rfl (by decide +kernel)) (pdi_list (pd_var 4)) (blk (N := N_law) (sc := defScope s_law) (by decide +kernel)) (fun _ _ _ _ _ => pg_tup rfl (pgs_cons (pg_name (i := 14) sc_law.nd rfl (Or.inl rfl)) (pgs_cons (pg_name (i := 15) sc_law.nd rfl (Or.inl rfl)) pgs_nil))) (lg_tup (lgs_cons (lgs_cons lgs_nil)) (dgl_cons (dgl_cons dgl_nil))) (sets_tup (sets_cons (by decide) (sets_cons (by decide) sets_nil))) (fun _ _ _ _ _ => (pdt_w (pdw_and (pdt_val (pd_fn (ok_l_meets T) hr (by decide) hg (pda_cons (pd_var 14) (pda_cons (pd_var 9) pda_nil)))) (pdw_and1 (pdt_val (pd_fn (ok_l_meets T) hr (by decide) hg (pda_cons (pd_var 14) (pda_cons (pd_var 10) pda_nil)))))))) (fun _ _ _ _ _ => (pd_var 15)))
      (pss_d1 (psd_if (pdt_w (pdw_or (pdt_ne hr.units (pd_fn (ok_line_sum T) hr (by decide) hg (pda_cons (pd_var 5) (pda_cons (pd_var 9) pda_nil))) (pd_blt (cr_sum rfl) lc_sum rfl T.b_sum (by decide +kernel) (pda_cons (pd_var 13) pda_nil))) (pdw_or (pdt_ne hr.units (pd_fn (ok_half_sum T) hr (by decide) hg (pda_cons (pd_makeH T.hpm (ok_m___init__ T) hr (by decide) hg (pd_lst pda_nil)) (pda_cons (pd_var 9) pda_nil))) pd_int) (pdw_or1 (pdt_ne hr.units (pd_blt (call_repr hg hr.units) lc_repr rfl T.b_repr (by decide +kernel) (pda_cons (pd_meth0 T.hpc T.hpk (ok_m_rows T) hr (by decide) hg (pd_var 5)) pda_nil)) (pd_var 7)))))) (pss_d1 (psd_ret pd_bl)) pss_d0)))))))))))))))
      (pss_d1 (psd_ret pd_bl)))
  refine ⟨_, pss_cons (ps_set (i := 1) sc_law.nd rfl (Or.inl rfl) (pe_callG Fo (hr.mono (by decide)) hg rfl hmo kpo hbo (pa_cons (pv 0) pa_nil))) p2, ?_⟩
  refine ⟨_, rfl, a, ns, rfl, hsq, hl, hb, fun p c ms l m t H' hp hc hpc sm hc' hp' => ?_⟩
  refine l2 (some (p, c)) (fun z => z = p ∨ z = c) H' H' _ (.emp :: .val SRC :: List.replicate 14 .emp) { nx := fun _ => False, rt := (· = .bool true) } _ (ev_law (.ref a) 14 (hTb.ext sm) hpc hc' hp') ?_ ?_
  · refine dFor_k (intsD 0 2) (fun σ => ∃ x2 x3 x4 x5 x6 x7 x8 x9 x10 x11 x12 x13 x14 x15 : Sl, σ = [.emp, .val SRC, x2, x3, x4, x5, x6, x7, x8, x9, x10, x11, x12, x13, x14, x15]) (fun R h => ⟨by decide, h⟩) ⟨.emp, .emp, .emp, .emp, .emp, .emp, .emp, .emp, .emp, .emp, .emp, .emp, .emp, .emp, rfl⟩ ?_ (fun σ' _ => rfl)
    · rintro y0 hy σ' ⟨x2, x3, x4, x5, x6, x7, x8, x9, x10, x11, x12, x13, x14, x15, rfl⟩
      show dSeq _ _ _ _
      refine dSeq_g (fun σ => ∃ ps : List Pt, ∃ x2 x4 x5 x6 x7 x8 x9 x10 x11 x12 x13 x14 x15 : Sl, ps ≠ [] ∧ ps.length ≤ 6 ∧ (∀ p ∈ ps, PBd 4 2 p) ∧ σ = [.emp, .val SRC, x2, .val (.list (ps.map pD)), x4, x5, x6, x7, x8, x9, x10, x11, x12, x13, x14, x15]) ?_ ?_
      · intro N hN
        simp only [dSeq, dNext, dRet, dIf, dDrop, dAsg, dgName, dgNil, dgCons, dgTup, dPar, dPar3, dOwn, dApp, dFrz, dVar, dC, dOp, dI, dI0, dB0, dNeg, dTup, dLst, dBoolT, dAndT, dOrT, dNotT, dAndV, dOrV, dNotV, dCall, dCall0, dB, dIsi, dRepr, dAbs, dInt1, dInt2, dAll, dstart, dwipe, clean, Sl.clean, List.map_cons, List.map_nil, List.length_cons, List.length_nil, List.replicate, List.cons_append, List.nil_append, List.set_cons_zero, List.set_cons_succ, List.getElem?_cons_zero, List.getElem?_cons_succ, Nat.reduceAdd, Nat.reduceSub, Nat.add_zero, Nat.zero_add, Nat.add_sub_cancel, Nat.sub_self, atI_0, atI_1, atI_2, atI_3, dLtI, dLeI, dGtI, dGeI, dSub, dFd, dMod, dPow, eAdd_i, eAdd_l, eMul_i, eMul_l, eIx_l, eIx_t, eLen_l, eLen_t, eInt_i, eInt_b, eEq_i, eNe_i, eEq_e, dRaise, dRetX, dTry, dGcd3, dIsB, dChain, dZip, dItT, dItL, dSl, dNoPart, dPart, dChain, dgUnl, dParO, notN_no, notN_t, isN_no, dRev, dParC, dOwnC, dMaxD, dEnum, capD, dLstN, dNGet, dWts, dItN, dHH, dHI, dIH, dMeth, dMeth0, dMake, dIsH, dSortD, dDcn, dYes, dHE, dLenH, dOwnG, dFor, dRng1, dItL]
        refine pick (by decide) (by decide) fun k k0 k4 => ⟨2 + k, 4, rfl, by omega, by omega, by decide, by decide, fun ps pl pb => ?_⟩
        exact hN _ ⟨ps, _, _, _, _, _, _, _, _, _, _, _, _, _, (fun z => by rw [z] at pl; simp at pl; omega), by omega, pb, rfl⟩
      rintro σ2 ⟨ps, x2, x4, x5, x6, x7, x8, x9, x10, x11, x12, x13, x14, x15, pne, pl, pb, rfl⟩
      refine dSeq_g (fun σ => ∃ R : TR, ∃ x2 x5 x6 x7 x8 x9 x10 x11 x12 x13 x14 x15 : Sl, DR 5 R ∧ σ = [.emp, .val SRC, x2, .val (.list (ps.map pD)), .val (.list (R.map rowD)), x5, x6, x7, x8, x9, x10, x11, x12, x13, x14, x15]) ?_ ?_
      · intro N hN
        simp only [dSeq, dNext, dRet, dIf, dDrop, dAsg, dgName, dgNil, dgCons, dgTup, dPar, dPar3, dOwn, dApp, dFrz, dVar, dC, dOp, dI, dI0, dB0, dNeg, dTup, dLst, dBoolT, dAndT, dOrT, dNotT, dAndV, dOrV, dNotV, dCall, dCall0, dB, dIsi, dRepr, dAbs, dInt1, dInt2, dAll, dstart, dwipe, clean, Sl.clean, List.map_cons, List.map_nil, List.length_cons, List.length_nil, List.replicate, List.cons_append, List.nil_append, List.set_cons_zero, List.set_cons_succ, List.getElem?_cons_zero, List.getElem?_cons_succ, Nat.reduceAdd, Nat.reduceSub, Nat.add_zero, Nat.zero_add, Nat.add_sub_cancel, Nat.sub_self, atI_0, atI_1, atI_2, atI_3, dLtI, dLeI, dGtI, dGeI, dSub, dFd, dMod, dPow, eAdd_i, eAdd_l, eMul_i, eMul_l, eIx_l, eIx_t, eLen_l, eLen_t, eInt_i, eInt_b, eEq_i, eNe_i, eEq_e, dRaise, dRetX, dTry, dGcd3, dIsB, dChain, dZip, dItT, dItL, dSl, dNoPart, dPart, dChain, dgUnl, dParO, notN_no, notN_t, isN_no, dRev, dParC, dOwnC, dMaxD, dEnum, capD, dLstN, dNGet, dWts, dItN, dHH, dHI, dIH, dMeth, dMeth0, dMake, dIsH, dSortD, dDcn, dYes, dHE, dLenH, dOwnG, dFor, dRng1, dItL]
        exact ⟨ps, 5, rfl, pne, by omega, fun p hp => (pb p hp).mono (by decide) (by decide), by decide, fun R hR => hN _ ⟨R, _, _, _, _, _, _, _, _, _, _, _, _, hR, rfl⟩⟩
      rintro σ2 ⟨R, x2, x5, x6, x7, x8, x9, x10, x11, x12, x13, x14, x15, hR, rfl⟩
      have lR := hR.l
      have k0 : ROk 70 5 R := ⟨fun r hr => ((hR.p r hr).pk).mono (by decide), hR.l⟩
      have k1 : ROk 70 1000 R := k0.mono (Nat.le_refl _) (by decide)
      have kA : ROk 70 NB (addT R) := k0.addT.mono (Nat.le_refl _) (by decide)
      have nA := addT_nodup R
      have hne : ∀ r ∈ R, r.1 ≠ [] := fun r hr => (hR.p r hr).x.ne
      have rR : rOk (.list ((addT R).map rowD)) := (hR.drn.shw (by decide +kernel)).r (by decide)
      have e0 : awh [] = nkR (addT []) := awh_nk []
      refine dSeq_g (fun σ => ∃ x2 x7 x8 x9 x10 x11 x12 x13 x14 x15 : Sl, σ = [.emp, .val SRC, x2, .val (.list (ps.map pD)), .val (.list (R.map rowD)), .val (hpT (addT R)), .val (.int (totT R)), x7, x8, x9, x10, x11, x12, x13, x14, x15]) ?_ ?_
      · intro N hN
        simp only [dSeq, dNext, dRet, dIf, dDrop, dAsg, dgName, dgNil, dgCons, dgTup, dPar, dPar3, dOwn, dApp, dFrz, dVar, dC, dOp, dI, dI0, dB0, dNeg, dTup, dLst, dBoolT, dAndT, dOrT, dNotT, dAndV, dOrV, dNotV, dCall, dCall0, dB, dIsi, dRepr, dAbs, dInt1, dInt2, dAll, dstart, dwipe, clean, Sl.clean, List.map_cons, List.map_nil, List.length_cons, List.length_nil, List.replicate, List.cons_append, List.nil_append, List.set_cons_zero, List.set_cons_succ, List.getElem?_cons_zero, List.getElem?_cons_succ, Nat.reduceAdd, Nat.reduceSub, Nat.add_zero, Nat.zero_add, Nat.add_sub_cancel, Nat.sub_self, atI_0, atI_1, atI_2, atI_3, dLtI, dLeI, dGtI, dGeI, dSub, dFd, dMod, dPow, eAdd_i, eAdd_l, eMul_i, eMul_l, eIx_l, eIx_t, eLen_l, eLen_t, eInt_i, eInt_b, eEq_i, eNe_i, eEq_e, dRaise, dRetX, dTry, dGcd3, dIsB, dChain, dZip, dItT, dItL, dSl, dNoPart, dPart, dChain, dgUnl, dParO, notN_no, notN_t, isN_no, dRev, dParC, dOwnC, dMaxD, dEnum, capD, dLstN, dNGet, dWts, dItN, dHH, dHI, dIH, dMeth, dMeth0, dMake, dIsH, dSortD, dDcn, dYes, dHE, dLenH, dOwnG, dFor, dRng1, dItL]
        refine ⟨R, rfl, ⟨hR.p, hR.w, by omega⟩, ?_⟩
        refine dLcc_m R rowD (fun r => .int r.2) (fun P hP => ?_) (by omega) (fun r hr Q hQ => ?_) ?_
        · simp only [dSeq, dNext, dRet, dIf, dDrop, dAsg, dgName, dgNil, dgCons, dgTup, dPar, dPar3, dOwn, dApp, dFrz, dVar, dC, dOp, dI, dI0, dB0, dNeg, dTup, dLst, dBoolT, dAndT, dOrT, dNotT, dAndV, dOrV, dNotV, dCall, dCall0, dB, dIsi, dRepr, dAbs, dInt1, dInt2, dAll, dstart, dwipe, clean, Sl.clean, List.map_cons, List.map_nil, List.length_cons, List.length_nil, List.replicate, List.cons_append, List.nil_append, List.set_cons_zero, List.set_cons_succ, List.getElem?_cons_zero, List.getElem?_cons_succ, Nat.reduceAdd, Nat.reduceSub, Nat.add_zero, Nat.zero_add, Nat.add_sub_cancel, Nat.sub_self, atI_0, atI_1, atI_2, atI_3, dLtI, dLeI, dGtI, dGeI, dSub, dFd, dMod, dPow, eAdd_i, eAdd_l, eMul_i, eMul_l, eIx_l, eIx_t, eLen_l, eLen_t, eInt_i, eInt_b, eEq_i, eNe_i, eEq_e, dRaise, dRetX, dTry, dGcd3, dIsB, dChain, dZip, dItT, dItL, dSl, dNoPart, dPart, dChain, dgUnl, dParO, notN_no, notN_t, isN_no, dRev, dParC, dOwnC, dMaxD, dEnum, capD, dLstN, dNGet, dWts, dItN, dHH, dHI, dIH, dMeth, dMeth0, dMake, dIsH, dSortD, dDcn, dYes, dHE, dLenH, dOwnG, dFor, dRng1, dItL, dItL]
          exact hP
        · simp only [dSeq, dNext, dRet, dIf, dDrop, dAsg, dgName, dgNil, dgCons, dgTup, dPar, dPar3, dOwn, dApp, dFrz, dVar, dC, dOp, dI, dI0, dB0, dNeg, dTup, dLst, dBoolT, dAndT, dOrT, dNotT, dAndV, dOrV, dNotV, dCall, dCall0, dB, dIsi, dRepr, dAbs, dInt1, dInt2, dAll, dstart, dwipe, clean, Sl.clean, List.map_cons, List.map_nil, List.length_cons, List.length_nil, List.replicate, List.cons_append, List.nil_append, List.set_cons_zero, List.set_cons_succ, List.getElem?_cons_zero, List.getElem?_cons_succ, Nat.reduceAdd, Nat.reduceSub, Nat.add_zero, Nat.zero_add, Nat.add_sub_cancel, Nat.sub_self, atI_0, atI_1, atI_2, atI_3, dLtI, dLeI, dGtI, dGeI, dSub, dFd, dMod, dPow, eAdd_i, eAdd_l, eMul_i, eMul_l, eIx_l, eIx_t, eLen_l, eLen_t, eInt_i, eInt_b, eEq_i, eNe_i, eEq_e, dRaise, dRetX, dTry, dGcd3, dIsB, dChain, dZip, dItT, dItL, dSl, dNoPart, dPart, dChain, dgUnl, dParO, notN_no, notN_t, isN_no, dRev, dParC, dOwnC, dMaxD, dEnum, capD, dLstN, dNGet, dWts, dItN, dHH, dHI, dIH, dMeth, dMeth0, dMake, dIsH, dSortD, dDcn, dYes, dHE, dLenH, dOwnG, dFor, dRng1, dItL]
          exact hQ
        · refine dSum_m (f := fun r : List Pt × Int => r.2) ?_
          exact hN _ ⟨_, _, _, _, _, _, _, _, _, _, rfl⟩
      rintro σ2 ⟨x2, x7, x8, x9, x10, x11, x12, x13, x14, x15, rfl⟩
      refine dSeq_g (fun σ => ∃ x2 x8 x9 x10 x11 x12 x13 x14 x15 : Sl, σ = [.emp, .val SRC, x2, .val (.list (ps.map pD)), .val (.list (R.map rowD)), .val (hpT (addT R)), .val (.int (totT R)), .val (.str (PyData.shown (.list ((addT R).map rowD)))), x8, x9, x10, x11, x12, x13, x14, x15]) ?_ ?_
      · intro N hN
        simp only [dSeq, dNext, dRet, dIf, dDrop, dAsg, dgName, dgNil, dgCons, dgTup, dPar, dPar3, dOwn, dApp, dFrz, dVar, dC, dOp, dI, dI0, dB0, dNeg, dTup, dLst, dBoolT, dAndT, dOrT, dNotT, dAndV, dOrV, dNotV, dCall, dCall0, dB, dIsi, dRepr, dAbs, dInt1, dInt2, dAll, dstart, dwipe, clean, Sl.clean, List.map_cons, List.map_nil, List.length_cons, List.length_nil, List.replicate, List.cons_append, List.nil_append, List.set_cons_zero, List.set_cons_succ, List.getElem?_cons_zero, List.getElem?_cons_succ, Nat.reduceAdd, Nat.reduceSub, Nat.add_zero, Nat.zero_add, Nat.add_sub_cancel, Nat.sub_self, atI_0, atI_1, atI_2, atI_3, dLtI, dLeI, dGtI, dGeI, dSub, dFd, dMod, dPow, eAdd_i, eAdd_l, eMul_i, eMul_l, eIx_l, eIx_t, eLen_l, eLen_t, eInt_i, eInt_b, eEq_i, eNe_i, eEq_e, dRaise, dRetX, dTry, dGcd3, dIsB, dChain, dZip, dItT, dItL, dSl, dNoPart, dPart, dChain, dgUnl, dParO, notN_no, notN_t, isN_no, dRev, dParC, dOwnC, dMaxD, dEnum, capD, dLstN, dNGet, dWts, dItN, dHH, dHI, dIH, dMeth, dMeth0, dMake, dIsH, dSortD, dDcn, dYes, dHE, dLenH, dOwnG, dFor, dRng1, dItL]
        exact z_rows_c lR (by decide) ⟨rR, hN _ ⟨_, _, _, _, _, _, _, _, _, rfl⟩⟩
      rintro σ2 ⟨x2, x8, x9, x10, x11, x12, x13, x14, x15, rfl⟩
      refine dFor_last ?_
      refine dFor_k (intsD 0 5) (fun σ => ∃ x2 x8 x9 x10 x11 x12 x13 x14 x15 : Sl, σ = [.emp, .val SRC, x2, .val (.list (ps.map pD)), .val (.list (R.map rowD)), .val (hpT (addT R)), .val (.int (totT R)), .val (.str (PyData.shown (.list ((addT R).map rowD)))), x8, x9, x10, x11, x12, x13, x14, x15]) (fun R h => ⟨by decide, h⟩) ⟨_, _, _, _, _, _, _, _, _, rfl⟩ ?_ ?_
      · rintro y1 hy1 σ' ⟨x2, x8, x9, x10, x11, x12, x13, x14, x15, rfl⟩
        show dSeq _ _ _ _
        refine dSeq_g (fun σ => ∃ e : Hf, ∃ x2 x8 x10 x11 x12 x13 x14 x15 : Sl, HB 70 e ∧ σ = [.emp, .val SRC, x2, .val (.list (ps.map pD)), .val (.list (R.map rowD)), .val (hpT (addT R)), .val (.int (totT R)), .val (.str (PyData.shown (.list ((addT R).map rowD)))), x8, .val (heD e), x10, x11, x12, x13, x14, x15]) ?_ ?_
        · intro N hN
          simp only [dSeq, dNext, dRet, dIf, dDrop, dAsg, dgName, dgNil, dgCons, dgTup, dPar, dPar3, dOwn, dApp, dFrz, dVar, dC, dOp, dI, dI0, dB0, dNeg, dTup, dLst, dBoolT, dAndT, dOrT, dNotT, dAndV, dOrV, dNotV, dCall, dCall0, dB, dIsi, dRepr, dAbs, dInt1, dInt2, dAll, dstart, dwipe, clean, Sl.clean, List.map_cons, List.map_nil, List.length_cons, List.length_nil, List.replicate, List.cons_append, List.nil_append, List.set_cons_zero, List.set_cons_succ, List.getElem?_cons_zero, List.getElem?_cons_succ, Nat.reduceAdd, Nat.reduceSub, Nat.add_zero, Nat.zero_add, Nat.add_sub_cancel, Nat.sub_self, atI_0, atI_1, atI_2, atI_3, dLtI, dLeI, dGtI, dGeI, dSub, dFd, dMod, dPow, eAdd_i, eAdd_l, eMul_i, eMul_l, eIx_l, eIx_t, eLen_l, eLen_t, eInt_i, eInt_b, eEq_i, eNe_i, eEq_e, dRaise, dRetX, dTry, dGcd3, dIsB, dChain, dZip, dItT, dItL, dSl, dNoPart, dPart, dChain, dgUnl, dParO, notN_no, notN_t, isN_no, dRev, dParC, dOwnC, dMaxD, dEnum, capD, dLstN, dNGet, dWts, dItN, dHH, dHI, dIH, dMeth, dMeth0, dMake, dIsH, dSortD, dDcn, dYes, dHE, dLenH, dOwnG, dFor, dRng1, dItL]
          exact ⟨_, ps, rfl, pne, by omega, fun p hp => (pb p hp).mono (by decide) (by decide), fun e he => hN _ ⟨e, _, _, _, _, _, _, _, _, he, rfl⟩⟩
        rintro σ2 ⟨e, x2, x8, x10, x11, x12, x13, x14, x15, he, rfl⟩
        have hn := he.neg
        refine dSeq_g (fun σ => ∃ x2 x8 x11 x12 x13 x14 x15 : Sl, σ = [.emp, .val SRC, x2, .val (.list (ps.map pD)), .val (.list (R.map rowD)), .val (hpT (addT R)), .val (.int (totT R)), .val (.str (PyData.shown (.list ((addT R).map rowD)))), x8, .val (heD e), .val (heD e.neg), x11, x12, x13, x14, x15]) ?_ ?_
        · intro N hN
          simp only [dSeq, dNext, dRet, dIf, dDrop, dAsg, dgName, dgNil, dgCons, dgTup, dPar, dPar3, dOwn, dApp, dFrz, dVar, dC, dOp, dI, dI0, dB0, dNeg, dTup, dLst, dBoolT, dAndT, dOrT, dNotT, dAndV, dOrV, dNotV, dCall, dCall0, dB, dIsi, dRepr, dAbs, dInt1, dInt2, dAll, dstart, dwipe, clean, Sl.clean, List.map_cons, List.map_nil, List.length_cons, List.length_nil, List.replicate, List.cons_append, List.nil_append, List.set_cons_zero, List.set_cons_succ, List.getElem?_cons_zero, List.getElem?_cons_succ, Nat.reduceAdd, Nat.reduceSub, Nat.add_zero, Nat.zero_add, Nat.add_sub_cancel, Nat.sub_self, atI_0, atI_1, atI_2, atI_3, dLtI, dLeI, dGtI, dGeI, dSub, dFd, dMod, dPow, eAdd_i, eAdd_l, eMul_i, eMul_l, eIx_l, eIx_t, eLen_l, eLen_t, eInt_i, eInt_b, eEq_i, eNe_i, eEq_e, dRaise, dRetX, dTry, dGcd3, dIsB, dChain, dZip, dItT, dItL, dSl, dNoPart, dPart, dChain, dgUnl, dParO, notN_no, notN_t, isN_no, dRev, dParC, dOwnC, dMaxD, dEnum, capD, dLstN, dNGet, dWts, dItN, dHH, dHI, dIH, dMeth, dMeth0, dMake, dIsH, dSortD, dDcn, dYes, dHE, dLenH, dOwnG, dFor, dRng1, dItL]
          rw [Int.zero_sub, Int.zero_sub, Int.zero_sub]
          exact hN _ ⟨_, _, _, _, _, _, _, rfl⟩
        rintro σ2 ⟨x2, x8, x11, x12, x13, x14, x15, rfl⟩
        refine dSeq_g (fun σ => ∃ x2 x8 x13 x14 x15 : Sl, σ = [.emp, .val SRC, x2, .val (.list (ps.map pD)), .val (.list (R.map rowD)), .val (hpT (addT R)), .val (.int (totT R)), .val (.str (PyData.shown (.list ((addT R).map rowD)))), x8, .val (heD e), .val (heD e.neg), .val (.int (filS (metE e) R)), .val (.int (filS (metE e.neg) R)), x13, x14, x15]) ?_ ?_
        · intro N hN
          simp only [dSeq, dNext, dRet, dIf, dDrop, dAsg, dgName, dgNil, dgCons, dgTup, dPar, dPar3, dOwn, dApp, dFrz, dVar, dC, dOp, dI, dI0, dB0, dNeg, dTup, dLst, dBoolT, dAndT, dOrT, dNotT, dAndV, dOrV, dNotV, dCall, dCall0, dB, dIsi, dRepr, dAbs, dInt1, dInt2, dAll, dstart, dwipe, clean, Sl.clean, List.map_cons, List.map_nil, List.length_cons, List.length_nil, List.replicate, List.cons_append, List.nil_append, List.set_cons_zero, List.set_cons_succ, List.getElem?_cons_zero, List.getElem?_cons_succ, Nat.reduceAdd, Nat.reduceSub, Nat.add_zero, Nat.zero_add, Nat.add_sub_cancel, Nat.sub_self, atI_0, atI_1, atI_2, atI_3, dLtI, dLeI, dGtI, dGeI, dSub, dFd, dMod, dPow, eAdd_i, eAdd_l, eMul_i, eMul_l, eIx_l, eIx_t, eLen_l, eLen_t, eInt_i, eInt_b, eEq_i, eNe_i, eEq_e, dRaise, dRetX, dTry, dGcd3, dIsB, dChain, dZip, dItT, dItL, dSl, dNoPart, dPart, dChain, dgUnl, dParO, notN_no, notN_t, isN_no, dRev, dParC, dOwnC, dMaxD, dEnum, capD, dLstN, dNGet, dWts, dItN, dHH, dHI, dIH, dMeth, dMeth0, dMake, dIsH, dSortD, dDcn, dYes, dHE, dLenH, dOwnG, dFor, dRng1, dItL]
          exact ⟨R, e, 70, rfl, k1, he, by decide, R, e.neg, 70, rfl, k1, hn, by decide, hN _ ⟨_, _, _, _, _, rfl⟩⟩
        rintro σ2 ⟨x2, x8, x13, x14, x15, rfl⟩
        have LIN : ∀ {f : Hf} {Q : D → Prop}, HB 70 f → Q (.int (filS (linE f) R)) → spLineS [hpT (addT R), heD f] Q := fun hf q => ⟨addT R, _, 70, rfl, nA, kA, hf, by decide, by rw [filS_addT]; exact q⟩
        have HAL : ∀ {f : Hf} {Q : D → Prop}, HB 70 f → Q (.int (filS (metE f) R)) → spHalfS [hpT (addT R), heD f] Q := fun hf q => ⟨addT R, _, 70, rfl, nA, kA, hf, by decide, by rw [filS_addT]; exact q⟩
        refine dIf_no (fun R' hR' => ?_) ?_
        · simp only [dSeq, dNext, dRet, dIf, dDrop, dAsg, dgName, dgNil, dgCons, dgTup, dPar, dPar3, dOwn, dApp, dFrz, dVar, dC, dOp, dI, dI0, dB0, dNeg, dTup, dLst, dBoolT, dAndT, dOrT, dNotT, dAndV, dOrV, dNotV, dCall, dCall0, dB, dIsi, dRepr, dAbs, dInt1, dInt2, dAll, dstart, dwipe, clean, Sl.clean, List.map_cons, List.map_nil, List.length_cons, List.length_nil, List.replicate, List.cons_append, List.nil_append, List.set_cons_zero, List.set_cons_succ, List.getElem?_cons_zero, List.getElem?_cons_succ, Nat.reduceAdd, Nat.reduceSub, Nat.add_zero, Nat.zero_add, Nat.add_sub_cancel, Nat.sub_self, atI_0, atI_1, atI_2, atI_3, dLtI, dLeI, dGtI, dGeI, dSub, dFd, dMod, dPow, eAdd_i, eAdd_l, eMul_i, eMul_l, eIx_l, eIx_t, eLen_l, eLen_t, eInt_i, eInt_b, eEq_i, eNe_i, eEq_e, dRaise, dRetX, dTry, dGcd3, dIsB, dChain, dZip, dItT, dItL, dSl, dNoPart, dPart, dChain, dgUnl, dParO, notN_no, notN_t, isN_no, dRev, dParC, dOwnC, dMaxD, dEnum, capD, dLstN, dNGet, dWts, dItN, dHH, dHI, dIH, dMeth, dMeth0, dMake, dIsH, dSortD, dDcn, dYes, dHE, dLenH, dOwnG, dFor, dRng1, dItL]
          refine HAL he (dNe_eqs rfl sh_i1 (iteF ?_))
          exact HAL hn (dNe_eqs rfl sh_i1 hR')
        refine dIf_no (fun R' hR' => ?_) ?_
        · simp only [dSeq, dNext, dRet, dIf, dDrop, dAsg, dgName, dgNil, dgCons, dgTup, dPar, dPar3, dOwn, dApp, dFrz, dVar, dC, dOp, dI, dI0, dB0, dNeg, dTup, dLst, dBoolT, dAndT, dOrT, dNotT, dAndV, dOrV, dNotV, dCall, dCall0, dB, dIsi, dRepr, dAbs, dInt1, dInt2, dAll, dstart, dwipe, clean, Sl.clean, List.map_cons, List.map_nil, List.length_cons, List.length_nil, List.replicate, List.cons_append, List.nil_append, List.set_cons_zero, List.set_cons_succ, List.getElem?_cons_zero, List.getElem?_cons_succ, Nat.reduceAdd, Nat.reduceSub, Nat.add_zero, Nat.zero_add, Nat.add_sub_cancel, Nat.sub_self, atI_0, atI_1, atI_2, atI_3, dLtI, dLeI, dGtI, dGeI, dSub, dFd, dMod, dPow, eAdd_i, eAdd_l, eMul_i, eMul_l, eIx_l, eIx_t, eLen_l, eLen_t, eInt_i, eInt_b, eEq_i, eNe_i, eEq_e, dRaise, dRetX, dTry, dGcd3, dIsB, dChain, dZip, dItT, dItL, dSl, dNoPart, dPart, dChain, dgUnl, dParO, notN_no, notN_t, isN_no, dRev, dParC, dOwnC, dMaxD, dEnum, capD, dLstN, dNGet, dWts, dItN, dHH, dHI, dIH, dMeth, dMeth0, dMake, dIsH, dSortD, dDcn, dYes, dHE, dLenH, dOwnG, dFor, dRng1, dItL]
          refine LIN he (dNe_eqs (by rw [lin_sum e hne]) sh_i1 (iteF ?_))
          exact LIN hn (LIN he (dNe_eqs (by rw [lin_neg]) sh_i1 hR'))
        refine dSeq_g (fun σ => ∃ x2 x8 x14 x15 : Sl, σ = [.emp, .val SRC, x2, .val (.list (ps.map pD)), .val (.list (R.map rowD)), .val (hpT (addT R)), .val (.int (totT R)), .val (.str (PyData.shown (.list ((addT R).map rowD)))), x8, .val (heD e), .val (heD e.neg), .val (.int (filS (metE e) R)), .val (.int (filS (metE e.neg) R)), .val (.list ((R.filter fun r => linE e r.1).map fun r => PyData.int r.2)), x14, x15]) ?_ ?_
        · intro N hN
          simp only [dSeq, dNext, dRet, dIf, dDrop, dAsg, dgName, dgNil, dgCons, dgTup, dPar, dPar3, dOwn, dApp, dFrz, dVar, dC, dOp, dI, dI0, dB0, dNeg, dTup, dLst, dBoolT, dAndT, dOrT, dNotT, dAndV, dOrV, dNotV, dCall, dCall0, dB, dIsi, dRepr, dAbs, dInt1, dInt2, dAll, dstart, dwipe, clean, Sl.clean, List.map_cons, List.map_nil, List.length_cons, List.length_nil, List.replicate, List.cons_append, List.nil_append, List.set_cons_zero, List.set_cons_succ, List.getElem?_cons_zero, List.getElem?_cons_succ, Nat.reduceAdd, Nat.reduceSub, Nat.add_zero, Nat.zero_add, Nat.add_sub_cancel, Nat.sub_self, atI_0, atI_1, atI_2, atI_3, dLtI, dLeI, dGtI, dGeI, dSub, dFd, dMod, dPow, eAdd_i, eAdd_l, eMul_i, eMul_l, eIx_l, eIx_t, eLen_l, eLen_t, eInt_i, eInt_b, eEq_i, eNe_i, eEq_e, dRaise, dRetX, dTry, dGcd3, dIsB, dChain, dZip, dItT, dItL, dSl, dNoPart, dPart, dChain, dgUnl, dParO, notN_no, notN_t, isN_no, dRev, dParC, dOwnC, dMaxD, dEnum, capD, dLstN, dNGet, dWts, dItN, dHH, dHI, dIH, dMeth, dMeth0, dMake, dIsH, dSortD, dDcn, dYes, dHE, dLenH, dOwnG, dFor, dRng1, dItL]
          refine dLcc_mt R rowD (fun r => linE e r.1) (fun r => .int r.2) (fun P hP => ?_) (by omega) (fun r hr Q1 Q0 q1 q0 => ?_) ?_
          · simp only [dSeq, dNext, dRet, dIf, dDrop, dAsg, dgName, dgNil, dgCons, dgTup, dPar, dPar3, dOwn, dApp, dFrz, dVar, dC, dOp, dI, dI0, dB0, dNeg, dTup, dLst, dBoolT, dAndT, dOrT, dNotT, dAndV, dOrV, dNotV, dCall, dCall0, dB, dIsi, dRepr, dAbs, dInt1, dInt2, dAll, dstart, dwipe, clean, Sl.clean, List.map_cons, List.map_nil, List.length_cons, List.length_nil, List.replicate, List.cons_append, List.nil_append, List.set_cons_zero, List.set_cons_succ, List.getElem?_cons_zero, List.getElem?_cons_succ, Nat.reduceAdd, Nat.reduceSub, Nat.add_zero, Nat.zero_add, Nat.add_sub_cancel, Nat.sub_self, atI_0, atI_1, atI_2, atI_3, dLtI, dLeI, dGtI, dGeI, dSub, dFd, dMod, dPow, eAdd_i, eAdd_l, eMul_i, eMul_l, eIx_l, eIx_t, eLen_l, eLen_t, eInt_i, eInt_b, eEq_i, eNe_i, eEq_e, dRaise, dRetX, dTry, dGcd3, dIsB, dChain, dZip, dItT, dItL, dSl, dNoPart, dPart, dChain, dgUnl, dParO, notN_no, notN_t, isN_no, dRev, dParC, dOwnC, dMaxD, dEnum, capD, dLstN, dNGet, dWts, dItN, dHH, dHI, dIH, dMeth, dMeth0, dMake, dIsH, dSortD, dDcn, dYes, dHE, dLenH, dOwnG, dFor, dRng1, dItL, dItL]
            exact hP
          · have pk := k0.p r hr
            simp only [dSeq, dNext, dRet, dIf, dDrop, dAsg, dgName, dgNil, dgCons, dgTup, dPar, dPar3, dOwn, dApp, dFrz, dVar, dC, dOp, dI, dI0, dB0, dNeg, dTup, dLst, dBoolT, dAndT, dOrT, dNotT, dAndV, dOrV, dNotV, dCall, dCall0, dB, dIsi, dRepr, dAbs, dInt1, dInt2, dAll, dstart, dwipe, clean, Sl.clean, List.map_cons, List.map_nil, List.length_cons, List.length_nil, List.replicate, List.cons_append, List.nil_append, List.set_cons_zero, List.set_cons_succ, List.getElem?_cons_zero, List.getElem?_cons_succ, Nat.reduceAdd, Nat.reduceSub, Nat.add_zero, Nat.zero_add, Nat.add_sub_cancel, Nat.sub_self, atI_0, atI_1, atI_2, atI_3, dLtI, dLeI, dGtI, dGeI, dSub, dFd, dMod, dPow, eAdd_i, eAdd_l, eMul_i, eMul_l, eIx_l, eIx_t, eLen_l, eLen_t, eInt_i, eInt_b, eEq_i, eNe_i, eEq_e, dRaise, dRetX, dTry, dGcd3, dIsB, dChain, dZip, dItT, dItL, dSl, dNoPart, dPart, dChain, dgUnl, dParO, notN_no, notN_t, isN_no, dRev, dParC, dOwnC, dMaxD, dEnum, capD, dLstN, dNGet, dWts, dItN, dHH, dHI, dIH, dMeth, dMeth0, dMake, dIsH, dSortD, dDcn, dYes, dHE, dLenH, dOwnG, dFor, dRng1, dItL]
            refine ⟨r.1, e.a, e.b, e.c, 70, rfl, pk.b, he.1, he.2.1, he.2.2, by decide, Nat.le_trans pk.l (by decide), ?_⟩
            show if metE e r.1 = true then _ else _
            cases z : metE e r.1 with
            | true =>
              refine iteT ⟨r.1, e.neg.a, e.neg.b, e.neg.c, 70, rfl, pk.b, hn.1, hn.2.1, hn.2.2, by decide, Nat.le_trans pk.l (by decide), ?_⟩
              show if metE e.neg r.1 = true then _ else _
              cases z2 : metE e.neg r.1 with
              | true => exact iteT (q1 (by unfold linE; rw [z, z2]; rfl))
              | false => exact iteF (q0 (by unfold linE; rw [z, z2]; rfl))
            | false => exact iteF (iteF (q0 (by unfold linE; rw [z]; rfl)))
          · exact hN _ ⟨_, _, _, _, rfl⟩
        rintro σ2 ⟨x2, x8, x14, x15, rfl⟩
        refine dIf_not ?_ ⟨_, _, _, _, _, _, _, _, _, rfl⟩
        intro R' hR'
        simp only [dSeq, dNext, dRet, dIf, dDrop, dAsg, dgName, dgNil, dgCons, dgTup, dPar, dPar3, dOwn, dApp, dFrz, dVar, dC, dOp, dI, dI0, dB0, dNeg, dTup, dLst, dBoolT, dAndT, dOrT, dNotT, dAndV, dOrV, dNotV, dCall, dCall0, dB, dIsi, dRepr, dAbs, dInt1, dInt2, dAll, dstart, dwipe, clean, Sl.clean, List.map_cons, List.map_nil, List.length_cons, List.length_nil, List.replicate, List.cons_append, List.nil_append, List.set_cons_zero, List.set_cons_succ, List.getElem?_cons_zero, List.getElem?_cons_succ, Nat.reduceAdd, Nat.reduceSub, Nat.add_zero, Nat.zero_add, Nat.add_sub_cancel, Nat.sub_self, atI_0, atI_1, atI_2, atI_3, dLtI, dLeI, dGtI, dGeI, dSub, dFd, dMod, dPow, eAdd_i, eAdd_l, eMul_i, eMul_l, eIx_l, eIx_t, eLen_l, eLen_t, eInt_i, eInt_b, eEq_i, eNe_i, eEq_e, dRaise, dRetX, dTry, dGcd3, dIsB, dChain, dZip, dItT, dItL, dSl, dNoPart, dPart, dChain, dgUnl, dParO, notN_no, notN_t, isN_no, dRev, dParC, dOwnC, dMaxD, dEnum, capD, dLstN, dNGet, dWts, dItN, dHH, dHI, dIH, dMeth, dMeth0, dMake, dIsH, dSortD, dDcn, dYes, dHE, dLenH, dOwnG, dFor, dRng1, dItL]
        refine LIN he ?_
        refine dSum_m (xs := R.filter fun r => linE e r.1) (f := fun r : List Pt × Int => r.2) ?_
        refine dNe_eqs rfl sh_i1 (iteF ?_)
        refine ⟨[], .inl rfl, OKh.nil, ?_⟩
        rw [e0]
        refine ⟨addT [], e, 70, rfl, addT_nodup [], ROk.nil, he, by decide, ?_⟩
        rw [filS_addT]
        refine dNe_eqs rfl sh_i1 (iteF ?_)
        exact z_rows_c lR (by decide) ⟨rR, dNe_eq rfl hR'⟩
      · rintro σ' ⟨x2, x8, x9, x10, x11, x12, x13, x14, x15, rfl⟩
        exact ⟨_, _, _, _, _, _, _, _, _, _, _, _, _, _, rfl⟩
  · refine ⟨fun _ _ _ z _ => z.elim, fun d v H2 z _ _ _ r => ?_, fun _ _ _ z _ => z.elim, fun _ _ _ z _ => z.elim, fun _ _ _ _ z _ => z.elim⟩
    cases z
    cases r
    exact hQ _

end
theorem facts {P : Program} {w : World} {K : PySem.W.Frag} {h : Heap} {mg : Str → Option Value} {f : Addr} (X : K.In h) (G : h.Ns mainGlobals mg) (hfa : mg ("law" : Str) = some (.ref f)) (c : SaysE faL fnL exB K) :
  ∃ fd : FuncData, (∀ (s : Shared) (u : Value), BindsTo s fd ⟨[u], []⟩ [("_law_script", u)]) ∧ ∀ base : Heap, K.In base → base.Ns mainGlobals mg → (∀ p ∈ ([(142, 138)] : List (Addr × Addr)), LamX.TabB base mg p.1 p.2) → FnG P w K mg base 15 f fd ["_law_script"] (spLaw K) := by
  obtain ⟨f', fd, hm, hb, hF⟩ := ok_law (P := P) (w := w) (K := K) (mg := mg) (let ⟨fd, F⟩ := c.d.def_ 47 (d := d_law) rfl; ⟨_, fd, He.glo_ok X G (c.d.fact 47 (f := .glo "law") rfl), toFun F⟩)
  cases hm.symm.trans hfa
  exact ⟨fd, hb, fun base _ _ hT => hF base (tx_of X G c (by rfl) ⟨hT (142, 138) (by simp), by simp [lamTabs], fun p hp e => by simp only [lamTabs, List.mem_cons, List.not_mem_nil, or_false] at hp; (rcases hp with rfl) <;> first | rfl | (exact absurd e (by decide))⟩)⟩
end K41
open PySem PySem.W PyProof.Rows
set_option maxRecDepth 100000 in
set_option maxHeartbeats 0 in
theorem PySem.Challenge.cw_plateheaps_k41_half_plane_sums_holds : PySem.Challenge.rw_plateheaps_k41_half_plane_sums.Holds := by
  w_on; o_law; k_head; (case hw => w_witness2)
  k_fill
  refine PH.walkGT (l := PySem.Challenge.rw_plateheaps_k41_half_plane_sums) (k := 15) (x := "_law_script") (sp := PH.spLaw) (cs := [(142, 138)]) rfl (by decide) rfl ⟨rfl, by decide, by decide⟩ (fun w h Y => ⟨PySem.W.km_in_of Y, fun p hp => ?tb⟩) ?kc ?F ?S
  case tb =>
    simp only [List.mem_cons, List.not_mem_nil, or_false] at hp
    rcases hp with rfl <;> exact PySem.W.km_tabs_of Y _ (by simp)
  case kc =>
    intro q p hp
    simp only [List.mem_cons, List.not_mem_nil, or_false] at hp
    rcases hp with rfl <;> exact ⟨by kernel_rfl, by kernel_rfl⟩
  case S =>
    intro K H a ns hl hb hT hS
    refine ⟨a, ns, rfl, hS, hl, hb, fun p hp => ?_, fun _ => rfl⟩
    simp only [PH.lamTabs, List.mem_cons, List.not_mem_nil, or_false] at hp
    rcases hp with rfl
    · exact LamX.TabS.nil (hT (142, 138) (by simp))
  case F =>
    intro w mg fa h KX G hmg
    exact K41.facts KX G hmg ⟨by unfold He.SaysD; kernel_rfl, by kernel_rfl⟩

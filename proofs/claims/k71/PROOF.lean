import PyProof.Rows.All
import Wide.All
import OpenK.AllK
import Wide.FinOn
import Lean
import PyProof.EqAt
import PyProof.EqKinds
import PyProof.TupleCall
import PyProof.NeKinds
import KE.IntBitsLaws
import KE.KDictList
import KE.KRevIter
import KE.KSortTup
import KE.KDictSum
import PyProof.EnumMake
import PyProof.EnumFor
import PyProof.LayNew
import PyProof.Rows.EnumRows
import PyProof.SumAny
import PyProof.ListRange
import PyProof.FString5
import PyProof.CollectIter
import PyProof.TupleOfSeq
import PyProof.Rows.Tup
import PySem.Challenge.RW_endwise_k71_beyond
set_option Elab.async false
set_option linter.all false
set_option maxRecDepth 100000
/-! THE HAND LAYER, for ints, bools, texts, own classes, LISTS and tuples (index, slices, in, append, pop ..), calls, loops. Paste it whole ahead of your own text; what your proof does not reach may be deleted. -/
namespace L2
open PySem PySem.Spec PyProof.Rows

/-- a key: an int or a str -/
abbrev Key := Sum Int Str
def keyIs : Key → Value → Bool
  | .inl k, v => Value.isInt k v
  | .inr x, v => Value.isStrOf x v
def keyH (w : World) : Key → Int
  | .inl k => hashInt k
  | .inr x => hashStr w x
theorem keyIs_shape : ∀ {k : Key} {v : Value}, keyIs k v = true → (∃ i t, k = Sum.inl i ∧ v = Value.int i t) ∨ (∃ x t, k = Sum.inr x ∧ v = Value.str x t)
  | .inl i, v, h => by
    obtain ⟨t, e⟩ := Value.isInt_shape (k := i) (v := v) h
    exact .inl ⟨i, t, rfl, e⟩
  | .inr x, v, h => by
    obtain ⟨t, e⟩ := Value.isStrOf_shape (x := x) (v := v) h
    exact .inr ⟨x, t, rfl, e⟩
theorem key_ll (a b : Int) : decide ((Sum.inl a : Key) = Sum.inl b) = (a == b) := by
  by_cases e : a = b
  · subst e; simp
  · have h : ¬ (Sum.inl a : Key) = Sum.inl b := fun q => e (Sum.inl.inj q)
    rw [decide_eq_false h]
    exact (beq_eq_false_iff_ne.mpr e).symm
theorem key_rr (a b : Str) : decide ((Sum.inr a : Key) = Sum.inr b) = decide (a = b) := by
  by_cases e : a = b
  · subst e; simp
  · have h : ¬ (Sum.inr a : Key) = Sum.inr b := fun q => e (Sum.inr.inj q)
    rw [decide_eq_false h, decide_eq_false e]
theorem key_lr (a : Int) (b : Str) : decide ((Sum.inl a : Key) = Sum.inr b) = false := decide_eq_false (fun q => nomatch q)
theorem key_rl (a : Str) (b : Int) : decide ((Sum.inr a : Key) = Sum.inl b) = false := decide_eq_false (fun q => nomatch q)

def mixKind (prog : Program) (w : World) : PySem.KeyKind prog w Key where
  is := keyIs
  hash := keyH w
  inj := fun v a b ha hb => by
    rcases keyIs_shape ha with ⟨i, t, rfl, rfl⟩ | ⟨x, t, rfl, rfl⟩
    · rcases keyIs_shape hb with ⟨j, u, rfl, e⟩ | ⟨y, u, rfl, e⟩
      · injection e with e1 _; rw [e1]
      · exact nomatch e
    · rcases keyIs_shape hb with ⟨j, u, rfl, e⟩ | ⟨y, u, rfl, e⟩
      · exact nomatch e
      · injection e with e1 _; rw [e1]
  byValue := fun k v h => by
    rcases keyIs_shape h with ⟨i, t, rfl, rfl⟩ | ⟨x, t, rfl, rfl⟩ <;> rfl
  pyHash := fun hv h => by
    rcases keyIs_shape hv with ⟨i, t, rfl, rfl⟩ | ⟨x, t, rfl, rfl⟩
    · exact wpAny_pyHash_int h
    · exact wpAny_pyHash_str h
  eqBool := fun hu hv h => by
    rcases keyIs_shape hu with ⟨i, t, rfl, rfl⟩ | ⟨x, t, rfl, rfl⟩
    · rcases keyIs_shape hv with ⟨j, u, rfl, rfl⟩ | ⟨y, u, rfl, rfl⟩
      · rw [key_ll] at h; exact wpAny_eqBool_int h
      · rw [key_lr] at h; exact SeqAt.EqAt.int_str i t y u _ _ _ _ h
    · rcases keyIs_shape hv with ⟨j, u, rfl, rfl⟩ | ⟨y, u, rfl, rfl⟩
      · rw [key_rl] at h; exact SeqAt.EqAt.str_int x t j u _ _ _ _ h
      · rw [key_rr] at h; exact wpAny_eqBool_str h
  «strs» := fun k x t v h => by
    rcases keyIs_shape h with ⟨i, u, rfl, e⟩ | ⟨y, u, rfl, e⟩
    · exact nomatch e
    · injection e with e1 _
      subst e1
      cases v <;> rfl

end L2

namespace L2
open PySem PySem.Spec PyProof.Rows

/-- a value, without the heap -/
inductive V where
  | non | bl (b : Bool) | int (i : Int) | str (x : Str) | byt (b : Array UInt8) | flt (b : UInt64) | ref (a : Addr) | ty (n : String)
  deriving DecidableEq

def RelV : V → Value → Prop
  | .non, u => u = Value.none
  | .bl b, u => u = Value.bool b
  | .int i, u => ∃ t, u = Value.int i t
  | .str x, u => ∃ t, u = Value.str x t
  | .byt b, u => ∃ t, u = Value.bytes b t
  | .flt b, u => ∃ t, u = Value.float b t
  | .ref a, u => u = Value.ref a
  | .ty n, u => u = Value.type n

abbrev Vals : List V → List Value → Prop := Paired RelV
theorem Vals.length {xs : List V} {us : List Value} (r : Vals xs us) : xs.length = us.length := Paired.length r
theorem Vals.get : ∀ {xs : List V} {us : List Value} {i : Nat} {x : V}, Vals xs us → xs[i]? = some x → ∃ u, us[i]? = some u ∧ RelV x u
  | _, _, _, _, .nil, e => by simp at e
  | _, _, 0, _, .cons r _, e => by simp at e; subst e; exact ⟨_, rfl, r⟩
  | _, _, i + 1, x, .cons _ t, e => by
    obtain ⟨u, h1, h2⟩ := Vals.get (i := i) (x := x) t (by simpa using e)
    exact ⟨u, by simpa using h1, h2⟩
theorem Vals.append : ∀ {xs ys : List V} {us ws : List Value}, Vals xs us → Vals ys ws → Vals (xs ++ ys) (us ++ ws)
  | _, _, _, _, .nil, s => s
  | _, _, _, _, .cons r t, s => .cons r (Vals.append t s)
theorem Vals.take : ∀ {xs : List V} {us : List Value} (n : Nat), Vals xs us → Vals (xs.take n) (us.take n)
  | _, _, 0, _ => .nil
  | _, _, _ + 1, .nil => .nil
  | _, _, n + 1, .cons r t => .cons r (Vals.take n t)
theorem Vals.drop : ∀ {xs : List V} {us : List Value} (n : Nat), Vals xs us → Vals (xs.drop n) (us.drop n)
  | _, _, 0, r => r
  | _, _, _ + 1, .nil => .nil
  | _, _, n + 1, .cons _ t => Vals.drop n t
def RelO : Option V → Option Value → Prop
  | some v, some u => RelV v u
  | none, none => True
  | _, _ => False
def KV {κ : Type} : List (κ × V) → List (κ × Value) → Prop := Paired fun (p : κ × V) (q : κ × Value) => p.1 = q.1 ∧ RelV p.2 q.2

/-- a key of a dict (00_mix): an int or a text -/
def kV : Key → V
  | .inl i => .int i
  | .inr x => .str x

/-- what stands at a tracked address -/
inductive HO where
  /-- a list -/
  | lst (xs : List V)
  /-- a tuple (never changes) -/
  | tup (xs : List V)
  /-- a dict whose keys are ints and texts; one whose keys are tuples of ints and texts (the empty one is both) -/
  | dK (kvs : List (Key × V)) | dT (kvs : List (List Key × V))
  /-- a set of ints: its members, its size -/
  | set (S : Int → Bool) (n : Nat)
  /-- an instance of the class at C, its dict at dx, its attributes -/
  | ins (C dx : Addr) (fs : List (Str × V))
  /-- the dict of the instance at x -/
  | own (x : Addr)
  /-- the dict of an exception -/
  | xd (fs : List (Str × V))
  /-- a bound method, f of x -/
  | met (f x : Addr)
  /-- a range object lo, lo + 1, .. below hi -/
  | rng (lo hi : Int)
  /-- a thing that is known to the object (the script; a dict while a loop walks it): read, never written while it is so -/
  | frz (o : Obj) (u : HO)
  /-- a code object's table -/
  | tbl (ps : Array Value)
  /-- any other thing, by what is true of its one object (a def of one's own: SetO a S n := HO.ext fun h => ..) -/
  | ext (φ : Heap → Prop)

abbrev Hp := Addr → Option HO
def upd (H : Hp) (a : Addr) (o : HO) : Hp := fun b => if b = a then some o else H b
theorem upd_same {H : Hp} {a : Addr} {o : HO} : upd H a o a = some o := by unfold upd; rw [if_pos rfl]
theorem upd_ne {H : Hp} {a b : Addr} {o : HO} (h : b ≠ a) : upd H a o b = H b := by unfold upd; rw [if_neg h]
theorem ne_of_none {H : Hp} {a b : Addr} {o : HO} (h : H a = some o) (h' : H b = none) : a ≠ b := by
  intro e; subst e; rw [h] at h'; cases h'

section
variable (P : Program) (w : World)
def ObjOk (H : Hp) (h : Heap) (a : Addr) : HO → Prop
  | .lst xs => xs.length ≤ sizeLine ∧ ∃ (its : List Value) (n : Nat), Vals xs its ∧ h.get? a = some { cls := .type "list", data := .seq its.toArray n }
  | .tup xs => xs.length ≤ sizeLine ∧ ∃ its : List Value, Vals xs its ∧ IsTup h a its.toArray
  | .dK kvs => kvs.length ≤ sizeLine ∧ (a == sysModules) = false ∧ ∃ vs, KV kvs vs ∧ h.DictOf (mixKind P w) a vs
  | .dT kvs => kvs.length ≤ sizeLine ∧ (a == sysModules) = false ∧ ∃ xs : List (List Key × Addr × Value),
      Paired (fun (p : List Key × V) (q : List Key × Addr × Value) => p.1 = q.1 ∧ H q.2.1 = some (.tup (p.1.map kV)) ∧ RelV p.2 q.2.2) kvs xs ∧
      ∃ o es ep, h.get? a = some o ∧ o.ExactDict ∧ o.data = .dict es ep ∧ es.toList = xs.map (entryOfKey (tupleKind (mixKind P w))) ∧ (xs.map (·.1)).Nodup
  | .set S n => h.SetOf (intKind P w) a S n
  | .ins C dx fs => H dx = some (.own a) ∧ fs.length ≤ 1000 ∧ dx ≠ a ∧ h.get? a = some (PySem.W.instObj C dx) ∧
      ∃ mA, h.Ns1 dx mA ∧ (∀ f, RelO (fs.lookup f) (mA f)) ∧ PySem.Within mA (fs.map (·.1))
  | .own _ => ∃ o, h.get? a = some o
  | .xd fs => ∃ mA, h.Ns1 a mA ∧ ∀ f, RelO (fs.lookup f) (mA f)
  | .rng lo hi => ∃ t u v, h.get? a = some { cls := .type "range", data := .fields #[.int lo t, .int hi u, .int 1 v] }
  | .frz o u => h.get? a = some o ∧ ObjOk H h a u
  | .tbl ps => h.get? a = some { cls := .none, data := .fields ps }
  | .met f x => h.get? a = some (PySem.W.methodObj (.ref f) (.ref x))
  | .ext φ => φ h ∧ (∃ o, h.get? a = some o) ∧ ∀ h1 h2 : Heap, φ h1 → (∀ o, h1.get? a = some o → h2.get? a = some o) → φ h2
/-- the abstract heap is held -/
def HOk (H : Hp) (h : Heap) : Prop := ∀ a o, H a = some o → ObjOk P w H h a o
end

section
variable {P : Program} {w : World} {H H' : Hp} {h h' : Heap} {a : Addr} {o : HO}
theorem ObjOk.lt (x : ObjOk P w H h a o) : a < h.objs.size := by
  cases o with
  | lst xs => obtain ⟨_, _, _, _, e⟩ := x; exact Heap.lt_size e
  | tup xs => obtain ⟨_, _, _, p⟩ := x; exact p.lt
  | dK kvs => obtain ⟨_, _, _, _, o, _, _, e, _⟩ := x; exact Heap.lt_size e
  | dT kvs => obtain ⟨_, _, _, _, o, _, _, e, _⟩ := x; exact Heap.lt_size e
  | set S n => obtain ⟨o, _, _, _, e, _⟩ := x; exact Heap.lt_size e
  | ins C dx fs => obtain ⟨_, _, _, e, _⟩ := x; exact Heap.lt_size e
  | own y => obtain ⟨_, e⟩ := x; exact Heap.lt_size e
  | xd fs => obtain ⟨_, ⟨_, _, _, e, _⟩, _⟩ := x; exact Heap.lt_size e
  | rng lo hi => obtain ⟨_, _, _, e⟩ := x; exact Heap.lt_size e
  | frz ob u => obtain ⟨e, _⟩ := x; exact Heap.lt_size e
  | tbl ps => exact Heap.lt_size (show h.get? a = some _ from x)
  | met f y => exact Heap.lt_size (show h.get? a = some _ from x)
  | ext φ => obtain ⟨_, ⟨_, e⟩, _⟩ := x; exact Heap.lt_size e
theorem Paired.mapP {α β : Type} {F G : α → β → Prop} : ∀ {l₁ : List α} {l₂ : List β}, Paired F l₁ l₂ → (∀ a b, F a b → G a b) → Paired G l₁ l₂
  | _, _, .nil, _ => .nil
  | _, _, .cons r t, f => .cons (f _ _ r) (Paired.mapP t f)
/-- what an object's description leans on: its own object, its own dict, the tuples -/
theorem ObjOk.stay (x : ObjOk P w H h a o) (k : ∀ b u, (b = a ∨ H b = some (.own a)) → h.get? b = some u → h'.get? b = some u)
    (ho : ∀ b, H b = some (.own a) → H' b = some (.own a)) (ht : ∀ b xs, H b = some (.tup xs) → H' b = some (.tup xs)) : ObjOk P w H' h' a o := by
  induction o with
  | lst xs => obtain ⟨z, its, n, r, e⟩ := x; exact ⟨z, its, n, r, k _ _ (.inl rfl) e⟩
  | tup xs => obtain ⟨z, its, r, ob, e, c⟩ := x; exact ⟨z, its, r, ob, k _ _ (.inl rfl) e, c⟩
  | dK kvs => obtain ⟨z, y, vs, r, ob, es, ep, e, c⟩ := x; exact ⟨z, y, vs, r, ob, es, ep, k _ _ (.inl rfl) e, c⟩
  | dT kvs =>
    obtain ⟨z, y, xs, r, ob, es, ep, e, c⟩ := x
    exact ⟨z, y, xs, Paired.mapP r fun p q z => ⟨z.1, ht _ _ z.2.1, z.2.2⟩, ob, es, ep, k _ _ (.inl rfl) e, c⟩
  | set S n => obtain ⟨ob, es, ep, t, e, c⟩ := x; exact ⟨ob, es, ep, t, k _ _ (.inl rfl) e, c⟩
  | ins C dx fs =>
    obtain ⟨d, z, ne, e, mA, ⟨od, es, ep, e2, c⟩, r⟩ := x
    exact ⟨ho _ d, z, ne, k _ _ (.inl rfl) e, mA, ⟨od, es, ep, k _ _ (.inr d) e2, c⟩, r⟩
  | own y => obtain ⟨ob, e⟩ := x; exact ⟨ob, k _ _ (.inl rfl) e⟩
  | xd fs => obtain ⟨mA, ⟨od, es, ep, e, c⟩, r⟩ := x; exact ⟨mA, ⟨od, es, ep, k _ _ (.inl rfl) e, c⟩, r⟩
  | rng lo hi => obtain ⟨t, u, v, e⟩ := x; exact ⟨t, u, v, k _ _ (.inl rfl) e⟩
  | frz ob u ih => obtain ⟨e, q⟩ := x; exact ⟨k _ _ (.inl rfl) e, ih q⟩
  | tbl ps =>
    have e : h.get? a = some { cls := .none, data := .fields ps } := x
    show h'.get? a = some { cls := .none, data := .fields ps }
    exact k a _ (.inl rfl) e
  | met f y =>
    have e : h.get? a = some (PySem.W.methodObj (.ref f) (.ref y)) := x
    show h'.get? a = some (PySem.W.methodObj (.ref f) (.ref y))
    exact k a _ (.inl rfl) e
  | ext φ => obtain ⟨p, ⟨o, e⟩, st⟩ := x; exact ⟨st _ _ p fun o q => k _ _ (.inl rfl) q, ⟨o, k _ _ (.inl rfl) e⟩, st⟩
theorem HOk.lt (x : HOk P w H h) (e : H a = some o) : a < h.objs.size := (x a o e).lt
theorem HOk.fresh (x : HOk P w H h) (e : h.objs.size ≤ a) : H a = none := by
  cases q : H a with
  | none => rfl
  | some u => exact absurd (Nat.lt_of_lt_of_le (x.lt q) e) (Nat.lt_irrefl _)
/-- every object of the heap is kept -/
theorem HOk.kept (x : HOk P w H h) (k : ∀ b u, h.get? b = some u → h'.get? b = some u) : HOk P w H h' := fun a o e =>
  (x a o e).stay (fun b u _ q => k b u q) (fun _ q => q) fun _ _ q => q
/-- a new object is laid and tracked -/
theorem HOk.laid (x : HOk P w H h) (k : ∀ b u, h.get? b = some u → h'.get? b = some u) (hp : h.objs.size ≤ a) (new : ObjOk P w (upd H a o) h' a o) : HOk P w (upd H a o) h' := fun b u e => by
  have hn := x.fresh hp
  by_cases hb : b = a
  · subst hb; rw [upd_same] at e; cases e; exact new
  · rw [upd_ne hb] at e
    exact (x b u e).stay (fun c v _ q => k c v q) (fun c q => by rw [upd_ne (ne_of_none q hn)]; exact q) fun c xs q => by rw [upd_ne (ne_of_none q hn)]; exact q
end

/-- what may be read as u: it is u, or a known u -/
def Rd (H : Hp) (a : Addr) (u : HO) : Prop := H a = some u ∨ ∃ o, H a = some (.frz o u)
theorem Rd.ok {P : Program} {w : World} {H : Hp} {h : Heap} {a : Addr} {u : HO} (r : Rd H a u) (x : HOk P w H h) : ObjOk P w H h a u := by
  rcases r with r | ⟨o, r⟩
  · exact x a u r
  · obtain ⟨_, q⟩ := x a _ r
    exact q
/-- what may be written -/
def Mut : Option HO → Prop
  | some (.lst _) => True
  | some (.dK _) => True
  | some (.dT _) => True
  | some (.set _ _) => True
  | some (.ins _ _ _) => True
  | some (.ext _) => True
  | _ => False
section
variable {P : Program} {w : World} {H : Hp} {h h' : Heap} {x e : Addr} {o' : HO}
/-- the object at e is changed: x itself, or the dict of the instance x -/
theorem HOk.write (ok : HOk P w H h) (mu : Mut (H x)) (he : e = x ∨ H e = some (.own x)) (k : ∀ b u, b ≠ e → h.get? b = some u → h'.get? b = some u) (heo : ∃ u, h'.get? e = some u)
    (new : ObjOk P w (upd H x o') h' x o') : HOk P w (upd H x o') h' := fun b u q => by
  have nown : ∀ c y, H c = some (.own y) → c ≠ x := fun c y r z => by subst z; rw [r] at mu; exact mu
  have ntup : ∀ c xs, H c = some (.tup xs) → c ≠ x := fun c xs r z => by subst z; rw [r] at mu; exact mu
  by_cases hb : b = x
  · subst hb; rw [upd_same] at q; cases q; exact new
  · rw [upd_ne hb] at q
    by_cases hbe : b = e
    · have q' : H b = some (.own x) := by
        rcases he with z | z
        · exact absurd (hbe.trans z) hb
        · rw [hbe]; exact z
      rw [q] at q'; cases q'
      obtain ⟨v, hv⟩ := heo
      exact ⟨v, by rw [hbe]; exact hv⟩
    · refine (ok b u q).stay (fun c v hc r => k c v ?_ r) (fun c r => by rw [upd_ne (nown c b r)]; exact r) fun c xs r => by rw [upd_ne (ntup c xs r)]; exact r
      rcases hc with rfl | hc
      · exact hbe
      · rintro rfl
        rcases he with z | z
        · exact nown c b hc z
        · rw [hc] at z; cases z; exact hb rfl
end

/-! ### kept unless tracked; of the frames at fs (the callers') the slots may change (an exception that passes writes there); of the records at ex (iterators) nothing is said -/
structure Un (fs ex : List Addr) (H H' : Hp) (h h' : Heap) : Prop where
  keep : ∀ b o, h.get? b = some o → H b = none → b ∉ fs → b ∉ ex → h'.get? b = some o
  slot : ∀ b o, h.get? b = some o → H b = none → b ∈ fs → b ∉ ex → ∃ sl, h'.get? b = some { o with slots := sl }
  free : ∀ b o, h.get? b = some o → H b = none → b ∉ ex → H' b = none
  there : ∀ b o, h.get? b = some o → b ∉ ex → ∃ o', h'.get? b = some o'
  tups : ∀ b xs, H b = some (.tup xs) → H' b = some (.tup xs)
  frzs : ∀ b o u, H b = some (.frz o u) → H' b = some (.frz o u)
  tbls : ∀ b ps, H b = some (.tbl ps) → ∃ more, H' b = some (.tbl (ps ++ more))
section
variable {fs fs' ex ex' : List Addr} {H H1 H2 : Hp} {h h1 h2 h' : Heap} {a x e : Addr} {o : HO}
theorem Un.any (u : Un fs ex H H1 h h1) {b : Addr} {ob : Obj} (q : h.get? b = some ob) (n : H b = none) (hx : b ∉ ex) : ∃ sl, h1.get? b = some { ob with slots := sl } := by
  by_cases hb : b ∈ fs
  · exact u.slot b ob q n hb hx
  · exact ⟨ob.slots, u.keep b ob q n hb hx⟩
theorem Un.kept (k : ∀ b u, h.get? b = some u → h'.get? b = some u) : Un fs ex H H h h' :=
  ⟨fun b ob q _ _ _ => k b ob q, fun b ob q _ _ _ => ⟨ob.slots, k b ob q⟩, fun _ _ _ n _ => n, fun b ob q _ => ⟨ob, k b ob q⟩, fun _ _ q => q, fun _ _ _ q => q, fun _ ps q => ⟨#[], by rw [q]; simp⟩⟩
theorem Un.refl : Un fs ex H H h h := Un.kept fun _ _ q => q
theorem Un.laid (k : ∀ b u, h.get? b = some u → h'.get? b = some u) (hp : h.objs.size ≤ a) (hn : H a = none) : Un fs ex H (upd H a o) h h' where
  keep := fun b u q _ _ _ => k b u q
  slot := fun b u q _ _ _ => ⟨u.slots, k b u q⟩
  free := fun b u q n _ => by rw [upd_ne (Nat.ne_of_lt (Nat.lt_of_lt_of_le (Heap.lt_size q) hp))]; exact n
  there := fun b u q _ => ⟨u, k b u q⟩
  tups := fun b xs q => by rw [upd_ne (ne_of_none q hn)]; exact q
  frzs := fun b u xs q => by rw [upd_ne (ne_of_none q hn)]; exact q
  tbls := fun b ps q => ⟨#[], by rw [upd_ne (ne_of_none q hn), q]; simp⟩
theorem Un.write (mu : Mut (H x)) (he : e = x ∨ H e = some (.own x)) (k : ∀ b u, b ≠ e → h.get? b = some u → h'.get? b = some u) (heo : ∃ u, h'.get? e = some u) : Un fs ex H (upd H x o) h h' := by
  have hx : ∀ b, H b = none → b ≠ x := fun b n z => by subst z; rw [n] at mu; exact mu
  have hb : ∀ b, H b = none → b ≠ e := fun b n z => by
    subst z
    rcases he with r | r
    · exact hx b n r
    · rw [n] at r; cases r
  have hm : ∀ b u, H b = some u → ¬ Mut (some u) → b ≠ x := fun b u q nm z => by subst z; rw [q] at mu; exact nm mu
  refine ⟨fun b u q n _ _ => k b u (hb b n) q, fun b u q n _ _ => ⟨u.slots, k b u (hb b n) q⟩, fun b u q n _ => by rw [upd_ne (hx b n)]; exact n, fun b u q _ => ?_,
    fun b xs q => by rw [upd_ne (hm b _ q fun z => z)]; exact q, fun b u xs q => by rw [upd_ne (hm b _ q fun z => z)]; exact q, fun b ps q => ⟨#[], by rw [upd_ne (hm b _ q fun z => z), q]; simp⟩⟩
  by_cases hbe : b = e
  · subst hbe; exact heo
  · exact ⟨u, k b u hbe q⟩
end

/-! ### the heap without what is tracked -/
def trk (h : Heap) (H : Hp) : List Addr := (List.range h.objs.size).filter fun a => (H a).isSome
def hidT (h : Heap) (H : Hp) : Heap := PySem.W.hideAll h (trk h H)
theorem hidT_size (h : Heap) (H : Hp) : (hidT h H).objs.size = h.objs.size := PySem.W.hideAll_size _ _
theorem hidT_get {h : Heap} {H : Hp} {b : Addr} {o : Obj} (e : h.get? b = some o) (n : H b = none) : (hidT h H).get? b = some o :=
  PySem.W.hideAll_get _ e fun hm => by
    have q : (H b).isSome = true := (List.mem_filter.mp hm).2
    rw [n] at q; simp at q
theorem of_hidT {h : Heap} {H : Hp} {b : Addr} {o : Obj} (e : (hidT h H).get? b = some o) : h.get? b = some o ∧ H b = none := by
  have e' : h.get? b = some o := PySem.W.of_hideAll (trk h H) e
  refine ⟨e', ?_⟩
  cases q : H b with
  | none => rfl
  | some x =>
    have hm : b ∈ trk h H := List.mem_filter.mpr ⟨List.mem_range.mpr (Heap.lt_size e'), by simp [q]⟩
    have z : (hidT h H).get? b = none := PySem.W.hideAll_none (trk h H) hm
    rw [z] at e; cases e

/-! ### OpenK's ledger, filled with every new object but one -/
def allNews (g h : Heap) (L : Addr) : List (Addr × Obj) := (List.range h.objs.size).filterMap fun a => if a = L ∨ (g.get? a).isSome = true then none else (h.get? a).map fun o => (a, o)
def rest (g h : Heap) (L d : Addr) : List (Addr × Obj) := (allNews g h L).filter fun p => decide (p.1 ≠ d)
end L2

namespace L2
open PySem PySem.Spec PyProof.Rows

/-- the module's facts, over the base: the heap at the law's entry without what is tracked there -/
structure Mod (K : PySem.W.Frag) (mg : Str → Option Value) (base : Heap) : Prop where
  kin : K.In base
  glob : base.Ns mainGlobals mg
  blt : ∃ mb, base.Ns builtinsNs mb ∧ ∀ x : Str, x ≠ "__name__" → mb x = bootBuiltins x
  nolimit : base.NoLimit

/-- the context: a def's body (or a comprehension's block) running. base: fixed through the whole law; s₀, H₀: the entry; outer: the frames whose slots others may change (a def's callers); stack: all frames that run;
   ex: iterators that were made ahead of the entry and are walked here (a comprehension's); fn: the names whose cells were made at the entry (a def: all; a comprehension's block: its own); calm: not within an except suite; pn: pins that every state bears; xe: what is wanted of an exception that leaves the code -/
structure Cx where
  prog : Program
  w : World
  K : PySem.W.Frag
  mg : Str → Option Value
  base : Heap
  A : Around
  N : List Str
  s₀ : Shared
  H₀ : Hp
  env : Env
  outer : List Env
  stack : List Env
  ex : List Addr
  fn : Str → Bool
  calm : Bool
  pn : List (Addr × Obj)
  xe : Value → Shared → Prop
/-- the callers' frames -/
def frs (l : List Env) : List Addr := l.filterMap (·.frame)
abbrev Cx.fs (X : Cx) : List Addr := frs X.outer

def Vis (sc : Scope) (x : Str) : Prop := sc.names.lookup x = some .local ∨ sc.names.lookup x = some .cell ∨ sc.names.lookup x = some .free
def Loc (sc : Scope) (x : Str) : Prop := sc.names.lookup x = some .local ∨ sc.names.lookup x = some .cell
def Look (env : Env) (h : Heap) (m : Str → Option Value) (x : Str) (u : Value) : Prop :=
  (env.kindOf x = some .local ∧ m x = some u) ∨ ((env.kindOf x = some .cell ∨ env.kindOf x = some .free) ∧ ∃ c, env.cells.lookup x = some c ∧ h.IsCell c (some u))

structure Cx.Ok (X : Cx) : Prop where
  mod : Mod X.K X.mg X.base
  kind : X.env.scope.kind = .function
  glob : X.env.globals = mainGlobals
  blt : X.env.builtins = builtinsNs
  above : X.s₀.heap.objs.size ≤ X.env.locals
  inj : ∀ x y c, X.env.cells.lookup x = some c → X.env.cells.lookup y = some c → x = y
  has : ∀ x, (X.env.kindOf x = some .cell ∨ X.env.kindOf x = some .free) → ∃ c, X.env.cells.lookup x = some c
  cab : ∀ x c, X.fn x = true → X.env.cells.lookup x = some c → X.s₀.heap.objs.size ≤ c
  hd : X.calm = true → X.A.handled = none
  frames : X.A.frames = some X.stack
  stk : X.stack = X.outer ∨ (X.stack = X.env :: X.outer ∧ X.env.frame = some X.env.locals)
  exf : ∀ b ∈ X.ex, b ≠ X.env.locals ∧ ∀ x c, X.env.cells.lookup x = some c → c ≠ b
  bs : ∀ b o, X.base.get? b = some o → X.s₀.heap.get? b = some o ∧ X.H₀ b = none
  bsz : X.base.objs.size ≤ X.s₀.heap.objs.size
  noex : ∀ b o, X.base.get? b = some o → b ∉ X.ex
  exfs : ∀ b ∈ X.ex, b ∉ X.fs
  funs : X.s₀.heap.FunFrames X.base X.outer
  frf : ∀ b ∈ X.fs, X.H₀ b = none

structure Inv (X : Cx) (pins : List (Addr × Obj)) (σ : List (Option V)) (H : Hp) (s : Shared) : Prop where
  ok : X.Ok
  os : s.os = X.s₀.os
  bare : AllBare s.gens
  base : Un X.fs X.ex X.H₀ H X.s₀.heap s.heap
  loc : ∃ m, s.heap.Ns X.env.locals m ∧ ∀ (i : Nat) (x : Str) (v : V), X.N[i]? = some x → σ[i]? = some (some v) → Vis X.env.scope x → ∃ u, RelV v u ∧ Look X.env s.heap m x u
  cell : ∀ x c, X.env.cells.lookup x = some c → ∃ v, s.heap.IsCell c v
  free : H X.env.locals = none
  freeC : ∀ x c, X.env.cells.lookup x = some c → H c = none
  pin : ∀ p ∈ X.pn ++ pins, s.heap.get? p.1 = some p.2 ∧ H p.1 = none ∧ p.1 ≠ X.env.locals ∧ p.1 ∉ X.fs ∧ ∀ v, p.2.data ≠ .cell v
  hok : HOk X.prog X.w H s.heap
  len : σ.length = X.N.length

section
variable {X : Cx} {pins : List (Addr × Obj)} {σ : List (Option V)} {H H' : Hp} {s : Shared} {h' : Heap}

theorem Cx.Ok.nofr (ok : X.Ok) {b : Addr} {o : Obj} (e : X.base.get? b = some o) : b ∉ X.fs := fun hb => by
  have := (ok.funs.mem hb).1
  rw [e] at this; cases this
theorem Inv.bs (I : Inv X pins σ H s) : ∀ b o, X.base.get? b = some o → s.heap.get? b = some o ∧ H b = none := fun b o e =>
  ⟨I.base.keep b o (I.ok.bs b o e).1 (I.ok.bs b o e).2 (I.ok.nofr e) (I.ok.noex b o e), I.base.free b o (I.ok.bs b o e).1 (I.ok.bs b o e).2 (I.ok.noex b o e)⟩
theorem Inv.bk (I : Inv X pins σ H s) : ∀ b o, X.base.get? b = some o → s.heap.get? b = some o := fun b o e => (I.bs b o e).1
theorem Inv.mod (I : Inv X pins σ H s) : Mod X.K X.mg X.base := I.ok.mod
theorem Inv.kIn (I : Inv X pins σ H s) : X.K.In s.heap := I.ok.mod.kin.keeps I.bk
theorem Inv.lt (I : Inv X pins σ H s) : X.env.locals < s.heap.objs.size := let ⟨_, hn, _⟩ := I.loc; hn.lt
theorem Inv.sz (I : Inv X pins σ H s) : X.s₀.heap.objs.size ≤ s.heap.objs.size := Nat.le_trans I.ok.above (Nat.le_of_lt I.lt)
theorem Inv.nofs (I : Inv X pins σ H s) {a : Addr} (h : s.heap.objs.size ≤ a) : a ∉ X.fs := fun hb => by
  obtain ⟨_, o, ho, _⟩ := I.ok.funs.mem hb
  exact absurd (Nat.lt_of_lt_of_le (Heap.lt_size ho) (Nat.le_trans I.sz h)) (Nat.lt_irrefl _)
theorem Inv.cne (I : Inv X pins σ H s) : ∀ x c, X.env.cells.lookup x = some c → c ≠ X.env.locals := fun x c e z => by
  obtain ⟨v, o, ho, hd⟩ := I.cell x c e
  obtain ⟨m, ⟨o', es, ep, ho', hd', _⟩, _⟩ := I.loc
  rw [z, ho'] at ho; cases ho; rw [hd'] at hd; cases hd
theorem Inv.funs (I : Inv X pins σ H s) : s.heap.FunFrames X.base X.outer := by
  have all : ∀ (l : List Env), (∀ b ∈ frs l, b ∈ X.fs) → X.s₀.heap.FunFrames X.base l → s.heap.FunFrames X.base l := by
    intro l
    induction l with
    | nil => intro _ _; trivial
    | cons env r ih =>
      intro hs hl
      obtain ⟨hk, ⟨L, o, hf, hn, ho, hd⟩, hr⟩ := hl
      have hL : L ∈ X.fs := hs L (by unfold frs; rw [List.filterMap_cons, hf]; exact List.mem_cons_self)
      obtain ⟨sl, e⟩ := I.base.slot L o ho (I.ok.frf L hL) hL fun z => I.ok.exfs L z hL
      exact ⟨hk, ⟨L, _, hf, hn, e, hd⟩, ih (fun b hb => hs b (by unfold frs; rw [List.filterMap_cons, hf]; exact List.mem_cons_of_mem _ hb)) hr⟩
  exact all X.outer (fun _ hb => hb) I.ok.funs

/-- the frames that run, for a call -/
theorem Inv.stack (I : Inv X pins σ H s) : s.heap.FunFrames X.base X.stack := by
  rcases I.ok.stk with e | ⟨e, hf⟩
  · rw [e]; exact I.funs
  · rw [e]
    obtain ⟨m, hn, _⟩ := I.loc
    refine .cons (by rw [I.ok.kind]; decide) hf hn ?_ I.funs
    exact Heap.get?_none_of_le (Nat.le_trans I.ok.bsz I.ok.above)
theorem Inv.stkSub (I : Inv X pins σ H s) : ∀ b ∈ frs X.stack, b ∈ X.env.locals :: X.fs := fun b hb => by
  rcases I.ok.stk with e | ⟨e, hf⟩
  · rw [e] at hb; exact List.mem_cons_of_mem _ hb
  · rw [e] at hb
    unfold frs at hb
    rw [List.filterMap_cons, hf] at hb
    exact hb
theorem Inv.stkFree (I : Inv X pins σ H s) : ∀ b ∈ frs X.stack, H b = none := fun b hb => by
  rcases List.mem_cons.mp (I.stkSub b hb) with e | hb
  · rw [e]; exact I.free
  · obtain ⟨_, o, ho, _⟩ := I.ok.funs.mem hb
    exact I.base.free b o ho (I.ok.frf b hb) fun z => I.ok.exfs b z hb

/-- THE STEP: the untracked objects but the frame and the records at ch are kept (the callers' frames up to slots), the frame's map is kept, the new abstract heap is held -/
theorem Inv.step {g' : Array GenState} {t' : Nat} {d' : Drawn} {ch : List Addr} (I : Inv X pins σ H s)
    (hch : ∀ b ∈ ch, (b ∈ X.ex ∨ X.s₀.heap.objs.size ≤ b) ∧ b ≠ X.env.locals ∧ (∀ x c, X.env.cells.lookup x = some c → c ≠ b) ∧ ∀ p ∈ X.pn ++ pins, p.1 ≠ b)
    (keep : ∀ b o, b ≠ X.env.locals → b ∉ X.fs → b ∉ ch → s.heap.get? b = some o → H b = none → h'.get? b = some o)
    (slot : ∀ b o, b ≠ X.env.locals → b ∈ X.fs → b ∉ ch → s.heap.get? b = some o → H b = none → ∃ sl, h'.get? b = some { o with slots := sl }) (free : ∀ b o, b ∉ ch → s.heap.get? b = some o → H b = none → H' b = none)
    (there : ∀ b o, b ∉ ch → s.heap.get? b = some o → ∃ o', h'.get? b = some o')
    (tups : ∀ b xs, H b = some (.tup xs) → H' b = some (.tup xs)) (frzs : ∀ b o u, H b = some (.frz o u) → H' b = some (.frz o u)) (tbls : ∀ b ps, H b = some (.tbl ps) → ∃ more, H' b = some (.tbl (ps ++ more)))
    (ns : ∀ m, s.heap.Ns X.env.locals m → h'.Ns X.env.locals m) (hok : HOk X.prog X.w H' h') (hg : AllBare g') :
    Inv X pins σ H' { s with heap := h', gens := g', drawn := d', toks := t' } := by
  have neL : ∀ b o, X.s₀.heap.get? b = some o → b ≠ X.env.locals := fun b o e => Nat.ne_of_lt (Nat.lt_of_lt_of_le (Heap.lt_size e) I.ok.above)
  have neC : ∀ b o, X.s₀.heap.get? b = some o → b ∉ X.ex → b ∉ ch := fun b o e hx hb => by
    rcases (hch b hb).1 with z | z
    · exact hx z
    · exact absurd (Nat.lt_of_lt_of_le (Heap.lt_size e) z) (Nat.lt_irrefl _)
  have cellK : ∀ x c, X.env.cells.lookup x = some c → ∀ v, s.heap.IsCell c v → h'.IsCell c v := fun x c e v ⟨o, ho, hd⟩ => by
    have nch : c ∉ ch := fun z => (hch c z).2.2.1 x c e rfl
    by_cases hc : c ∈ X.fs
    · obtain ⟨sl, q⟩ := slot c o (I.cne x c e) hc nch ho (I.freeC x c e)
      exact ⟨_, q, hd⟩
    · exact ⟨o, keep c o (I.cne x c e) hc nch ho (I.freeC x c e), hd⟩
  refine ⟨I.ok, I.os, hg, ⟨fun b o e n hb hx => ?_, fun b o e n hb hx => ?_, fun b o e n hx => ?_, fun b o e hx => ?_, fun b xs e => tups b xs (I.base.tups b xs e), fun b o xs e => frzs b o xs (I.base.frzs b o xs e), fun b ps e => ?_⟩, ?_, fun x c e => ?_, ?_, fun x c e => ?_, fun p hp => ?_, hok, I.len⟩
  · exact keep b o (neL b o e) hb (neC b o e hx) (I.base.keep b o e n hb hx) (I.base.free b o e n hx)
  · obtain ⟨sl, e1⟩ := I.base.slot b o e n hb hx
    obtain ⟨sl', e2⟩ := slot b _ (neL b o e) hb (neC b o e hx) e1 (I.base.free b o e n hx)
    exact ⟨sl', e2⟩
  · obtain ⟨o', e1⟩ := I.base.there b o e hx
    exact free b o' (neC b o e hx) e1 (I.base.free b o e n hx)
  · obtain ⟨o', e1⟩ := I.base.there b o e hx
    exact there b o' (neC b o e hx) e1
  · obtain ⟨m1, e1⟩ := I.base.tbls b ps e
    obtain ⟨m2, e2⟩ := tbls b _ e1
    exact ⟨m1 ++ m2, by rw [e2, Array.append_assoc]⟩
  · obtain ⟨m, hn, hl⟩ := I.loc
    refine ⟨m, ns m hn, fun i x v e1 e2 e3 => ?_⟩
    obtain ⟨u, r, l⟩ := hl i x v e1 e2 e3
    refine ⟨u, r, ?_⟩
    rcases l with l | ⟨k, c, e, z⟩
    · exact .inl l
    · exact .inr ⟨k, c, e, cellK x c e _ z⟩
  · obtain ⟨v, z⟩ := I.cell x c e
    exact ⟨v, cellK x c e v z⟩
  · obtain ⟨m, ⟨o, _, _, ho, _⟩, _⟩ := I.loc
    exact free _ o (fun z => (hch _ z).2.1 rfl) ho I.free
  · obtain ⟨v, o, ho, hd⟩ := I.cell x c e
    exact free c o (fun z => (hch c z).2.2.1 x c e rfl) ho (I.freeC x c e)
  · obtain ⟨e, n, ne, nf, d⟩ := I.pin p hp
    have nch : p.1 ∉ ch := fun z => (hch p.1 z).2.2.2 p hp rfl
    exact ⟨keep p.1 p.2 ne nf nch e n, free p.1 p.2 nch e n, ne, nf, d⟩
/-- .. where the frame's own object is kept too -/
theorem Inv.un {t' : Nat} (I : Inv X pins σ H s) (u : Un X.fs [] H H' s.heap h') (hok : HOk X.prog X.w H' h') : Inv X pins σ H' { s with heap := h', toks := t' } := by
  obtain ⟨m, ⟨o, es, ep, ho, r⟩, _⟩ := id I.loc
  obtain ⟨sl, hL⟩ := u.any ho I.free (by simp)
  exact I.step (g' := s.gens) (d' := s.drawn) (ch := []) (fun _ z => nomatch z) (fun b o _ hb _ e n => u.keep b o e n hb (by simp)) (fun b o _ hb _ e n => u.slot b o e n hb (by simp)) (fun b o _ e n => u.free b o e n (by simp)) (fun b o _ e => u.there b o e (by simp)) u.tups u.frzs u.tbls (fun m' hm => by
    obtain ⟨o', es', ep', ho', r'⟩ := hm
    rw [ho] at ho'; cases ho'
    exact ⟨_, es', ep', hL, r'⟩) hok I.bare
/-- behind a call (or a comprehension's block): the slots of this frame may have changed too, the records at ch may have turned -/
theorem Inv.call {g' : Array GenState} {t' : Nat} {d' : Drawn} {ch : List Addr} (I : Inv X pins σ H s) (u : Un (frs X.stack) ch H H' s.heap h') (hok : HOk X.prog X.w H' h') (hg : AllBare g')
    (hch : ∀ b ∈ ch, (b ∈ X.ex ∨ X.s₀.heap.objs.size ≤ b) ∧ b ≠ X.env.locals ∧ (∀ x c, X.env.cells.lookup x = some c → c ≠ b) ∧ ∀ p ∈ X.pn ++ pins, p.1 ≠ b) :
    Inv X pins σ H' { s with heap := h', gens := g', drawn := d', toks := t' } := by
  obtain ⟨m, ⟨o, es, ep, ho, r⟩, _⟩ := id I.loc
  obtain ⟨sl, hL⟩ := u.any ho I.free fun z => (hch _ z).2.1 rfl
  exact I.step (ch := ch) hch (fun b o hL hb hc e n => u.keep b o e n (fun z => (List.mem_cons.mp (I.stkSub b z)).elim hL hb) hc) (fun b o _ _ hc e n => u.any e n hc) (fun b o hc e n => u.free b o e n hc) (fun b o hc e => u.there b o e hc) u.tups u.frzs u.tbls (fun m' hm => by
    obtain ⟨o', es', ep', ho', r'⟩ := hm
    rw [ho] at ho'; cases ho'
    exact ⟨_, es', ep', hL, r'⟩) hok hg
/-- an untracked record of ours (an iterator) has turned -/
theorem Inv.turned {t' : Nat} {it : Addr} (I : Inv X pins σ H s) (k : ∀ b o, b ≠ it → s.heap.get? b = some o → h'.get? b = some o) (hn : H it = none) (hL : it ≠ X.env.locals)
    (h1 : it ∈ X.ex ∨ X.s₀.heap.objs.size ≤ it) (h2 : ∀ x c, X.env.cells.lookup x = some c → c ≠ it) (h3 : ∀ p ∈ X.pn ++ pins, p.1 ≠ it) : Inv X pins σ H { s with heap := h', toks := t' } := by
  have nit : ∀ b u, H b = some u → b ≠ it := fun b u e z => by rw [z, hn] at e; cases e
  refine I.step (g' := s.gens) (d' := s.drawn) (ch := [it]) (fun b hb => ?_) (fun b o _ _ hc e _ => k b o (fun z => hc (by simp [z])) e) (fun b o _ _ hc e _ => ⟨o.slots, k b o (fun z => hc (by simp [z])) e⟩) (fun _ _ _ _ n => n)
    (fun b o hc e => ⟨o, k b o (fun z => hc (by simp [z])) e⟩) (fun _ _ e => e) (fun _ _ _ e => e) (fun b ps e => ⟨#[], by rw [e]; simp⟩) (fun m hm => ?_) (fun b u e => ?_) I.bare
  · have e : b = it := by simpa using hb
    subst e
    exact ⟨h1, hL, h2, h3⟩
  · obtain ⟨o, es, ep, ho, r⟩ := hm
    exact ⟨o, es, ep, k _ o (Ne.symm hL) ho, r⟩
  · refine (I.hok b u e).stay (fun c v hc q => k c v ?_ q) (fun _ q => q) fun _ _ q => q
    rcases hc with z | z
    · rw [z]; exact nit b u e
    · exact nit c _ z
theorem Inv.tok (I : Inv X pins σ H s) (t : Nat) : Inv X pins σ H { s with toks := t } := I.un (h' := s.heap) (t' := t) Un.refl I.hok
/-- all objects kept -/
theorem Inv.kept {t' : Nat} (I : Inv X pins σ H s) (k : ∀ b u, s.heap.get? b = some u → h'.get? b = some u) : Inv X pins σ H { s with heap := h', toks := t' } := I.un (Un.kept k) (I.hok.kept k)
/-- a new object laid and tracked -/
theorem Inv.laid {a : Addr} {o : HO} {t' : Nat} (I : Inv X pins σ H s) (k : ∀ b u, s.heap.get? b = some u → h'.get? b = some u) (hp : s.heap.objs.size ≤ a) (new : ObjOk X.prog X.w (upd H a o) h' a o) :
    Inv X pins σ (upd H a o) { s with heap := h', toks := t' } := I.un (Un.laid k hp (I.hok.fresh hp)) (I.hok.laid k hp new)
/-- an object written -/
theorem Inv.write {x e : Addr} {o : HO} {t' : Nat} (I : Inv X pins σ H s) (mu : Mut (H x)) (he : e = x ∨ H e = some (.own x)) (k : ∀ b u, b ≠ e → s.heap.get? b = some u → h'.get? b = some u) (heo : ∃ u, h'.get? e = some u)
    (new : ObjOk X.prog X.w (upd H x o) h' x o) : Inv X pins σ (upd H x o) { s with heap := h', toks := t' } := I.un (Un.write mu he k heo) (I.hok.write mu he k heo new)
theorem Inv.pins_of {pins' : List (Addr × Obj)} (I : Inv X pins σ H s) (h : ∀ p ∈ pins', s.heap.get? p.1 = some p.2 ∧ H p.1 = none ∧ p.1 ≠ X.env.locals ∧ p.1 ∉ X.fs ∧ ∀ v, p.2.data ≠ .cell v) : Inv X pins' σ H s :=
  ⟨I.ok, I.os, I.bare, I.base, I.loc, I.cell, I.free, I.freeC, fun p hp => (List.mem_append.mp hp).elim (fun z => I.pin p (List.mem_append_left _ z)) (h p), I.hok, I.len⟩

theorem nodup_ix {N : List Str} (hN : N.Nodup) {i j : Nat} {x : Str} (a : N[i]? = some x) (b : N[j]? = some x) : i = j := by
  obtain ⟨h1, e1⟩ := List.getElem?_eq_some_iff.mp a
  obtain ⟨h2, e2⟩ := List.getElem?_eq_some_iff.mp b
  exact (List.getElem_inj hN).mp (e1.trans e2.symm)

/-- a name is stored; what changed -/
theorem store_ok2 {M : Model} {A : Around} {E : Value → Shared → Prop} {i : Nat} {x : Str} {v : V} {u : Value} {Q : Unit → Shared → Prop} (I : Inv X pins σ H s) (hN : X.N.Nodup) (hi : X.N[i]? = some x) (hx : Loc X.env.scope x) (r : RelV v u)
    (h : ∀ s', Inv X pins (σ.set i (some v)) H s' → (∃ a, Heap.SameBut a s.heap s'.heap ∧ (a = X.env.locals ∨ X.env.cells.lookup x = some a)) → Q () s') (hf : X.fn x = true ∨ X.env.scope.names.lookup x = some .local := by first | exact .inl rfl | exact .inr rfl | assumption) : wpAny M A (storeName X.env x u) Q E s := by
  obtain ⟨m, hn, hl⟩ := id I.loc
  have hcls : (X.env.scope.kind == .class || (X.env.scope.kind == .module && X.env.locals != X.env.globals)) = false := by rw [I.ok.kind]; rfl
  have hiσ : i < σ.length := by rw [I.len]; exact (List.getElem?_eq_some_iff.mp hi).1
  have cne := I.cne
  have tracked : ∀ {a : Addr} {h' : Heap}, (∃ o, s.heap.get? a = some o ∧ H a = none) → Heap.SameBut a s.heap h' → HOk X.prog X.w H h' := fun {a h'} ha hs b ob e => by
    obtain ⟨_, _, hfree⟩ := ha
    refine (I.hok b ob e).stay (fun c w' hc q => (hs.2 c ?_).trans q) (fun _ q => q) fun _ _ q => q
    rintro rfl
    rcases hc with rfl | hc
    · rw [hfree] at e; cases e
    · rw [hfree] at hc; cases hc
  rcases hx with hk | hk
  · refine wpAny_storeName_local hk hn (fun h' hn' hs => ?_) hcls
    obtain ⟨oL, _, _, hoL, _⟩ := id hn
    refine h _ ⟨I.ok, I.os, I.bare, ⟨fun b o e n hb hx => ?_, fun b o e n hb hx => ?_, I.base.free, fun b o e hx => ?_, I.base.tups, I.base.frzs, I.base.tbls⟩, ⟨_, hn', fun j y v' e1 e2 e3 => ?_⟩, fun y c e => ?_, I.free, I.freeC, fun p hp => ?_, tracked ⟨oL, hoL, I.free⟩ hs, by simpa using I.len⟩ ⟨_, hs, .inl rfl⟩
    · exact (hs.2 b (Nat.ne_of_lt (Nat.lt_of_lt_of_le (Heap.lt_size e) I.ok.above))).trans (I.base.keep b o e n hb hx)
    · obtain ⟨sl, e1⟩ := I.base.slot b o e n hb hx
      exact ⟨sl, (hs.2 b (Nat.ne_of_lt (Nat.lt_of_lt_of_le (Heap.lt_size e) I.ok.above))).trans e1⟩
    · obtain ⟨o', e1⟩ := I.base.there b o e hx
      exact ⟨o', (hs.2 b (Nat.ne_of_lt (Nat.lt_of_lt_of_le (Heap.lt_size e) I.ok.above))).trans e1⟩
    · by_cases hj : j = i
      · subst hj
        rw [hi] at e1; cases e1
        rw [List.getElem?_set_self hiσ] at e2
        cases e2
        exact ⟨u, r, .inl ⟨hk, by simp⟩⟩
      · rw [List.getElem?_set_ne (Ne.symm hj)] at e2
        obtain ⟨u', r', q⟩ := hl j y v' e1 e2 e3
        refine ⟨u', r', ?_⟩
        rcases q with ⟨k, e⟩ | ⟨k, c, e, z⟩
        · refine .inl ⟨k, ?_⟩
          have : y ≠ x := fun e => hj (nodup_ix hN e1 (e ▸ hi))
          simp [this, e]
        · exact .inr ⟨k, c, e, z.sameBut hs (cne y c e)⟩
    · obtain ⟨w', z⟩ := I.cell y c e
      exact ⟨w', z.sameBut hs (cne y c e)⟩
    · obtain ⟨e, n, ne, nf, d⟩ := I.pin p hp
      exact ⟨(hs.2 p.1 ne).trans e, n, ne, nf, d⟩
  · have hfn : X.fn x = true := by
      rcases hf with z | z
      · exact z
      · rw [z] at hk; cases hk
    obtain ⟨c, hc⟩ := I.ok.has x (.inl hk)
    obtain ⟨w', z⟩ := I.cell x c hc
    refine wpAny_storeName_cell I.ok.kind hk hc z (fun h' hc' hs => ?_)
    obtain ⟨oc, hoc, hocd⟩ := id z
    refine h { s with heap := h' } ⟨I.ok, I.os, I.bare, ⟨fun b o e n hb hx => ?_, fun b o e n hb hx => ?_, I.base.free, fun b o e hx => ?_, I.base.tups, I.base.frzs, I.base.tbls⟩, ⟨m, hn.sameBut hs (Ne.symm (cne x c hc)), fun j y v' e1 e2 e3 => ?_⟩, fun y c' e => ?_, I.free, I.freeC, fun p hp => ?_, tracked ⟨oc, hoc, I.freeC x c hc⟩ hs, by simpa using I.len⟩ ⟨c, hs, .inr hc⟩
    · exact (hs.2 b (Nat.ne_of_lt (Nat.lt_of_lt_of_le (Heap.lt_size e) (I.ok.cab x c hfn hc)))).trans (I.base.keep b o e n hb hx)
    · obtain ⟨sl, e1⟩ := I.base.slot b o e n hb hx
      exact ⟨sl, (hs.2 b (Nat.ne_of_lt (Nat.lt_of_lt_of_le (Heap.lt_size e) (I.ok.cab x c hfn hc)))).trans e1⟩
    · obtain ⟨o', e1⟩ := I.base.there b o e hx
      exact ⟨o', (hs.2 b (Nat.ne_of_lt (Nat.lt_of_lt_of_le (Heap.lt_size e) (I.ok.cab x c hfn hc)))).trans e1⟩
    · by_cases hj : j = i
      · subst hj
        rw [hi] at e1; cases e1
        rw [List.getElem?_set_self hiσ] at e2
        cases e2
        exact ⟨u, r, .inr ⟨.inl hk, c, hc, hc'⟩⟩
      · rw [List.getElem?_set_ne (Ne.symm hj)] at e2
        obtain ⟨u', r', q⟩ := hl j y v' e1 e2 e3
        refine ⟨u', r', ?_⟩
        rcases q with q | ⟨k, c', e, z'⟩
        · exact .inl q
        · refine .inr ⟨k, c', e, z'.sameBut hs ?_⟩
          rintro rfl
          exact hj (nodup_ix hN e1 (I.ok.inj _ _ _ e hc ▸ hi))
    · by_cases hcc : c' = c
      · subst hcc; exact ⟨_, hc'⟩
      · obtain ⟨w2, z2⟩ := I.cell y c' e
        exact ⟨w2, z2.sameBut hs hcc⟩
    · obtain ⟨e, n, ne, nf, d⟩ := I.pin p hp
      refine ⟨(hs.2 p.1 ?_).trans e, n, ne, nf, d⟩
      intro q
      rw [q, hoc] at e
      have q' : oc = p.2 := Option.some.inj e
      exact d w' (by rw [← q']; exact hocd)
theorem store_ok {M : Model} {A : Around} {E : Value → Shared → Prop} {i : Nat} {x : Str} {v : V} {u : Value} {Q : Unit → Shared → Prop} (I : Inv X pins σ H s) (hN : X.N.Nodup) (hi : X.N[i]? = some x) (hx : Loc X.env.scope x) (r : RelV v u)
    (h : ∀ s', Inv X pins (σ.set i (some v)) H s' → Q () s') (hf : X.fn x = true ∨ X.env.scope.names.lookup x = some .local := by first | exact .inl rfl | exact .inr rfl | assumption) : wpAny M A (storeName X.env x u) Q E s :=
  store_ok2 I hN hi hx r (fun s' I' _ => h s' I') hf
/-- behind a call or a block, the state as it is -/
theorem Inv.call' {s' : Shared} {ch : List Addr} (I : Inv X pins σ H s) (ho : s'.os = s.os) (u : Un (frs X.stack) ch H H' s.heap s'.heap) (hok : HOk X.prog X.w H' s'.heap) (hg : AllBare s'.gens)
    (hch : ∀ b ∈ ch, (b ∈ X.ex ∨ X.s₀.heap.objs.size ≤ b) ∧ b ≠ X.env.locals ∧ (∀ x c, X.env.cells.lookup x = some c → c ≠ b) ∧ ∀ p ∈ X.pn ++ pins, p.1 ≠ b) : Inv X pins σ H' s' := by
  obtain ⟨h', g', d', t', o'⟩ := s'
  have e : o' = s.os := ho
  subst e
  exact I.call (g' := g') (t' := t') (d' := d') u hok hg hch
end

/-! ### the judgements -/
/-- an exception: its class, its own dict's address (where it has one), the abstract heap behind it -/
abbrev XK := Value → Option Addr → Hp → Prop
abbrev St := List (Option V)
abbrev VK := V → Hp → Prop
/-- an expression's reading; a test's; an argument list's -/
abbrev TE := St → Hp → VK → Prop
abbrev TT := St → Hp → (Bool → Hp → Prop) → Prop
abbrev TA := St → Hp → (List V → Hp → Prop) → Prop
/-- what is wanted behind a statement -/
structure Ends where
  nx : St → Hp → Prop
  rt : VK
  bk : St → Hp → Prop := fun _ _ => False
  ct : St → Hp → Prop := fun _ _ => False
abbrev TS := Ends → St → Hp → Prop

def EP (X : Cx) (pins : List (Addr × Obj)) (σ : St) (Q : VK) (u : Value) (s' : Shared) : Prop := ∃ v H', Inv X pins σ H' s' ∧ RelV v u ∧ Q v H'
def TP (X : Cx) (pins : List (Addr × Obj)) (σ : St) (Q : Bool → Hp → Prop) (b : Bool) (s' : Shared) : Prop := ∃ H', Inv X pins σ H' s' ∧ Q b H'
def AP (X : Cx) (pins : List (Addr × Obj)) (σ : St) (Q : List V → Hp → Prop) (us : List Value) (s' : Shared) : Prop := ∃ vs H', Inv X pins σ H' s' ∧ Vals vs us ∧ Q vs H'
def SP (X : Cx) (pins : List (Addr × Obj)) (D : Ends) (f : Flow) (s' : Shared) : Prop :=
  match f with
  | .next => ∃ σ' H', Inv X pins σ' H' s' ∧ D.nx σ' H'
  | .brk => ∃ σ' H', Inv X pins σ' H' s' ∧ D.bk σ' H'
  | .cont => ∃ σ' H', Inv X pins σ' H' s' ∧ D.ct σ' H'
  | .ret u => ∃ v σ' H', Inv X pins σ' H' s' ∧ RelV v u ∧ D.rt v H'

def PE (X : Cx) (e : Expr) (t : TE) : Prop :=
  ∀ (pins : List (Addr × Obj)) (s : Shared) (σ : St) (H : Hp) (Q : VK), Inv X pins σ H s → t σ H Q → wpAny (model X.prog X.w) X.A (eval e X.env) (EP X pins σ Q) X.xe s
def PT (X : Cx) (e : Expr) (t : TT) : Prop :=
  ∀ (pins : List (Addr × Obj)) (s : Shared) (σ : St) (H : Hp) (Q : Bool → Hp → Prop), Inv X pins σ H s → t σ H Q → wpAny (model X.prog X.w) X.A (isTrue e X.env (eval e X.env)) (TP X pins σ Q) X.xe s
/-- a test whatever its 'whole' is (and, or) -/
def PW (X : Cx) (e : Expr) (t : TT) : Prop :=
  ∀ (whole : Sem Value) (pins : List (Addr × Obj)) (s : Shared) (σ : St) (H : Hp) (Q : Bool → Hp → Prop), Inv X pins σ H s → t σ H Q → wpAny (model X.prog X.w) X.A (isTrue e X.env whole) (TP X pins σ Q) X.xe s
theorem PW.pt {X : Cx} {e : Expr} {t : TT} (h : PW X e t) : PT X e t := h _
/-- an argument list (no star), from the left -/
def PA (X : Cx) (es : List Expr) (t : TA) : Prop :=
  ∀ (pos : Pos) (pins : List (Addr × Obj)) (s : Shared) (σ : St) (H : Hp) (Q : List V → Hp → Prop), Inv X pins σ H s → t σ H Q → wpAny (model X.prog X.w) X.A (spliced (backTo pos (starEach es X.env))) (AP X pins σ Q) X.xe s
def PS (X : Cx) (st : Stmt) (t : TS) : Prop :=
  ∀ (pins : List (Addr × Obj)) (s : Shared) (σ : St) (H : Hp) (D : Ends), Inv X pins σ H s → t D σ H → wpAny (model X.prog X.w) X.A (exec st X.env) (SP X pins D) X.xe s
def PSs (X : Cx) (st : List Stmt) (t : TS) : Prop :=
  ∀ (pins : List (Addr × Obj)) (s : Shared) (σ : St) (H : Hp) (D : Ends), Inv X pins σ H s → t D σ H → wpAny (model X.prog X.w) X.A (execs st X.env) (SP X pins D) X.xe s
/-- weaken the end -/
theorem thn {α : Type} {t : Sem α} {Q Q' : α → Shared → Prop} {M : Model} {A : Around} {E : Value → Shared → Prop} {s : Shared} (h : wpAny M A t Q E s) (hQ : ∀ a s, Q a s → Q' a s) : wpAny M A t Q' E s := wpAny_mono h hQ fun _ _ x => x
end L2

namespace L2
open PySem PySem.Spec PyProof.Rows
section
variable {X : Cx}

/-- two expressions in a row -/
theorem bin {a b : Expr} {ta tb : TE} (ha : PE X a ta) (hb : PE X b tb) {pins : List (Addr × Obj)} {s : Shared} {σ : St} {H : Hp} {R : V → V → Hp → Prop} (I : Inv X pins σ H s) (h : ta σ H fun x H1 => tb σ H1 fun y H2 => R x y H2)
    {α : Type} {Q : α → Shared → Prop} {f : Value → Value → Sem α}
    (hf : ∀ v u s2 x y H2, Inv X pins σ H2 s2 → RelV x v → RelV y u → R x y H2 → wpAny (model X.prog X.w) X.A (f v u) Q X.xe s2) :
    wpAny (model X.prog X.w) X.A (eval a X.env) (fun v s₁ => wpAny (model X.prog X.w) X.A (eval b X.env) (fun u s₂ => wpAny (model X.prog X.w) X.A (f v u) Q X.xe s₂) X.xe s₁) X.xe s := by
  refine thn (ha pins s σ H _ I h) fun v s1 ⟨x, H1, I1, r1, q1⟩ => ?_
  refine thn (hb pins s1 σ H1 _ I1 q1) fun u s2 ⟨y, H2, I2, r2, q2⟩ => ?_
  exact hf v u s2 x y H2 I2 r1 r2 q2

/-! ### names and constants -/
def tVar (i : Nat) : TE := fun σ H Q => ∃ v, σ[i]? = some (some v) ∧ Q v H
def tC (v : V) : TE := fun _ H Q => Q v H
theorem pe_var {i : Nat} {x : Str} {pos : Pos} (hN : X.N[i]? = some x) (hv : Vis X.env.scope x) (hd : (x == ("__debug__" : Str)) = false := by decide) (hcd : (x == ("__classdict__" : Str)) = false := by decide) : PE X (.Name x pos) (tVar i) := by
  intro pins s σ H Q I h
  obtain ⟨v, e, h⟩ := h
  obtain ⟨m, hn, hl⟩ := I.loc
  obtain ⟨u, r, l⟩ := hl i x v hN e hv
  have fin : EP X pins σ Q u s := ⟨v, H, I, r, h⟩
  rcases l with ⟨hk, hm⟩ | ⟨hk, c, hc, hcell⟩
  · exact wpAny_Name (wpAny_loadName_local I.ok.kind hk hn hm fin) hd
  · rcases hk with hk | hk
    · exact wpAny_Name (wpAny_loadName_cell I.ok.kind hk hc hcell fin) hd
    · exact wpAny_Name (wpAny_loadName_free I.ok.kind hk hc hcell fin hcd) hd
theorem pe_int {i j pos} : PE X (.Constant (.int i) j pos) (tC (.int i)) := fun _ _ _ H _ I h => wpAny_Constant_int ⟨.int i, H, I.tok _, ⟨_, rfl⟩, h⟩
theorem pe_bl {b j pos} : PE X (.Constant (.bool b) j pos) (tC (.bl b)) := fun _ _ _ H _ I h => Constant_bool ⟨.bl b, H, I, rfl, h⟩
theorem pe_non {j pos} : PE X (.Constant .none j pos) (tC .non) := fun _ _ _ H _ I h => Constant_none ⟨.non, H, I, rfl, h⟩
theorem pe_str {x j pos} : PE X (.Constant (.str x) j pos) (tC (.str x)) := fun _ _ _ H _ I h => Calls.Constant_str ⟨.str x, H, I.tok _, ⟨_, rfl⟩, h⟩

/-- a global name of the def -/
def Gl (X : Cx) (x : Str) : Prop := X.env.kindOf x = some .globalImplicit
theorem ld_glob {E : Value → Shared → Prop} {pins : List (Addr × Obj)} {s : Shared} {σ : St} {H : Hp} {x : Str} {u : Value} {pos : Pos} {Q : Value → Shared → Prop} (I : Inv X pins σ H s) (hg : Gl X x) (hm : X.mg x = some u) (h : Q u s)
    (hd : (x == ("__debug__" : Str)) = false := by decide) : wpAny (model X.prog X.w) X.A (eval (.Name x pos) X.env) Q E s :=
  Calls.Name_function_global I.ok.kind hg (Calls.loadGlobal_global (by rw [I.ok.glob]; exact I.mod.glob.keeps I.bk) hm h) hd
theorem ld_blt {E : Value → Shared → Prop} {pins : List (Addr × Obj)} {s : Shared} {σ : St} {H : Hp} {x : Str} {u : Value} {pos : Pos} {Q : Value → Shared → Prop} (I : Inv X pins σ H s) (hg : Gl X x) (hm : X.mg x = none) (hv : bootBuiltins x = some u) (h : Q u s)
    (hn : x ≠ "__name__" := by decide) (hd : (x == ("__debug__" : Str)) = false := by decide) : wpAny (model X.prog X.w) X.A (eval (.Name x pos) X.env) Q E s := by
  obtain ⟨mb, h1, h2⟩ := I.mod.blt
  exact Calls.Name_function_global I.ok.kind hg (Calls.loadGlobal_builtin (by rw [I.ok.glob]; exact I.mod.glob.keeps I.bk) hm (by rw [I.ok.blt]; exact h1.keeps I.bk) ((h2 x hn).trans hv) h) hd
theorem pe_bltn {x : Str} {v : V} {u : Value} {pos : Pos} (hg : Gl X x) (hm : X.mg x = none) (hv : bootBuiltins x = some u) (r : RelV v u) (hn : x ≠ "__name__" := by decide) (hd : (x == ("__debug__" : Str)) = false := by decide) : PE X (.Name x pos) (tC v) :=
  fun _ _ _ H _ I h => ld_blt I hg hm hv ⟨v, H, I, r, h⟩ hn hd

/-! ### arithmetic -/
/-- two ints -/
def t2I (ta tb : TE) (k : Int → Int → Hp → Prop) : St → Hp → Prop := fun σ H => ta σ H fun x H1 => tb σ H1 fun y H2 => ∃ i j, x = .int i ∧ y = .int j ∧ k i j H2
def tAdd (ta tb : TE) : TE := fun σ H Q => t2I ta tb (fun i j H2 => Q (.int (i + j)) H2) σ H
def tSub (ta tb : TE) : TE := fun σ H Q => t2I ta tb (fun i j H2 => Q (.int (i - j)) H2) σ H
/-- the left factor below 2^64 -/
def tMul (ta tb : TE) : TE := fun σ H Q => t2I ta tb (fun i j H2 => (-(2 ^ 64) < i ∧ i < 2 ^ 64) ∧ Q (.int (i * j)) H2) σ H
variable {a b : Expr} {ta tb : TE} {pos : Pos}
/-! ### comparisons -/
def PC (X : Cx) (op : CmpOp) (a b : Expr) (t : TE) : Prop :=
  ∀ (pins : List (Addr × Obj)) (s : Shared) (σ : St) (H : Hp) (Q : VK), Inv X pins σ H s → t σ H Q →
    wpAny (model X.prog X.w) X.A (eval a X.env) (fun v s₁ => wpAny (model X.prog X.w) X.A (eval b X.env) (fun u s₂ => wpAny (model X.prog X.w) X.A (compareOp op v u) (EP X pins σ Q) X.xe s₂) X.xe s₁) X.xe s
def tCmp (p : Int → Int → Bool) (ta tb : TE) : TE := fun σ H Q => t2I ta tb (fun i j H2 => Q (.bl (p i j)) H2) σ H
abbrev tLt : TE → TE → TE := tCmp fun i j => decide (i < j)
abbrev tLe : TE → TE → TE := tCmp fun i j => decide (i ≤ j)
abbrev tGt : TE → TE → TE := tCmp fun i j => decide (j < i)
abbrev tGe : TE → TE → TE := tCmp fun i j => decide (j ≤ i)
abbrev tEqI : TE → TE → TE := tCmp fun i j => decide (i = j)
abbrev tNeI : TE → TE → TE := tCmp fun i j => !decide (i = j)
/-- is None -/
def tIsN (ta : TE) : TE := fun σ H Q => ta σ H fun x H1 => Q (.bl (decide (x = .non))) H1
def tNotN (ta : TE) : TE := fun σ H Q => ta σ H fun x H1 => Q (.bl (!decide (x = .non))) H1
/-- a comparison as a value, as a test -/
def tB (t : TE) : TT := fun σ H Q => t σ H fun x H1 => ∃ c, x = .bl c ∧ Q c H1
theorem pt_cmp {op : CmpOp} {t : TE} (h : PC X op a b t) (h1 : behindInMarks op b = false := by first | exact nobehind _ (by decide) (by decide) | rfl) : PT X (.Compare a [op] [b] pos) (tB t) := by
  intro pins s σ H Q I hw
  refine wpAny_isTrue_Compare1 (thn (h pins s σ H _ I hw) fun v s1 h1 => thn h1 fun u s2 h2 => thn h2 fun c s3 ⟨x, H1, I1, r1, q1⟩ => ?_) h1
  obtain ⟨d, rfl, q⟩ := q1
  cases r1
  exact wpAny_truthy_bool ⟨H1, I1, q⟩
/-- an expression whose value is a bool, as a test -/
theorem pt_val {e : Expr} {t : TE} (h : PE X e t) (he : ∀ whole, isTrue e X.env whole = (do let v ← whole; standAt e.pos; holding [v] (truthy v)) := by intro _; rfl) : PT X e (tB t) := by
  intro pins s σ H Q I hw
  refine isTrue_plain (thn (h pins s σ H _ I hw) fun v s1 ⟨x, H1, I1, r1, q1⟩ => ?_) (he _)
  obtain ⟨d, rfl, q⟩ := q1
  cases r1
  exact wpAny_truthy_bool ⟨H1, I1, q⟩

/-! ### and, or, not -/
variable {tA tB' : TT} {rest : List Expr}
def tAnd (t u : TT) : TT := fun σ H Q => t σ H fun c H1 => if c = true then u σ H1 Q else Q false H1
def tOr (t u : TT) : TT := fun σ H Q => t σ H fun c H1 => if c = true then Q true H1 else u σ H1 Q
def tNot (t : TT) : TT := fun σ H Q => t σ H fun c H1 => Q (!c) H1
theorem pw_and1 (ha : PT X a tA) : PW X (.BoolOp .And [a] pos) tA := by
  intro wh pins s σ H Q I h
  refine isTrue_and (thn (ha pins s σ H Q I h) fun c s1 e => ?_)
  cases c with
  | true => exact isTrue_and_nil e
  | false => exact e
theorem pw_or1 (ha : PT X a tA) : PW X (.BoolOp .Or [a] pos) tA := by
  intro wh pins s σ H Q I h
  refine isTrue_or (thn (ha pins s σ H Q I h) fun c s1 e => ?_)
  cases c with
  | false => exact isTrue_or_nil e
  | true => exact e
theorem pw_and (ha : PT X a tA) (hb : PW X (.BoolOp .And (b :: rest) pos) tB') : PW X (.BoolOp .And (a :: b :: rest) pos) (tAnd tA tB') := by
  intro wh pins s σ H Q I h
  refine isTrue_and (thn (ha pins s σ H _ I h) fun c s1 ⟨H1, I1, q1⟩ => ?_)
  cases c with
  | true => exact hb wh pins s1 σ H1 Q I1 q1
  | false => exact ⟨H1, I1, q1⟩
theorem pw_or (ha : PT X a tA) (hb : PW X (.BoolOp .Or (b :: rest) pos) tB') : PW X (.BoolOp .Or (a :: b :: rest) pos) (tOr tA tB') := by
  intro wh pins s σ H Q I h
  refine isTrue_or (thn (ha pins s σ H _ I h) fun c s1 ⟨H1, I1, q1⟩ => ?_)
  cases c with
  | true => exact ⟨H1, I1, q1⟩
  | false => exact hb wh pins s1 σ H1 Q I1 q1
theorem pt_not (ha : PT X a tA) : PT X (.UnaryOp .Not a pos) (tNot tA) := by
  intro pins s σ H Q I h
  exact isTrue_not (ha pins s σ H (fun c H1 => Q (!c) H1) I h)
/-- .. as values (bools) -/
def tAndV (ta tb : TE) : TE := fun σ H Q => ta σ H fun x H1 => ∃ c, x = .bl c ∧ if c = true then tb σ H1 Q else Q (.bl false) H1
def tOrV (ta tb : TE) : TE := fun σ H Q => ta σ H fun x H1 => ∃ c, x = .bl c ∧ if c = true then Q (.bl true) H1 else tb σ H1 Q
def tNotV (ta : TE) : TE := fun σ H Q => ta σ H fun x H1 => ∃ c, x = .bl c ∧ Q (.bl (!c)) H1
theorem pe_one {op} {t : TE} (h : PE X a t) : PE X (.BoolOp op [a] pos) t := fun pins s σ H Q I hw => BoolOp_one (h pins s σ H Q I hw)
theorem pe_or (ha : PE X a ta) (hb : PE X (.BoolOp .Or (b :: rest) pos) tb) : PE X (.BoolOp .Or (a :: b :: rest) pos) (tOrV ta tb) := by
  intro pins s σ H Q I h
  refine BoolOp_or (thn (ha pins s σ H _ I h) fun v s1 ⟨x, H1, I1, r1, q1⟩ => ?_)
  obtain ⟨c, rfl, q1⟩ := q1
  cases r1
  refine wpAny_truthy_bool ?_
  cases c with
  | false => exact hb pins s1 σ H1 Q I1 q1
  | true => exact ⟨.bl true, H1, I1, rfl, q1⟩
/-- a if t else b -/
def tIf (t : TT) (ta tb : TE) : TE := fun σ H Q => t σ H fun c H1 => if c = true then ta σ H1 Q else tb σ H1 Q
theorem pe_ifExp {c : Expr} (hc : PT X c tA) (ha : PE X a ta) (hb : PE X b tb) : PE X (.IfExp c a b pos) (tIf tA ta tb) := by
  intro pins s σ H Q I h
  refine wpAny_IfExp (thn (hc pins s σ H _ I h) fun d s1 ⟨H1, I1, q1⟩ => ?_)
  cases d with
  | true => exact ha pins s1 σ H1 Q I1 q1
  | false => exact hb pins s1 σ H1 Q I1 q1
end
end L2

namespace L2
open PySem PySem.Spec PyProof.Rows

/-! ### a list, a tuple that is read: tracked, frozen, or an object of the module -/
def SqL (K : PySem.W.Frag) (H : Hp) (a : Addr) (xs : List V) : Prop :=
  Rd H a (.lst xs) ∨
    ∃ (o : Obj) (its : Array Value) (n : Nat), K.lookup a = some o ∧ o.cls = .type "list" ∧ o.dict = none ∧ o.data = .seq its n ∧ its.size ≤ sizeLine ∧ Vals xs its.toList
def SqT (K : PySem.W.Frag) (H : Hp) (a : Addr) (xs : List V) : Prop :=
  Rd H a (.tup xs) ∨
    ∃ (o : Obj) (its : Array Value) (n : Nat), K.lookup a = some o ∧ o.cls = .type "tuple" ∧ o.data = .seq its n ∧ its.size ≤ sizeLine ∧ Vals xs its.toList
def absV : Value → Option V
  | .none => some .non
  | .bool b => some (.bl b)
  | .int i _ => some (.int i)
  | .str x _ => some (.str x)
  | .bytes b _ => some (.byt b)
  | .float b _ => some (.flt b)
  | .ref a => some (.ref a)
  | .type n => some (.ty n)
  | _ => none
theorem RelV.abs {x : V} {u : Value} (r : RelV x u) : absV u = some x := by
  cases x with
  | non => cases r; rfl
  | bl _ => cases r; rfl
  | int _ => obtain ⟨t, rfl⟩ := r; rfl
  | str _ => obtain ⟨t, rfl⟩ := r; rfl
  | byt _ => obtain ⟨t, rfl⟩ := r; rfl
  | flt _ => obtain ⟨t, rfl⟩ := r; rfl
  | ref _ => cases r; rfl
  | ty _ => cases r; rfl
theorem RelV.inj {x y : V} {u : Value} (r : RelV x u) (q : RelV y u) : x = y := Option.some.inj (r.abs.symm.trans q.abs)
theorem Vals.inj : ∀ {xs ys : List V} {us : List Value}, Vals xs us → Vals ys us → xs = ys
  | _, _, _, .nil, .nil => rfl
  | _, _, _, .cons r t, .cons r' t' => by rw [r.inj r', Vals.inj t t']
section
variable {X : Cx} {pins : List (Addr × Obj)} {σ : St} {H : Hp} {s : Shared} {a : Addr} {xs ys : List V}
theorem SqL.of {K : PySem.W.Frag} (h : H a = some (.lst xs)) : SqL K H a xs := .inl (.inl h)
theorem SqT.of {K : PySem.W.Frag} (h : H a = some (.tup xs)) : SqT K H a xs := .inl (.inl h)
theorem Inv.list (I : Inv X pins σ H s) (h : SqL X.K H a xs) : ∃ its : List Value, Vals xs its ∧ PlainL s.heap a its.toArray ∧ xs.length ≤ sizeLine := by
  rcases h with h | ⟨o, its, n, hk, hc, hd, hs, hz, r⟩
  · obtain ⟨z, its, n, r, e⟩ := h.ok I.hok
    exact ⟨its, r, ⟨_, n, e, rfl, rfl, rfl⟩, z⟩
  · refine ⟨its.toList, r, ⟨o, n, I.kIn a o hk, hc, hd, by simpa using hs⟩, ?_⟩
    have e := r.length
    simp only [Array.length_toList] at e
    omega
theorem Inv.tuple (I : Inv X pins σ H s) (h : SqT X.K H a xs) : ∃ its : List Value, Vals xs its ∧ IsTup s.heap a its.toArray ∧ xs.length ≤ sizeLine := by
  rcases h with h | ⟨o, its, n, hk, hc, hs, hz, r⟩
  · obtain ⟨z, its, r, p⟩ := h.ok I.hok
    exact ⟨its, r, p, z⟩
  · refine ⟨its.toList, r, ⟨o, I.kIn a o hk, hc, n, by simpa using hs⟩, ?_⟩
    have e := r.length
    simp only [Array.length_toList] at e
    omega
theorem Inv.list_inj (I : Inv X pins σ H s) (h : SqL X.K H a xs) (h' : SqL X.K H a ys) : xs = ys := by
  obtain ⟨its, r, ⟨o, n, e, _, _, d⟩, _⟩ := I.list h
  obtain ⟨its', r', ⟨o', n', e', _, _, d'⟩, _⟩ := I.list h'
  rw [e] at e'; cases e'
  rw [d] at d'
  injection d' with d1 _
  have : its = its' := by simpa using congrArg Array.toList d1
  subst this
  exact r.inj r'
theorem Inv.tuple_inj (I : Inv X pins σ H s) (h : SqT X.K H a xs) (h' : SqT X.K H a ys) : xs = ys := by
  obtain ⟨its, r, ⟨o, e, _, n, d⟩, _⟩ := I.tuple h
  obtain ⟨its', r', ⟨o', e', _, n', d'⟩, _⟩ := I.tuple h'
  rw [e] at e'; cases e'
  rw [d] at d'
  injection d' with d1 _
  have : its = its' := by simpa using congrArg Array.toList d1
  subst this
  exact r.inj r'
end

/-! ### another wish about exceptions -/
abbrev Cx.wish (X : Cx) (E : Value → Shared → Prop) : Cx := { X with xe := E }
/-- no exception leaves -/
abbrev Cx.nox (X : Cx) : Cx := X.wish fun _ _ => False
theorem Cx.Ok.wish {X : Cx} (ok : X.Ok) (E : Value → Shared → Prop) : (X.wish E).Ok :=
  ⟨ok.mod, ok.kind, ok.glob, ok.blt, ok.above, ok.inj, ok.has, ok.cab, ok.hd, ok.frames, ok.stk, ok.exf, ok.bs, ok.bsz, ok.noex, ok.exfs, ok.funs, ok.frf⟩
theorem Cx.Ok.unwish {X : Cx} {E : Value → Shared → Prop} (ok : (X.wish E).Ok) : X.Ok :=
  ⟨ok.mod, ok.kind, ok.glob, ok.blt, ok.above, ok.inj, ok.has, ok.cab, ok.hd, ok.frames, ok.stk, ok.exf, ok.bs, ok.bsz, ok.noex, ok.exfs, ok.funs, ok.frf⟩
section
variable {X : Cx} {pins : List (Addr × Obj)} {σ : St} {H : Hp} {s : Shared} {E : Value → Shared → Prop}
theorem Inv.wish (I : Inv X pins σ H s) (E : Value → Shared → Prop) : Inv (X.wish E) pins σ H s := ⟨I.ok.wish E, I.os, I.bare, I.base, I.loc, I.cell, I.free, I.freeC, I.pin, I.hok, I.len⟩
theorem Inv.unwish (I : Inv (X.wish E) pins σ H s) : Inv X pins σ H s := ⟨I.ok.unwish, I.os, I.bare, I.base, I.loc, I.cell, I.free, I.freeC, I.pin, I.hok, I.len⟩
theorem SP.unwish {D : Ends} {f : Flow} {s' : Shared} (h : SP (X.wish E) pins D f s') : SP X pins D f s' := by
  cases f with
  | next => obtain ⟨σ', H', I, q⟩ := h; exact ⟨σ', H', I.unwish, q⟩
  | brk => obtain ⟨σ', H', I, q⟩ := h; exact ⟨σ', H', I.unwish, q⟩
  | cont => obtain ⟨σ', H', I, q⟩ := h; exact ⟨σ', H', I.unwish, q⟩
  | ret u => obtain ⟨v, σ', H', I, r, q⟩ := h; exact ⟨v, σ', H', I.unwish, r, q⟩
theorem PSs.nox {st : List Stmt} {t : TS} (h : PSs X.nox st t) : PSs X st t := fun pins s σ H D I hw =>
  wpAny_mono (h pins s σ H D (I.wish _) hw) (fun _ _ q => q.unwish) fun _ _ z => False.elim z
end

/-! ### blocks and small statements -/
section
variable {X : Cx} {st : Stmt} {rest : List Stmt} {t u : TS} {e : Expr} {te : TE} {pos : Pos}
def tNext : TS := fun D σ H => D.nx σ H
def tSeq (t u : TS) : TS := fun D σ H => t { D with nx := u D } σ H
theorem pss_nil : PSs X [] tNext := fun _ _ σ H _ I h => wpAny_execs_nil ⟨σ, H, I, h⟩
theorem pss_cons (h1 : PS X st t) (h2 : PSs X rest u) : PSs X (st :: rest) (tSeq t u) := by
  intro pins s σ H D I h
  refine wpAny_execs_cons (thn (h1 pins s σ H { D with nx := u D } I h) fun f s1 q => ?_)
  cases f with
  | next =>
    obtain ⟨σ', H', I', q⟩ := q
    exact h2 pins s1 σ' H' D I' q
  | ret v => exact q
  | brk => exact q
  | cont => exact q
theorem pss_one (h1 : PS X st t) : PSs X [st] t := by
  intro pins s σ H D I h
  refine wpAny_execs_cons (thn (h1 pins s σ H D I h) fun f s1 q => ?_)
  cases f with
  | next => exact wpAny_execs_nil q
  | ret v => exact q
  | brk => exact q
  | cont => exact q
def tBreak : TS := fun D σ H => D.bk σ H
def tCont : TS := fun D σ H => D.ct σ H
/-- in a def's body nothing is shown -/
theorem Inv.quiet {pins : List (Addr × Obj)} {σ : St} {H : Hp} {s : Shared} (I : Inv X pins σ H s) : interactive X.env = false := by simp [interactive, I.ok.kind]
/-- an expression whose value is dropped -/
def tDrop (te : TE) : TS := fun D σ H => te σ H fun _ H1 => D.nx σ H1
theorem ps_expr (he : PE X e te) (hs : swapsWith e none pos.line X.env = pure false := by rfl) : PS X (.Expr e pos) (tDrop te) := by
  intro pins s σ H D I h
  exact wpAny_Expr_any (thn (he pins s σ H _ I h) fun v s1 ⟨x, H1, I1, r1, q1⟩ => ⟨σ, H1, I1, q1⟩) I.quiet hs
def tRet (te : TE) : TS := fun D σ H => te σ H D.rt
theorem ps_ret (he : PE X e te) : PS X (.Return (some e) pos) (tRet te) := by
  intro pins s σ H D I h
  exact wpAny_Return_some (thn (he pins s σ H _ I h) fun v s1 ⟨x, H1, I1, r1, q1⟩ => ⟨x, σ, H1, I1, r1, q1⟩)
def tRetN : TS := fun D _ H => D.rt .non H
def tIfS (c : TT) (t u : TS) : TS := fun D σ H => c σ H fun b H1 => if b = true then t D σ H1 else u D σ H1
theorem ps_if {c : Expr} {a b : List Stmt} {tc : TT} (hc : PT X c tc) (ha : PSs X a t) (hb : PSs X b u) : PS X (.If c a b pos) (tIfS tc t u) := by
  intro pins s σ H D I h
  refine wpAny_If (thn (hc pins s σ H _ I h) fun d s1 ⟨H1, I1, q1⟩ => ?_)
  cases d with
  | true => exact ha pins s1 σ H1 D I1 q1
  | false => exact hb pins s1 σ H1 D I1 q1
/-- code that the proof never comes to -/
def tNever : TS := fun _ _ _ => False
end

/-! ### targets -/
abbrev TG := V → St → Hp → (St → Hp → Prop) → Prop
abbrev TGs := List V → St → Hp → (St → Hp → Prop) → Prop
def PG (X : Cx) (target : Expr) (t : TG) : Prop :=
  ∀ (pins : List (Addr × Obj)) (s : Shared) (σ : St) (H : Hp) (v : V) (u : Value) (Q : St → Hp → Prop), Inv X pins σ H s → RelV v u → t v σ H Q →
    wpAny (model X.prog X.w) X.A (assign target X.env u) (fun _ s' => ∃ σ' H', Inv X pins σ' H' s' ∧ Q σ' H') X.xe s
/-- several targets, one after another -/
def PGs (X : Cx) (ts : List Expr) (t : TGs) : Prop :=
  ∀ (pins : List (Addr × Obj)) (s : Shared) (σ : St) (H : Hp) (vs : List V) (us : List Value) (Q : St → Hp → Prop), Inv X pins σ H s → Vals vs us → t vs σ H Q →
    wpAny (model X.prog X.w) X.A (assignInOrder ((assignEach ts X.env).map (·.2)) us) (fun _ s' => ∃ σ' H', Inv X pins σ' H' s' ∧ Q σ' H') X.xe s
/-- o[i] = v, by values -/
abbrev TSet := V → V → V → Hp → (Hp → Prop) → Prop
def PSet (X : Cx) (t : TSet) : Prop :=
  ∀ (pins : List (Addr × Obj)) (s : Shared) (σ : St) (H : Hp) (o i v : V) (ov iv u : Value) (Q : Hp → Prop), Inv X pins σ H s → RelV o ov → RelV i iv → RelV v u → t o i v H Q →
    wpAny (model X.prog X.w) X.A (setItem ov iv u) (fun _ s' => ∃ H', Inv X pins σ H' s' ∧ Q H') X.xe s
/-- a op= b, by values -/
abbrev TIp := V → V → Hp → VK → Prop
def PIp (X : Cx) (op : Operator) (t : TIp) : Prop :=
  ∀ (pins : List (Addr × Obj)) (s : Shared) (σ : St) (H : Hp) (x y : V) (v u : Value) (Q : VK), Inv X pins σ H s → RelV x v → RelV y u → t x y H Q →
    wpAny (model X.prog X.w) X.A (inplaceOp op v u) (EP X pins σ Q) X.xe s
section
variable {X : Cx} {pos : Pos}
def gName (i : Nat) : TG := fun v σ H Q => Q (σ.set i (some v)) H
theorem pg_name {i : Nat} {x : Str} (hN : X.N.Nodup) (hi : X.N[i]? = some x) (hx : Loc X.env.scope x) (hf : X.fn x = true ∨ X.env.scope.names.lookup x = some .local := by first | exact .inl rfl | exact .inr rfl | assumption) : PG X (.Name x pos) (gName i) := by
  intro pins s σ H v u Q I r h
  exact wpAny_assign_Name (store_ok I hN hi hx r (fun s' I' => ⟨_, H, I', h⟩) hf)
def gNil : TGs := fun vs σ H Q => vs = [] ∧ Q σ H
def gCons (t : TG) (u : TGs) : TGs := fun vs σ H Q => ∃ v r, vs = v :: r ∧ t v σ H fun σ' H' => u r σ' H' Q
theorem pgs_nil : PGs X [] gNil := by
  intro pins s σ H vs us Q I r h
  obtain ⟨e, h⟩ := h
  subst e
  cases r
  exact assignInOrder_nil ⟨σ, H, I, h⟩
theorem pgs_cons {e : Expr} {es : List Expr} {t : TG} {u : TGs} (h1 : PG X e t) (h2 : PGs X es u)
    (hs : (assignEach (e :: es) X.env).map (·.2) = assign e X.env :: (assignEach es X.env).map (·.2) := by rfl) : PGs X (e :: es) (gCons t u) := by
  intro pins s σ H vs us Q I r h
  obtain ⟨v, vr, e1, h⟩ := h
  subst e1
  cases r with
  | cons r rr =>
    rw [hs]
    refine assignInOrder_cons (thn (h1 pins s σ H _ _ _ I r h) fun _ s1 ⟨σ1, H1, I1, q1⟩ => ?_)
    exact h2 pins s1 σ1 H1 _ _ Q I1 rr q1
/-- (a, b, ..) = a tuple of that length -/
def gTup (K : PySem.W.Frag) (n : Nat) (t : TGs) : TG := fun v σ H Q => ∃ a xs, v = .ref a ∧ SqT K H a xs ∧ xs.length = n ∧ t xs σ H Q
theorem pg_tup {es : List Expr} {k : Nat} {t : TGs} {n : Nat} (hc : X.calm = true) (h : PGs X es t)
    (hn : (assignEach es X.env).length = n := by rfl) (hst : (assignEach es X.env).findIdx? (·.1) = none := by rfl) : PG X (.Tuple es k pos) (gTup X.K n t) := by
  intro pins s σ H v u Q I r hw
  obtain ⟨a, xs, e1, hq, hl, hw⟩ := hw
  subst e1
  cases r
  obtain ⟨its, rv, ht, hz⟩ := I.tuple hq
  refine assign_Tuple_tuple (I.ok.hd hc) ht (by simp [hn, ← hl, rv.length]) hst fun h' hx => ?_
  have I1 : Inv X pins σ H { s with heap := h' } := I.kept (t' := s.toks) fun b o e => hx b o (Nat.ne_of_lt (Heap.lt_size e)) e
  exact h pins _ σ H xs _ Q I1 (by simpa using rv) hw
/-- o[i] = .. -/
def gSub (to ti : TE) (t : TSet) : TG := fun v σ H Q => to σ H fun o H1 => ti σ H1 fun i H2 => t o i v H2 fun H3 => Q σ H3
/-- target = value -/
def tAsg (te : TE) (g : TG) : TS := fun D σ H => te σ H fun x H1 => g x σ H1 D.nx
theorem ps_asg {tg e : Expr} {te : TE} {g : TG} (he : PE X e te) (hg : PG X tg g) (hs : swapsWithSole [tg] e pos.line X.env = pure false := by rfl) (hw : swappedStores [tg] e X.env = pure none := by rfl)
    (h1 : (assignEach [tg] X.env).map (·.2) = [assign tg X.env] := by rfl) : PS X (.Assign [tg] e pos) (tAsg te g) := by
  intro pins s σ H D I h
  refine wpAny_Assign_stores (thn (he pins s σ H _ I h) fun v s1 ⟨x, H1, I1, r1, q1⟩ => ?_) hs hw
  rw [h1]
  exact thn (hg pins s1 σ H1 x v _ I1 r1 q1) fun _ s2 q => q
/-- name = value -/
theorem ps_set {i : Nat} {x : Str} {e : Expr} {te : TE} {pos' : Pos} (hN : X.N.Nodup) (hi : X.N[i]? = some x) (hx : Loc X.env.scope x) (he : PE X e te) (hs : swapsWith e (some (.Name x pos')) pos.line X.env = pure false := by rfl) (hf : X.fn x = true ∨ X.env.scope.names.lookup x = some .local := by first | exact .inl rfl | exact .inr rfl | assumption) :
    PS X (.Assign [.Name x pos'] e pos) (tAsg te (gName i)) := by
  intro pins s σ H D I h
  refine wpAny_Assign_Name (thn (he pins s σ H _ I h) fun v s1 ⟨y, H1, I1, r1, q1⟩ => ?_) hs
  exact store_ok I1 hN hi hx r1 (fun s2 I2 => ⟨_, H1, I2, q1⟩) hf
/-- a, b = x, y with plain local names: stored from the right; the pair itself is not tracked (the opening rows as in PyProof/Rows/TupAssign.lean:23) -/
def tPar (i j : Nat) (ta : TA) : TS := fun D σ H => ta σ H fun vs H1 => ∃ v w, vs = [v, w] ∧ D.nx ((σ.set i (some v)).set j (some w)) H1
/-- name op= e -/
def tAug (i : Nat) (te : TE) (ti : TIp) : TS := fun D σ H => ∃ x, σ[i]? = some (some x) ∧ te σ H fun y H1 => ti x y H1 fun z H2 => D.nx (σ.set i (some z)) H2
/-- o[i] op= e -/
def tAugS (to ti te : TE) (tget : V → V → Hp → VK → Prop) (tip : TIp) (tset : TSet) : TS := fun D σ H => to σ H fun o H1 => ti σ H1 fun i H2 => tget o i H2 fun x H3 => te σ H3 fun y H4 => tip x y H4 fun z H5 => tset o i z H5 fun H6 => D.nx σ H6
/-- o[i], by values -/
def PGet (X : Cx) (t : V → V → Hp → VK → Prop) : Prop :=
  ∀ (pins : List (Addr × Obj)) (s : Shared) (σ : St) (H : Hp) (o i : V) (ov iv : Value) (Q : VK), Inv X pins σ H s → RelV o ov → RelV i iv → t o i H Q →
    wpAny (model X.prog X.w) X.A (getItem ov iv) (EP X pins σ Q) X.xe s
/-- ints -/
def ipI (f : Int → Int → Int) : TIp := fun x y H Q => ∃ i j, x = .int i ∧ y = .int j ∧ Q (.int (f i j)) H
end

/-! ### while -/
section
variable {X : Cx} {pos : Pos}
/-- the invariant W with its measure -/
def tWhile (c : TT) (tb : TS) : TS := fun D σ H => ∃ W : Nat → St → Hp → Prop, (∃ m, W m σ H) ∧ ∀ m σ H, W m σ H →
  c σ H fun b H1 => if b = true then ∃ N : St → Hp → Prop, (∀ σ' H', N σ' H' → ∃ m', m' < m ∧ W m' σ' H') ∧ tb { D with nx := N, ct := N, bk := D.nx } σ H1 else D.nx σ H1
end

/-! ### what a loop or a comprehension walks -/
/-- at turn i: it yields x (the heap may grow), or it stops -/
structure It where
  go : Nat → Hp → Prop
  yld : Nat → Hp → V → Hp → Prop
  stop : Nat → Hp → Prop
/-- the iterator's own objects may turn: they are not the frame's, not pinned, younger than the entry (or a comprehension's own) -/
def FpOk (X : Cx) (pins : List (Addr × Obj)) (H : Hp) (b : Addr) : Prop :=
  H b = none ∧ b ≠ X.env.locals ∧ b ∉ X.fs ∧ (b ∈ X.ex ∨ X.s₀.heap.objs.size ≤ b) ∧ (∀ x c, X.env.cells.lookup x = some c → c ≠ b) ∧ ∀ p ∈ X.pn ++ pins, p.1 ≠ b
theorem Inv.fpOk {X : Cx} {pins : List (Addr × Obj)} {σ : St} {H H' : Hp} {s : Shared} {b : Addr} (I : Inv X pins σ H s) (hb : s.heap.objs.size ≤ b) (hn : H' b = none) : FpOk X pins H' b := by
  refine ⟨hn, Nat.ne_of_gt (Nat.lt_of_lt_of_le I.lt hb), I.nofs hb, .inr (Nat.le_trans I.sz hb), fun x c e z => ?_, fun p hp z => ?_⟩
  · obtain ⟨v, q⟩ := I.cell x c e
    exact absurd (Nat.lt_of_lt_of_le q.lt (by rw [z]; exact hb)) (Nat.lt_irrefl _)
  · exact absurd (Nat.lt_of_lt_of_le (Heap.lt_size (I.pin p hp).1) (by rw [z]; exact hb)) (Nat.lt_irrefl _)
structure Turn (P : Program) (w : World) (K : PySem.W.Frag) (tg : Expr) (J : It) (fp : List Addr) (it : Addr) (tn : Nat → Heap → Prop) : Prop where
  mem : it ∈ fp
  obj : ∀ i h, tn i h → ∀ b ∈ fp, ∃ o, h.get? b = some o ∧ ∀ v, o.data ≠ .cell v
  keep : ∀ i h h', tn i h → (∀ b ∈ fp, ∀ o, h.get? b = some o → h'.get? b = some o) → tn i h'
  item : ∀ (X : Cx), X.prog = P → X.w = w → X.K = K → X.calm = true → ∀ (i : Nat) (pins : List (Addr × Obj)) (s : Shared) (σ : St) (H : Hp) (E : Value → Shared → Prop), Inv X pins σ H s → (∀ b ∈ fp, FpOk X pins H b) → tn i s.heap → J.go i H →
    wpAny (model P w) X.A (pyNext (.ref it)) (fun r s1 => ∃ u, r = some u ∧
      wpAny (model P w) X.A (letOwnedTupleGo tg (.ref it) u) (fun _ s2 => ∃ x H', Inv X pins σ H' s2 ∧ RelV x u ∧ J.yld i H x H' ∧ tn (i + 1) s2.heap ∧ ∀ b ∈ fp, H' b = none) E s1) E s
  done : ∀ (X : Cx), X.prog = P → X.w = w → X.K = K → X.calm = true → ∀ (i : Nat) (pins : List (Addr × Obj)) (s : Shared) (σ : St) (H : Hp) (E : Value → Shared → Prop), Inv X pins σ H s → (∀ b ∈ fp, FpOk X pins H b) → tn i s.heap → J.stop i H →
    wpAny (model P w) X.A (pyNext (.ref it)) (fun r s1 => r = none ∧ Inv X pins σ H s1) E s
  self : ∀ (A : Around) (i : Nat) (s : Shared) (Q : Value → Shared → Prop) (E : Value → Shared → Prop), tn i s.heap → Q (.ref it) s → wpAny (model P w) A (pyIter (.ref it)) Q E s
abbrev TI := St → Hp → (It → Hp → Prop) → Prop
/-- an iterator has come -/
def PIE (X : Cx) (pins : List (Addr × Obj)) (σ : St) (tg : Expr) (R : It → Hp → Prop) (itv : Value) (s2 : Shared) : Prop :=
  ∃ (it : Addr) (fp : List Addr) (tn : Nat → Heap → Prop) (J : It) (H' : Hp), itv = .ref it ∧ Inv X pins σ H' s2 ∧ Turn X.prog X.w X.K tg J fp it tn ∧ tn 0 s2.heap ∧ (∀ b ∈ fp, FpOk X pins H' b) ∧ R J H'
def PI (X : Cx) (tg iter : Expr) (wi : TI) : Prop :=
  ∀ (pins : List (Addr × Obj)) (s : Shared) (σ : St) (H : Hp) (R : It → Hp → Prop), Inv X pins σ H s → wi σ H R →
    wpAny (model X.prog X.w) X.A (eval iter X.env) (fun v s1 => wpAny (model X.prog X.w) X.A (pyIter v) (PIE X pins σ tg R) X.xe s1) X.xe s

/-- the step ahead of the store is nothing for an iterator that keeps no tuple -/
theorem go_of {M : Model} {A : Around} {E : Value → Shared → Prop} {s : Shared} {tg : Expr} {it : Addr} {u : Value} {o : Obj} {n : String} {vs : Array Value} {Q : Unit → Shared → Prop} (ho : s.heap.get? it = some o) (hc : o.cls = .type n) (hd : o.data = .fields vs)
    (hn : ["enumerate", "zip", "dict_itemiterator", "dict_reverseitemiterator", "odict_iterator", "itertools.zip_longest", "itertools.pairwise"].contains n = false) (hQ : Q () s) : wpAny M A (letOwnedTupleGo tg (.ref it) u) Q E s := by
  unfold letOwnedTupleGo
  cases tg <;> first
    | exact wpAny_pure hQ
    | (cases u <;> first
        | exact wpAny_pure hQ
        | (refine wpAny_bind (wpAny_load ho ?_)
           rw [hc, hd]
           show wpAny M A (if (["enumerate", "zip", "dict_itemiterator", "dict_reverseitemiterator", "odict_iterator", "itertools.zip_longest", "itertools.pairwise"].contains n && vs[0]? == some (rawInt _)) = true then _ else _) Q E s
           rw [if_neg (by intro h; rw [hn, Bool.false_and] at h; cases h)]
           exact wpAny_pure hQ))

/-- the list at a, as it stands at each turn (a loop may append to it) -/
def Itl (K : PySem.W.Frag) (a : Addr) : It :=
  ⟨fun i H => ∃ xs x, SqL K H a xs ∧ xs[i]? = some x, fun i H x H' => H' = H ∧ ∀ xs, SqL K H a xs → xs[i]? = some x, fun i H => ∃ xs, SqL K H a xs ∧ xs.length ≤ i⟩
def Itt (K : PySem.W.Frag) (a : Addr) : It :=
  ⟨fun i H => ∃ xs x, SqT K H a xs ∧ xs[i]? = some x, fun i H x H' => H' = H ∧ ∀ xs, SqT K H a xs → xs[i]? = some x, fun i H => ∃ xs, SqT K H a xs ∧ xs.length ≤ i⟩
/-- lo, lo + 1, .. (n of them) -/
def Itr (lo : Int) (n : Nat) : It := ⟨fun i _ => i < n, fun i H x H' => H' = H ∧ x = .int (lo + i), fun i _ => n ≤ i⟩
theorem turn_list {P : Program} {w : World} {K : PySem.W.Frag} {tg : Expr} (a it : Addr) : Turn P w K tg (Itl K a) [it] it (fun i h => h.IsListIter it a i) where
  mem := by simp
  obj := fun i h st b hb => by
    have e : b = it := by simpa using hb
    subst e
    obtain ⟨o, e, c, d⟩ := st
    exact ⟨o, e, fun v z => by rw [d] at z; cases z⟩
  keep := fun i h h' st k => st.at fun o e => k it (by simp) o e
  item := by
    intro X hP hw hK hc i pins s σ H E I hf st hg
    subst hP hw hK
    obtain ⟨xs, x, hq, hx⟩ := hg
    obtain ⟨its, rv, p, hz⟩ := I.list hq
    obtain ⟨u, hu, ru⟩ := rv.get hx
    obtain ⟨f0, f1, f2, f3, f4, f5⟩ := hf it (by simp)
    refine wpAny_pyNext_list_item st p.isList (x := u) (by simpa using hu) fun h' st' sb => ?_
    have I1 : Inv X pins σ H { s with heap := h' } := I.turned (t' := s.toks) (fun b o hb e => (sb.2 b hb).trans e) f0 f1 f3 f4 f5
    obtain ⟨o, e, c, d⟩ := id st'
    exact ⟨u, rfl, go_of (s := { s with heap := h' }) e c d (by decide) ⟨x, H, I1, ru, ⟨rfl, fun ys hy => by rw [I.list_inj hy hq]; exact hx⟩, st', fun b hb => (hf b hb).1⟩⟩
  done := by
    intro X hP hw hK hc i pins s σ H E I hf st hg
    subst hP hw hK
    obtain ⟨xs, hq, hx⟩ := hg
    obtain ⟨its, rv, p, hz⟩ := I.list hq
    obtain ⟨f0, f1, f2, f3, f4, f5⟩ := hf it (by simp)
    have hl := rv.length
    exact wpAny_pyNext_list_end (I.ok.hd hc) st p.isList (by simp; omega) fun h' eb => ⟨rfl, I.turned (t' := s.toks) (fun b o hb e => eb b o hb e) f0 f1 f3 f4 f5⟩
  self := fun _ _ _ _ _ st h => wpAny_pyIter_listiter st h
theorem turn_tuple {P : Program} {w : World} {K : PySem.W.Frag} {tg : Expr} (a it : Addr) : Turn P w K tg (Itt K a) [it] it (fun i h => h.IsTupleIter it a i) where
  mem := by simp
  obj := fun i h st b hb => by
    have e : b = it := by simpa using hb
    subst e
    obtain ⟨o, e, c, d⟩ := st
    exact ⟨o, e, fun v z => by rw [d] at z; cases z⟩
  keep := fun i h h' st k => st.at fun o e => k it (by simp) o e
  item := by
    intro X hP hw hK hc i pins s σ H E I hf st hg
    subst hP hw hK
    obtain ⟨xs, x, hq, hx⟩ := hg
    obtain ⟨its, rv, p, hz⟩ := I.tuple hq
    obtain ⟨u, hu, ru⟩ := rv.get hx
    obtain ⟨f0, f1, f2, f3, f4, f5⟩ := hf it (by simp)
    refine wpAny_pyNext_tuple_item st (show s.heap.IsTuple a its.toArray from p) (x := u) (by simpa using hu) fun h' st' sb => ?_
    have I1 : Inv X pins σ H { s with heap := h' } := I.turned (t' := s.toks) (fun b o hb e => (sb.2 b hb).trans e) f0 f1 f3 f4 f5
    obtain ⟨o, e, c, d⟩ := id st'
    exact ⟨u, rfl, go_of (s := { s with heap := h' }) e c d (by decide) ⟨x, H, I1, ru, ⟨rfl, fun ys hy => by rw [I.tuple_inj hy hq]; exact hx⟩, st', fun b hb => (hf b hb).1⟩⟩
  done := by
    intro X hP hw hK hc i pins s σ H E I hf st hg
    subst hP hw hK
    obtain ⟨xs, hq, hx⟩ := hg
    obtain ⟨its, rv, p, hz⟩ := I.tuple hq
    obtain ⟨f0, f1, f2, f3, f4, f5⟩ := hf it (by simp)
    have hl := rv.length
    exact wpAny_pyNext_tuple_end (I.ok.hd hc) st (show s.heap.IsTuple a its.toArray from p) (by simp; omega) fun h' eb => ⟨rfl, I.turned (t' := s.toks) (fun b o hb e => eb b o hb e) f0 f1 f3 f4 f5⟩
  self := fun _ _ _ _ _ st h => wpAny_pyIter_tupleiter st h
theorem turn_range {P : Program} {w : World} {K : PySem.W.Frag} {tg : Expr} (it : Addr) (lo : Int) (n : Nat) : Turn P w K tg (Itr lo n) [it] it (fun i h => IsRangeIter h it (lo + (i : Nat) * 1) ((n : Int) - (i : Nat)) 1) where
  mem := by simp
  obj := fun i h st b hb => by
    have e : b = it := by simpa using hb
    subst e
    exact ⟨_, st, fun v z => by
      have z' : Data.fields _ = Data.cell v := z
      cases z'⟩
  keep := fun i h h' st k => k it (by simp) _ st
  item := by
    intro X hP hw hK hc i pins s σ H E I hf st hg
    subst hP hw hK
    obtain ⟨f0, f1, f2, f3, f4, f5⟩ := hf it (by simp)
    have W := Walks.range (prog := X.prog) (w := X.w) (I.ok.hd hc) it lo 1 n
    refine W.item i s _ _ hg st fun v h' tk hv st' kk => ?_
    obtain ⟨t, rfl⟩ := hv
    have I1 : Inv X pins σ H { s with heap := h', toks := tk } := I.turned (fun b o hb e => kk b o (by simpa using hb) e) f0 f1 f3 f4 f5
    refine ⟨_, rfl, go_of (s := { s with heap := h', toks := tk }) (n := "range_iterator") st' rfl rfl (by decide) ⟨.int (lo + i), H, I1, ⟨t, ?_⟩, ⟨rfl, rfl⟩, st', fun b hb => (hf b hb).1⟩⟩
    rw [Int.mul_one]
  done := by
    intro X hP hw hK hc i pins s σ H E I hf st hg
    subst hP hw hK
    obtain ⟨f0, f1, f2, f3, f4, f5⟩ := hf it (by simp)
    exact wpAny_pyNext_range_end (I.ok.hd hc) st (by have : n ≤ i := hg; omega) fun h' eb => ⟨rfl, I.turned (t' := s.toks) (fun b o hb e => eb b o hb e) f0 f1 f3 f4 f5⟩
  self := fun _ _ _ _ _ st h => wpAny_pyIter_rangeiter st h
end L2

namespace L2
open PySem PySem.Spec PyProof.Rows
section
variable {X : Cx} {tg : Expr}
def iList (K : PySem.W.Frag) (tl : TE) : TI := fun σ H R => tl σ H fun x H1 => ∃ a, x = .ref a ∧ (∃ xs, SqL K H1 a xs) ∧ R (Itl K a) H1
def iTup (K : PySem.W.Frag) (tl : TE) : TI := fun σ H R => tl σ H fun x H1 => ∃ a, x = .ref a ∧ (∃ xs, SqT K H1 a xs) ∧ R (Itt K a) H1
/-- a range object just made, walked -/
theorem range_it {pins : List (Addr × Obj)} {σ : St} {H : Hp} {s : Shared} {R : It → Hp → Prop} {E : Value → Shared → Prop} {lo hi : Int} {t u v : Tok} {tk : Nat} (I : Inv X pins σ H s) (h1 : -(2 ^ 62) ≤ lo) (h2 : lo < 2 ^ 62) (h3 : -(2 ^ 62) ≤ hi) (h4 : hi < 2 ^ 62)
    (q : R (Itr lo (hi - lo).toNat) H) : wpAny (model X.prog X.w) X.A (pyIter (.ref s.heap.objs.size)) (PIE X pins σ tg R) E { s with heap := s.heap.push { cls := .type "range", data := .fields #[.int lo t, .int hi u, .int 1 v] }, toks := tk } := by
  refine wpAny_pyIter_range (IsRange.new ..) (small_one h1 h2 h3 h4) ?_
  have I1 : Inv X pins σ H { s with heap := s.heap.push { cls := .type "range", data := .fields #[.int lo t, .int hi u, .int 1 v] }, toks := tk } := I.kept fun b o e => Heap.get?_push_of_some _ e
  refine ⟨(s.heap.push { cls := .type "range", data := .fields #[.int lo t, .int hi u, .int 1 v] }).objs.size, [(s.heap.push { cls := .type "range", data := .fields #[.int lo t, .int hi u, .int 1 v] }).objs.size], _, _, H, rfl,
    I1.kept (t' := tk) fun b o e => Heap.get?_push_of_some _ e, turn_range _ lo (hi - lo).toNat, ?_, fun b hb => ?_, q⟩
  · have e1 : lo + ((0 : Nat) : Int) * 1 = lo := by simp
    have e2 : (((hi - lo).toNat : Nat) : Int) - ((0 : Nat) : Int) = Builtin.Range.rangeSize lo hi 1 := by rw [rangeSize_one]; split <;> omega
    show IsRangeIter _ _ (lo + ((0 : Nat) : Int) * 1) ((((hi - lo).toNat : Nat) : Int) - ((0 : Nat) : Int)) 1
    rw [e1, e2]
    exact Heap.get?_push_size _ rfl
  · have e : b = (s.heap.push { cls := .type "range", data := .fields #[.int lo t, .int hi u, .int 1 v] }).objs.size := by simpa using hb
    subst e
    exact I1.fpOk (Nat.le_refl _) (I1.hok.fresh (Nat.le_refl _))
def iRng1 (ta : TA) : TI := fun σ H R => ta σ H fun vs H1 => ∃ j : Int, vs = [.int j] ∧ -(2 ^ 62) ≤ j ∧ j < 2 ^ 62 ∧ R (Itr 0 j.toNat) H1
def iRng2 (ta : TA) : TI := fun σ H R => ta σ H fun vs H1 => ∃ i j : Int, vs = [.int i, .int j] ∧ (-(2 ^ 62) ≤ i ∧ i < 2 ^ 62 ∧ -(2 ^ 62) ≤ j ∧ j < 2 ^ 62) ∧ R (Itr i (j - i).toNat) H1
theorem pi_range1 {a : Expr} {ta : TA} {p pos : Pos} (hg : Gl X "range") (hm : X.mg "range" = none) (ha : PA X [a] ta) (hs : starEach [a] X.env = [(false, eval a X.env)] := by rfl) : PI X tg (.Call (.Name "range" p) [a] [] pos) (iRng1 ta) := by
  intro pins s σ H R I h
  refine Call_ (ld_blt I hg hm boot_range (PyProof.Rows.callWith_type1 (thn (ha pos pins s σ H _ I h) fun us s1 ⟨vs, H1, I1, r1, q1⟩ => ?_) hs rfl))
  obtain ⟨j, e, q1, q2, q⟩ := q1
  subst e
  cases r1 with
  | cons r rr =>
    cases rr
    obtain ⟨t, rfl⟩ := r
    exact call_range_1 (range_it I1 (by omega) (by omega) q1 q2 (by simpa using q))
theorem pi_range2 {a b : Expr} {ta : TA} {p pos : Pos} (hg : Gl X "range") (hm : X.mg "range" = none) (ha : PA X [a, b] ta) (hs : starEach [a, b] X.env = [(false, eval a X.env), (false, eval b X.env)] := by rfl) (hs2 : starEach [b] X.env = [(false, eval b X.env)] := by rfl) :
    PI X tg (.Call (.Name "range" p) [a, b] [] pos) (iRng2 ta) := by
  intro pins s σ H R I h
  refine Call_ (ld_blt I hg hm boot_range (PyProof.Rows.callWith_type1 (thn (ha pos pins s σ H _ I h) fun us s1 ⟨vs, H1, I1, r1, q1⟩ => ?_) (by rw [hs, hs2]) (by rw [hs2]; rfl)))
  obtain ⟨i, j, e, ⟨q1, q2, q3, q4⟩, q⟩ := q1
  subst e
  cases r1 with
  | cons r rr =>
    cases rr with
    | cons r' rr =>
      cases rr
      obtain ⟨t, rfl⟩ := r
      obtain ⟨t', rfl⟩ := r'
      exact call_range_2 (range_it I1 q1 q2 q3 q4 q)

/-! ### for -/
/-- W: the invariant by the turn and a measure; N: what the body is to reach -/
def tFor (wi : TI) (g : TG) (tb : TS) : TS := fun D σ H => wi σ H fun J H1 => ∃ W : Nat → Nat → St → Hp → Prop, (∃ m, W 0 m σ H1) ∧ ∀ i m σ H, W i m σ H →
  (J.stop i H ∧ D.nx σ H) ∨ (J.go i H ∧ ∃ N : St → Hp → Prop, (∀ σ' H', N σ' H' → ∃ m', m' < m ∧ W (i + 1) m' σ' H') ∧ ∀ x H', J.yld i H x H' → g x σ H' fun σ2 H2 => tb { D with nx := N, ct := N, bk := D.nx } σ2 H2)
/-- the records at fp as they stand -/
def pinsAt (fp : List Addr) (h : Heap) : List (Addr × Obj) := fp.filterMap fun b => (h.get? b).map fun o => (b, o)
theorem mem_pinsAt {fp : List Addr} {h : Heap} {b : Addr} {o : Obj} (hb : b ∈ fp) (e : h.get? b = some o) : (b, o) ∈ pinsAt fp h := List.mem_filterMap.mpr ⟨b, hb, by rw [e]; rfl⟩
theorem of_pinsAt {fp : List Addr} {h : Heap} {p : Addr × Obj} (hp : p ∈ pinsAt fp h) : p.1 ∈ fp ∧ h.get? p.1 = some p.2 := by
  obtain ⟨b, hb, e⟩ := List.mem_filterMap.mp hp
  cases q : h.get? b with
  | none => rw [q] at e; cases e
  | some o =>
    rw [q] at e
    have e' : (b, o) = p := Option.some.inj e
    subst e'
    exact ⟨hb, q⟩
theorem Inv.pinned {pins : List (Addr × Obj)} {σ : St} {H : Hp} {s : Shared} {fp : List Addr} (I : Inv X pins σ H s) (hf : ∀ b ∈ fp, FpOk X pins H b) (ho : ∀ b ∈ fp, ∃ o, s.heap.get? b = some o ∧ ∀ v, o.data ≠ .cell v) : Inv X (pins ++ pinsAt fp s.heap) σ H s :=
  I.pins_of fun p hp => (List.mem_append.mp hp).elim (fun z => I.pin p (List.mem_append_right _ z)) fun z => by
    obtain ⟨hb, e⟩ := of_pinsAt z
    obtain ⟨f0, f1, f2, _⟩ := hf p.1 hb
    obtain ⟨o, e', d⟩ := ho p.1 hb
    rw [e] at e'; cases e'
    exact ⟨e, f0, f1, f2, d⟩
theorem Inv.unpinned {pins pl : List (Addr × Obj)} {σ : St} {H : Hp} {s : Shared} (I : Inv X (pins ++ pl) σ H s) : Inv X pins σ H s := I.pins_of fun p hp => I.pin p (List.mem_append_right _ (List.mem_append_left _ hp))
theorem ps_for {iter : Expr} {body : List Stmt} {wi : TI} {g : TG} {tb : TS} {pos : Pos} (hp : PassesOwn (model X.prog X.w) X.A X.env X.xe) (hc : X.calm = true) (hi : PI X tg iter wi) (hg : PG X tg g) (hb : PSs X body tb)
    (hs : ∀ x, foldedSetIterable iter X.env x = pure x := by intro _; rfl) : PS X (.For tg iter body [] pos) (tFor wi g tb) := by
  intro pins s σ H D I h
  refine wpAny_For (thn (hi pins s σ H _ I h) fun v s1 h1 => thn h1 fun itv s2 h2 => ?_) hs
  obtain ⟨it, fp, tn, J, H2, e, I2, T, st2, f2, W, ⟨m0, w0⟩, turn⟩ := h2
  subst e
  -- what stays true of the iterator's objects through the loop
  have stat : ∀ {H' : Hp}, (∀ b ∈ fp, H' b = none) → ∀ b ∈ fp, FpOk X pins H' b := fun hn b hb => ⟨hn b hb, (f2 b hb).2⟩
  refine codeAny_forLoop_any (fun n s' => ∃ i σ' H', Inv X pins σ' H' s' ∧ tn i s'.heap ∧ (∀ b ∈ fp, H' b = none) ∧ W i n σ' H') ?_ m0 ⟨0, σ, H2, I2, st2, fun b hb => (f2 b hb).1, w0⟩
  rintro n s3 ⟨i, σ3, H3, I3, st3, fr3, w3⟩
  rcases turn i n σ3 H3 w3 with ⟨stop, qn⟩ | ⟨go, N, hN, step⟩
  · refine wpAny_passesOwn hp (thn (T.done X rfl rfl rfl hc i pins s3 σ3 H3 X.xe I3 (stat fr3) st3 stop) fun r s4 ⟨hr, I4⟩ => ?_)
    subst hr
    exact wpAny_execs_nil ⟨σ3, H3, I4, qn⟩
  · refine wpAny_passesOwn hp (thn (T.item X rfl rfl rfl hc i pins s3 σ3 H3 X.xe I3 (stat fr3) st3 go) fun r s4 ⟨u, hr, h4⟩ => ?_)
    subst hr
    refine wpAny_passesOwn hp (thn h4 fun _ s5 ⟨x, H5, I5, r5, y5, st5, fr5⟩ => ?_)
    have I5' := I5.pinned (stat fr5) (T.obj _ _ st5)
    refine wpAny_passesOwn hp (thn (hg _ s5 σ3 H5 x u _ I5' r5 (step x H5 y5)) fun _ s6 ⟨σ6, H6, I6, q6⟩ => ?_)
    refine wpAny_passesOwn hp (thn (hb _ s6 σ6 H6 _ I6 q6) fun f s7 q7 => ?_)
    have again : ∀ {σ7 : St} {H7 : Hp}, Inv X (pins ++ pinsAt fp s5.heap) σ7 H7 s7 → N σ7 H7 → ∃ m, m < n ∧ ∃ i σ' H', Inv X pins σ' H' s7 ∧ tn i s7.heap ∧ (∀ b ∈ fp, H' b = none) ∧ W i m σ' H' := fun {σ7 H7} I7 n7 => by
      obtain ⟨m', hm, w7⟩ := hN σ7 H7 n7
      refine ⟨m', hm, i + 1, σ7, H7, I7.unpinned, T.keep _ _ _ st5 fun b hb o e => (I7.pin (b, o) (List.mem_append_right _ (List.mem_append_right _ (mem_pinsAt hb e)))).1, fun b hb => ?_, w7⟩
      obtain ⟨o, e, d⟩ := T.obj _ _ st5 b hb
      exact (I7.pin (b, o) (List.mem_append_right _ (List.mem_append_right _ (mem_pinsAt hb e)))).2.1
    cases f with
    | next => obtain ⟨σ7, H7, I7, n7⟩ := q7; exact again I7 n7
    | cont => obtain ⟨σ7, H7, I7, n7⟩ := q7; exact again I7 n7
    | brk => obtain ⟨σ7, H7, I7, q7⟩ := q7; exact ⟨σ7, H7, I7.unpinned, q7⟩
    | ret v => obtain ⟨x7, σ7, H7, I7, r7, q7⟩ := q7; exact ⟨x7, σ7, H7, I7.unpinned, r7, q7⟩
end

/-! ### the forms one uses -/
end L2

namespace L2
open PySem PySem.Spec PyProof.Rows

abbrev R2 := V → V → Hp → VK → Prop
/-- a two-place operation on values: f is binaryOp op, inplaceOp op or compareOp op -/
def OpR (X : Cx) (f : Value → Value → Sem Value) (r : R2) : Prop :=
  ∀ (pins : List (Addr × Obj)) (s : Shared) (σ : St) (H : Hp) (x y : V) (v u : Value) (Q : VK), Inv X pins σ H s → RelV x v → RelV y u → r x y H Q →
    wpAny (model X.prog X.w) X.A (f v u) (EP X pins σ Q) X.xe s
/-- a one-place operation -/
def UnR (X : Cx) (f : Value → Sem Value) (r : V → Hp → VK → Prop) : Prop :=
  ∀ (pins : List (Addr × Obj)) (s : Shared) (σ : St) (H : Hp) (x : V) (v : Value) (Q : VK), Inv X pins σ H s → RelV x v → r x H Q →
    wpAny (model X.prog X.w) X.A (f v) (EP X pins σ Q) X.xe s
/-- a call of a value that is known (a builtin, a type) with values -/
def CallR (X : Cx) (f : Value) (r : List V → Hp → VK → Prop) : Prop :=
  ∀ (pins : List (Addr × Obj)) (s : Shared) (σ : St) (H : Hp) (xs : List V) (us : List Value) (Q : VK), Inv X pins σ H s → Vals xs us → r xs H Q →
    wpAny (model X.prog X.w) X.A (call f us) (EP X pins σ Q) X.xe s
/-- a value's truth -/
def TruR (X : Cx) (r : V → Hp → (Bool → Hp → Prop) → Prop) : Prop :=
  ∀ (pins : List (Addr × Obj)) (s : Shared) (σ : St) (H : Hp) (x : V) (v : Value) (Q : Bool → Hp → Prop), Inv X pins σ H s → RelV x v → r x H Q →
    wpAny (model X.prog X.w) X.A (truthy v) (TP X pins σ Q) X.xe s

def tOp (r : R2) (ta tb : TE) : TE := fun σ H Q => ta σ H fun x H1 => tb σ H1 fun y H2 => r x y H2 Q
def tUn (r : V → Hp → VK → Prop) (ta : TE) : TE := fun σ H Q => ta σ H fun x H1 => r x H1 Q
/-- ints in, under C, and a value out -/
def rI (C : Int → Int → Prop) (g : Int → Int → V) : R2 := fun x y H Q => ∃ i j, x = .int i ∧ y = .int j ∧ C i j ∧ Q (g i j) H
def rI0 (g : Int → Int → V) : R2 := fun x y H Q => ∃ i j, x = .int i ∧ y = .int j ∧ Q (g i j) H
def rU (g : Int → V) : V → Hp → VK → Prop := fun x H Q => ∃ i, x = .int i ∧ Q (g i) H

section
variable {X : Cx} {a b c : Expr} {ta tb tc : TE} {pos : Pos}

theorem binT (ha : PE X a ta) (hb : PE X b tb) {pins : List (Addr × Obj)} {s : Shared} {σ : St} {H : Hp} {R : V → V → Hp → Prop} (I : Inv X pins σ H s)
    (h : ta σ H fun x H1 => tb σ H1 fun y H2 => R x y H2) {Q : Value → Shared → Prop} {f : Value → Value → Sem Value}
    (hf : ∀ v u s2 x y H2, Inv X pins σ H2 s2 → RelV x v → RelV y u → R x y H2 → wpAny (model X.prog X.w) X.A (f v u) Q X.xe s2) :
    wpAny (model X.prog X.w) X.A (eval a X.env) (fun v s₁ => wpAny (model X.prog X.w) X.A (eval b X.env) (fun u s₂ => wpAny (model X.prog X.w) X.A (f v u) Q X.xe s₂) X.xe s₁) X.xe s := by
  refine thn (ha pins s σ H _ I h) fun v s1 ⟨x, H1, I1, r1, q1⟩ => ?_
  refine thn (hb pins s1 σ H1 _ I1 q1) fun u s2 ⟨y, H2, I2, r2, q2⟩ => ?_
  exact hf v u s2 x y H2 I2 r1 r2 q2

theorem pe_op {op : Operator} {r : R2} (ho : OpR X (binaryOp op) r) (ha : PE X a ta) (hb : PE X b tb) : PE X (.BinOp a op b pos) (tOp r ta tb) := by
  intro pins s σ H Q I h
  exact wpAny_BinOp (binT ha hb I h fun v u s2 x y H2 I2 rx ry q => ho pins s2 σ H2 x y v u Q I2 rx ry q)
/-! ### ints -/
theorem opI {f : Value → Value → Sem Value} {C : Int → Int → Prop} {g : Int → Int → Int}
    (rule : ∀ (i j : Int) (t u : Tok) (s : Shared) (Q : Value → Shared → Prop) (E : Value → Shared → Prop), C i j → Q (.int (g i j) s.toks) { s with toks := s.toks + 1 } → wpAny (model X.prog X.w) X.A (f (.int i t) (.int j u)) Q E s) :
    OpR X f (rI C fun i j => .int (g i j)) := by
  intro pins s σ H x y v u Q I rx ry h
  obtain ⟨i, j, rfl, rfl, hc, q⟩ := h
  obtain ⟨t, rfl⟩ := rx
  obtain ⟨t', rfl⟩ := ry
  exact rule i j t t' s _ _ hc ⟨.int (g i j), H, I.tok _, ⟨_, rfl⟩, q⟩
theorem opI0 {f : Value → Value → Sem Value} {g : Int → Int → Int}
    (rule : ∀ (i j : Int) (t u : Tok) (s : Shared) (Q : Value → Shared → Prop) (E : Value → Shared → Prop), Q (.int (g i j) s.toks) { s with toks := s.toks + 1 } → wpAny (model X.prog X.w) X.A (f (.int i t) (.int j u)) Q E s) :
    OpR X f (rI0 fun i j => .int (g i j)) := by
  intro pins s σ H x y v u Q I rx ry h
  obtain ⟨i, j, rfl, rfl, q⟩ := h
  obtain ⟨t, rfl⟩ := rx
  obtain ⟨t', rfl⟩ := ry
  exact rule i j t t' s _ _ ⟨.int (g i j), H, I.tok _, ⟨_, rfl⟩, q⟩
theorem opB0 {f : Value → Value → Sem Value} {g : Int → Int → Bool}
    (rule : ∀ (i j : Int) (t u : Tok) (s : Shared) (Q : Value → Shared → Prop) (E : Value → Shared → Prop), Q (.bool (g i j)) s → wpAny (model X.prog X.w) X.A (f (.int i t) (.int j u)) Q E s) :
    OpR X f (rI0 fun i j => .bl (g i j)) := by
  intro pins s σ H x y v u Q I rx ry h
  obtain ⟨i, j, rfl, rfl, q⟩ := h
  obtain ⟨t, rfl⟩ := rx
  obtain ⟨t', rfl⟩ := ry
  exact rule i j t t' s _ _ ⟨.bl (g i j), H, I, rfl, q⟩

def CDiv (i j : Int) : Prop := 0 < j ∧ j < 1073741824
def CDivN (i j : Int) : Prop := j ≠ 0 ∧ j.natAbs < 1073741824
def CPow (i j : Int) : Prop := 0 ≤ j ∧ j ≤ 1000000 ∧ i.natAbs < 2 ^ 64
def CMul (i j : Int) : Prop := (-(2 ^ 64) < i ∧ i < 2 ^ 64) ∨ (-(2 ^ 64) < j ∧ j < 2 ^ 64)
theorem op_add : OpR X (binaryOp .Add) (rI0 fun i j => .int (i + j)) := opI0 fun _ _ _ _ _ _ _ q => add_int q
theorem op_sub : OpR X (binaryOp .Sub) (rI0 fun i j => .int (i - j)) := opI0 fun _ _ _ _ _ _ _ q => sub_int q
/-- // by a positive divisor -/
theorem op_fdiv : OpR X (binaryOp .FloorDiv) (rI CDiv fun i j => .int (i / j)) := opI fun i j _ _ _ _ _ hc q => by
  have h1 : (0 : Int) < j := hc.1
  have h2 : j < 1073741824 := hc.2
  exact floordiv_int (by omega) (by rw [Int.fdiv_eq_ediv_of_nonneg i (by omega)]; exact q) (.inl (PyProof.noPylong_small (by omega)))
/-- % by a positive divisor of any size -/
theorem op_mod : OpR X (binaryOp .Mod) (rI (fun _ j => 0 < j) fun i j => .int (i % j)) := opI fun i j _ _ _ _ _ hc q => by
  have h1 : (0 : Int) < j := hc
  exact mod_int' (by omega) (by rw [Int.fmod_eq_emod_of_nonneg i (by omega)]; exact q)
theorem op_pow : OpR X (binaryOp .Pow) (rI CPow fun i j => .int (i ^ j.toNat)) := opI fun _ _ _ _ _ _ _ hc q => pow_int_small hc.1 hc.2.1 hc.2.2 q
/-! ### bools among ints: n += (a < b) -/
end

/-! ### comparisons -/
/-- the scalars that == tells apart as data does -/
def scal : V → V → Bool
  | .non, .non => true | .non, .int _ => true | .int _, .non => true | .non, .bl _ => true | .bl _, .non => true | .non, .str _ => true | .str _, .non => true
  | .int _, .int _ => true | .bl _, .bl _ => true | .str _, .str _ => true | .byt _, .byt _ => true
  | .int _, .str _ => true | .str _, .int _ => true | .bl _, .str _ => true | .str _, .bl _ => true
  | _, _ => false
def rEq : R2 := fun x y H Q => scal x y = true ∧ Q (.bl (decide (x = y))) H
def rNe : R2 := fun x y H Q => scal x y = true ∧ Q (.bl (!decide (x = y))) H

section
variable {X : Cx} {a b c : Expr} {ta tb tc : TE} {pos : Pos}
theorem op_lt : OpR X (compareOp .Lt) (rI0 fun i j => .bl (decide (i < j))) := opB0 fun _ _ _ _ _ _ _ q => lt_int q
theorem op_gt : OpR X (compareOp .Gt) (rI0 fun i j => .bl (decide (j < i))) := opB0 fun _ _ _ _ _ _ _ q => gt_int q
/-- is, is not of two objects that are tracked lists or instances -/
def isObj : HO → Bool
  | .lst _ => true
  | .ins _ _ _ => true
  | _ => false
/-- two rules for one operation: by cases -/
theorem OpR.or {f : Value → Value → Sem Value} {r r' : R2} (h : OpR X f r) (h' : OpR X f r') : OpR X f (fun x y H Q => r x y H Q ∨ r' x y H Q) := by
  intro pins s σ H x y v u Q I rx ry q
  rcases q with q | q
  · exact h pins s σ H x y v u Q I rx ry q
  · exact h' pins s σ H x y v u Q I rx ry q

theorem nomark (b : Expr) {op : CmpOp} (h : op ≠ .In := by decide) (h2 : op ≠ .NotIn := by decide) : behindInMarks op b = false := by
  have e1 : (op == CmpOp.In) = false := by cases op <;> first | rfl | exact absurd rfl h
  have e2 : (op == CmpOp.NotIn) = false := by cases op <;> first | rfl | exact absurd rfl h2
  cases b <;> simp [behindInMarks, e1, e2]
/-- a comparison as a value; hm: nomark b, or (for in, not in) by with_unfolding_all rfl -/
theorem pe_cmpR {op : CmpOp} {r : R2} (ho : OpR X (compareOp op) r) (ha : PE X a ta) (hb : PE X b tb) (hm : behindInMarks op b = false) : PE X (.Compare a [op] [b] pos) (tOp r ta tb) := by
  intro pins s σ H Q I h
  exact wpAny_Compare1 (binT ha hb I h fun v u s2 x y H2 I2 rx ry q => ho pins s2 σ H2 x y v u Q I2 rx ry q) hm
/-- a reading of a value as a test -/
def tTest (t : TE) : TT := fun σ H Q => t σ H fun x H' => ∃ k, x = .bl k ∧ Q k H'
theorem pt_cmpR {op : CmpOp} {r : R2} (ho : OpR X (compareOp op) r) (ha : PE X a ta) (hb : PE X b tb) (hm : behindInMarks op b = false) : PT X (.Compare a [op] [b] pos) (tTest (tOp r ta tb)) := by
  intro pins s σ H Q I h
  refine wpAny_isTrue_Compare1 (thn (ha pins s σ H _ I h) fun v s1 ⟨x, H1, I1, r1, q1⟩ => thn (hb pins s1 σ H1 _ I1 q1) fun u s2 ⟨y, H2, I2, r2, q2⟩ =>
    thn (ho pins s2 σ H2 x y v u _ I2 r1 r2 q2) fun c s3 ⟨z, H3, I3, r3, k, e, q3⟩ => ?_) hm
  subst e
  cases r3
  exact wpAny_truthy_bool ⟨H3, I3, q3⟩
/-- a op1 b op2 c -/
def tChain (r r' : R2) (ta tb tc : TE) : TE := fun σ H Q => ta σ H fun x H1 => tb σ H1 fun y H2 => r x y H2 fun z H3 => ∃ k, z = .bl k ∧
  (if k = true then tc σ H3 fun w' H4 => r' y w' H4 Q else Q (.bl false) H3)
/-! ### truth -/
/-- a value's truth by the abstract heap -/
def TruV (K : PySem.W.Frag) (x : V) (H : Hp) (k : Bool) : Prop :=
  match x with
  | .non => k = false
  | .bl b => k = b
  | .int i => k = (i != 0)
  | .str y => y.length ≤ sizeLine ∧ k = ((y.length : Int) != 0)
  | .byt y => y.size ≤ sizeLine ∧ k = ((y.size : Int) != 0)
  | .ref p => (∃ xs, SqL K H p xs ∧ k = !xs.isEmpty) ∨ (∃ xs, SqT K H p xs ∧ k = !xs.isEmpty) ∨ ∃ kvs, H p = some (.dK kvs) ∧ k = !kvs.isEmpty
  | _ => False
theorem line63 : (sizeLine : Nat) < 2 ^ 63 := by rw [sizeLine_eq]; decide
/-! ### strs and bytes -/
theorem op_add_str : OpR X (binaryOp .Add) (fun x y H Q => ∃ i j, x = .str i ∧ y = .str j ∧ i.length + j.length ≤ sizeLine ∧ Q (.str (i ++ j)) H) := by
  intro pins s σ H x y v u Q I rx ry h
  obtain ⟨i, j, rfl, rfl, hz, q⟩ := h
  obtain ⟨t, rfl⟩ := rx
  obtain ⟨t', rfl⟩ := ry
  exact add_str (fun t' tk => ⟨.str (i ++ j), H, I.tok _, ⟨_, rfl⟩, q⟩) hz
def PlainIxT (b : Expr) : Prop := ∀ o i, subscripted b false o i = operate [o, i] (getItem o i)
/-! ### scalar builtins, by CallR -/
theorem vals1 {x : V} {us : List Value} (r : Vals [x] us) : ∃ u, us = [u] ∧ RelV x u := by
  cases r with
  | cons r1 r2 => cases r2; exact ⟨_, rfl, r1⟩
theorem vals2 {x y : V} {us : List Value} (r : Vals [x, y] us) : ∃ u w', us = [u, w'] ∧ RelV x u ∧ RelV y w' := by
  cases r with
  | cons r1 r2 =>
    cases r2 with
    | cons r3 r4 => cases r4; exact ⟨_, _, rfl, r1, r3⟩
theorem call_max2 (hc : X.calm = true) : CallR X (.builtin "max") (fun xs H Q => ∃ i j, xs = [.int i, .int j] ∧ Q (.int (if j > i then j else i)) H) := by
  intro pins s σ H xs us Q I r h
  obtain ⟨i, j, rfl, q⟩ := h
  obtain ⟨u, w', rfl, ⟨t, rfl⟩, ⟨t', rfl⟩⟩ := vals2 r
  refine max_two_ints (I.ok.hd hc) fun h' tk k => ⟨_, H, I.kept k, ?_, q⟩
  by_cases hj : j > i
  · rw [if_pos hj, if_pos hj]; exact ⟨_, rfl⟩
  · rw [if_neg hj, if_neg hj]; exact ⟨_, rfl⟩
theorem call_min2 (hc : X.calm = true) : CallR X (.builtin "min") (fun xs H Q => ∃ i j, xs = [.int i, .int j] ∧ Q (.int (if j < i then j else i)) H) := by
  intro pins s σ H xs us Q I r h
  obtain ⟨i, j, rfl, q⟩ := h
  obtain ⟨u, w', rfl, ⟨t, rfl⟩, ⟨t', rfl⟩⟩ := vals2 r
  refine min_two_ints (I.ok.hd hc) fun h' tk k => ⟨_, H, I.kept k, ?_, q⟩
  by_cases hj : j < i
  · rw [if_pos hj, if_pos hj]; exact ⟨_, rfl⟩
  · rw [if_neg hj, if_neg hj]; exact ⟨_, rfl⟩
/-- len of a str, a bytes, a list, a tuple -/
def LenV (K : PySem.W.Frag) (x : V) (H : Hp) (n : Nat) : Prop :=
  match x with
  | .str y => y.length ≤ sizeLine ∧ n = y.length
  | .byt y => y.size ≤ sizeLine ∧ n = y.size
  | .ref p => (∃ xs, SqL K H p xs ∧ n = xs.length) ∨ ∃ xs, SqT K H p xs ∧ n = xs.length
  | _ => False
/-- divmod: a new tuple -/
theorem call_divmod : CallR X (.builtin "divmod") (fun xs H Q => ∃ i j, xs = [.int i, .int j] ∧ CDiv i j ∧ ∀ p, H p = none → Q (.ref p) (upd H p (.tup [.int (i / j), .int (i % j)]))) := by
  intro pins s σ H xs us Q I r h
  obtain ⟨i, j, rfl, ⟨h1, h2⟩, q⟩ := h
  obtain ⟨u, w', rfl, ⟨t, rfl⟩, ⟨t', rfl⟩⟩ := vals2 r
  refine divmod_int (by omega) ?_ (.inl (PyProof.noPylong_small (by omega)))
  rw [Int.fdiv_eq_ediv_of_nonneg i (by omega), Int.fmod_eq_emod_of_nonneg i (by omega)]
  have hn : H s.heap.objs.size = none := I.hok.fresh (Nat.le_refl _)
  refine ⟨.ref s.heap.objs.size, _, ?_, rfl, q _ hn⟩
  refine I.laid (fun b o e => Heap.get?_push_of_some _ e) (Nat.le_refl _) ⟨by simp only [List.length_cons, List.length_nil]; rw [sizeLine_eq]; decide, [.int (i / j) s.toks, .int (i % j) (s.toks + 1)], .cons ⟨_, rfl⟩ (.cons ⟨_, rfl⟩ .nil), ?_⟩
  exact ⟨_, Heap.get?_push_size s.heap rfl, rfl, 0, rfl⟩
end
end L2

namespace L2
open PySem PySem.Spec PyProof.Rows

/-! ### an instance, its attributes a map -/
structure ObjM (h : Heap) (x dx C : Addr) (mA : Str → Option Value) : Prop where
  obj : h.get? x = some (PySem.W.instObj C dx)
  ns : h.Ns1 dx mA
  ne : dx ≠ x

theorem lookIn_ns {h : Heap} {dx : Addr} {mA : Str → Option Value} (n : h.Ns1 dx mA) : ∃ od, h.get? dx = some od ∧ ∀ name, PySem.W.lookIn name od = some (mA name) := by
  obtain ⟨o, es, ep, ho, hd, hk, _, hm⟩ := n
  refine ⟨o, ho, fun name => ?_⟩
  have e := hm name
  unfold nsFind findBy at e
  rw [← Array.find?_toList] at e
  unfold PySem.W.lookIn
  rw [hd]
  dsimp only
  split
  · rename_i y q
    rw [q] at e
    exact congrArg some e
  · rename_i q
    rw [q] at e
    have a : es.toList.any (·.refKey) = false := by
      rw [List.any_eq_false]
      intro y hy
      obtain ⟨z, t, hkey⟩ := hk y (Array.mem_toList_iff.mp hy)
      simp [DictEntry.refKey, hkey]
    have a' : ¬ es.toList.any (·.refKey) = true := by rw [a]; exact Bool.false_ne_true
    rw [if_neg a']
    exact congrArg some e

theorem ObjM.look {h : Heap} {x dx C : Addr} {mA : Str → Option Value} (I : ObjM h x dx C mA) : ∃ od, PySem.W.InstAt h x (PySem.W.instObj C dx) C (some od) ∧ ∀ name, PySem.W.lookIn name od = some (mA name) :=
  let ⟨od, ho, hl⟩ := lookIn_ns I.ns
  ⟨od, ⟨I.obj, rfl, rfl, ho⟩, hl⟩

section
variable {prog : Program} {w : World} {A : Around} {E : Value → Shared → Prop} {s : Shared} {K : PySem.W.Frag} {x dx C f : Addr} {mA : Str → Option Value} {name : Str} {v : Value}

end

/-! ### the attributes as a list of pairs -/
def putF (f : Str) (v : V) : List (Str × V) → List (Str × V)
  | [] => [(f, v)]
  | (g, x) :: r => if g = f then (g, v) :: r else (g, x) :: putF f v r
section
variable {P : Program} {w : World} {H H' : Hp} {h h' : Heap} {a C dx : Addr} {fs fs' : List (Str × V)}
theorem ins_get (hok : HOk P w H h) (e : H a = some (.ins C dx fs)) : ∃ mA, ObjM h a dx C mA ∧ (∀ f, RelO (fs.lookup f) (mA f)) ∧ PySem.Within mA (fs.map (·.1)) ∧ fs.length ≤ 1000 ∧ H dx = some (.own a) := by
  obtain ⟨d, z, ne, ob, mA, n, r, q⟩ := (show ObjOk P w H h a (.ins C dx fs) from hok a _ e)
  exact ⟨mA, ⟨ob, n, ne⟩, r, q, z, d⟩
end

/-! ### what of the text a class must have -/
structure Cls (K : PySem.W.Frag) (C : Addr) : Prop where
  pg : PySem.W.plainGet K C Str.empty = true
  hd : PySem.W.hasDictIn K C = true
  po : PySem.W.plainOver K C = true
  sa : PySem.W.findIn K (.ref C) "__setattr__" = some (some (.builtin "object.__setattr__"))
theorem Cls.get {K : PySem.W.Frag} {C : Addr} (c : Cls K C) (f : Str) : PySem.W.plainGet K C f = true := c.pg
/-- no class of it has the name -/
def NoAttr (K : PySem.W.Frag) (C : Addr) (f : Str) : Prop := PySem.W.findIn K (.ref C) f = some none
/-- a constant of the class -/
structure Con (K : PySem.W.Frag) (C : Addr) (f : Str) (v : V) (u : Value) : Prop where
  at_ : PySem.W.findIn K (.ref C) f = some (some u)
  rel : RelV v u
  get : PySem.W.specialIn K u "__get__" = some none
  cp : PySem.W.copiedNames.contains f = false
/-- a method: a plain def of the class or of one above it -/
structure Meth (K : PySem.W.Frag) (C : Addr) (m : Str) (f : Addr) : Prop where
  at_ : PySem.W.findIn K (.ref C) m = some (some (.ref f))
  fn : PySem.W.isFn K (.ref f) = true
  kp : PySem.W.keepIn K (.ref f) = true

section
variable {X : Cx} {pins : List (Addr × Obj)} {σ : St} {H : Hp} {s : Shared} {a C dx : Addr} {fs : List (Str × V)} {f : Str} {v : V} {A : Around} {E : Value → Shared → Prop}

end

/-! ### readings and rules -/
/-- e.f, an attribute of the instance -/
def tFld (K : PySem.W.Frag) (ta : TE) (f : Str) : TE := fun σ H Q => ta σ H fun x H1 => ∃ a C dx fs v, x = .ref a ∧ H1 a = some (.ins C dx fs) ∧ Cls K C ∧ NoAttr K C f ∧ fs.lookup f = some v ∧ Q v H1
/-- e.f, a constant of the class -/
def tCon (K : PySem.W.Frag) (ta : TE) (f : Str) : TE := fun σ H Q => ta σ H fun x H1 => ∃ a C dx fs v u, x = .ref a ∧ H1 a = some (.ins C dx fs) ∧ Cls K C ∧ Con K C f v u ∧ fs.lookup f = none ∧ Q v H1
/-- e.f = value -/
def sFld (K : PySem.W.Frag) (ta tv : TE) (f : Str) : TS := fun D σ H => tv σ H fun y H1 => ta σ H1 fun x H2 => ∃ a C dx fs, x = .ref a ∧ H2 a = some (.ins C dx fs) ∧ Cls K C ∧ NoAttr K C f ∧ fs.length < 1000 ∧
  D.nx σ (upd H2 a (.ins C dx (putF f y fs)))
/-- an augmented operator on two values -/
def InOp (X : Cx) (op : Operator) (rd : V → V → Hp → VK → Prop) : Prop :=
  ∀ (pins : List (Addr × Obj)) (s : Shared) (σ : St) (H : Hp) (x y : V) (u v : Value) (Q : VK), Inv X pins σ H s → RelV x u → RelV y v → rd x y H Q → wpAny (model X.prog X.w) X.A (inplaceOp op u v) (EP X pins σ Q) X.xe s
/-- e.f op= value -/
def sFldAug (K : PySem.W.Frag) (ta tv : TE) (rd : V → V → Hp → VK → Prop) (f : Str) : TS := fun D σ H => ta σ H fun x H1 => ∃ a C dx fs v, x = .ref a ∧ H1 a = some (.ins C dx fs) ∧ Cls K C ∧ NoAttr K C f ∧ fs.lookup f = some v ∧
  tv σ H1 fun y H2 => rd v y H2 fun z H3 => ∃ dx' fs', H3 a = some (.ins C dx' fs') ∧ fs'.length < 1000 ∧ D.nx σ (upd H3 a (.ins C dx' (putF f z fs')))

section
variable {X : Cx} {o e value : Expr} {f : Str} {pos pos' tpos : Pos} {ta tv : TE}
def rAdd : V → V → Hp → VK → Prop := fun x y H Q => ∃ i j, x = .int i ∧ y = .int j ∧ Q (.int (i + j)) H
def rSub : V → V → Hp → VK → Prop := fun x y H Q => ∃ i j, x = .int i ∧ y = .int j ∧ Q (.int (i - j)) H
end

/-! ### isinstance -/
section
variable {X : Cx} {pins : List (Addr × Obj)} {σ : St} {H : Hp} {s : Shared} {A : Around} {E : Value → Shared → Prop} {Q : Value → Shared → Prop} {c : Value} {b : Bool}
/-- the type of a value, as the fragment's deciders take it; for an instance its class -/
inductive TyOf (K : PySem.W.Frag) (H : Hp) : V → Value → Prop where
  | non : TyOf K H .non (.type "NoneType")
  | bl (x : Bool) : TyOf K H (.bl x) (.type "bool")
  | int (i : Int) : TyOf K H (.int i) (.type "int")
  | str (x : Str) : TyOf K H (.str x) (.type "str")
  | flt (x : UInt64) : TyOf K H (.flt x) (.type "float")
  | lst {a : Addr} {xs : List V} (e : H a = some (.lst xs)) : TyOf K H (.ref a) (.type "list")
  | frz {a : Addr} {o : Obj} {xs : List V} (e : H a = some (.frz o (.lst xs))) : TyOf K H (.ref a) (.type "list")
  | tup {a : Addr} {xs : List V} (e : H a = some (.tup xs)) : TyOf K H (.ref a) (.type "tuple")
  | dK {a : Addr} {kvs : List (Key × V)} (e : H a = some (.dK kvs)) : TyOf K H (.ref a) (.type "dict")
  | dT {a : Addr} {kvs : List (List Key × V)} (e : H a = some (.dT kvs)) : TyOf K H (.ref a) (.type "dict")
  | ins {a C dx : Addr} {fs : List (Str × V)} (e : H a = some (.ins C dx fs)) (cl : Cls K C) (ha : PySem.W.findIn K (.ref C) "__class__" = some (some (.builtin "object.__class__")))
      (hn : PySem.W.specialIn K (.builtin "object.__class__") "__get__" = some (some (.builtin "getset_descriptor.__get__"))) (htk : PySem.W.takesIn K (.builtin "object.__class__") = some true)
      (hm : PySem.W.mroIn K C (.type "object") = some true) : TyOf K H (.ref a) (.ref C)
/-- isinstance(x, c) for one class c, a built-in or an own one: kitOne's answer -/
theorem isinst_ok {x : V} {u t : Value} (I : Inv X pins σ H s) (rx : RelV x u) (ty : TyOf X.K H x t) (e : PySem.W.kitOne X.K t c = some b) (h : ∀ tk, Q (.bool b) { s with toks := tk }) :
    wpAny (model X.prog X.w) A (call (.builtin "isinstance") [u, c]) Q E s := by
  cases ty with
  | non => cases (show u = Value.none from rx); exact PySem.W.kia_one PySem.W.kitx_none I.kIn True.intro e (fun z => nomatch z) h
  | bl y => cases (show u = Value.bool y from rx); exact PySem.W.kia_one PySem.W.kitx_bool I.kIn True.intro e (fun z => nomatch z) h
  | int i => obtain ⟨t, q⟩ := (show ∃ t, u = Value.int i t from rx); cases q; exact PySem.W.kia_one PySem.W.kitx_int I.kIn True.intro e (fun z => nomatch z) h
  | str y => obtain ⟨t, q⟩ := (show ∃ t, u = Value.str y t from rx); cases q; exact PySem.W.kia_one PySem.W.kitx_str I.kIn True.intro e (fun z => nomatch z) h
  | flt y => obtain ⟨t, q⟩ := (show ∃ t, u = Value.float y t from rx); cases q; exact PySem.W.kia_one PySem.W.kitx_float I.kIn True.intro e (fun z => nomatch z) h
  | @lst a xs ea =>
    cases (show u = Value.ref a from rx)
    obtain ⟨_, _, n, _, h1⟩ := (show ObjOk X.prog X.w H s.heap a (.lst xs) from I.hok a _ ea)
    exact PySem.W.kia_one PySem.W.kitx_list I.kIn ⟨_, h1, rfl⟩ e (fun z => nomatch z) h
  | @frz a ob xs ea =>
    cases (show u = Value.ref a from rx)
    obtain ⟨_, _, _, n, _, h1⟩ := (show ObjOk X.prog X.w H s.heap a (.frz ob (.lst xs)) from I.hok a _ ea)
    exact PySem.W.kia_one PySem.W.kitx_list I.kIn ⟨_, h1, rfl⟩ e (fun z => nomatch z) h
  | @tup a xs ea =>
    cases (show u = Value.ref a from rx)
    obtain ⟨_, _, _, p⟩ := (show ObjOk X.prog X.w H s.heap a (.tup xs) from I.hok a _ ea)
    obtain ⟨o, h1, h2, _⟩ := p
    exact PySem.W.kia_one PySem.W.kitx_tuple I.kIn ⟨o, h1, h2⟩ e (fun z => nomatch z) h
  | @dK a kvs ea =>
    cases (show u = Value.ref a from rx)
    obtain ⟨_, _, vs, _, p⟩ := (show ObjOk X.prog X.w H s.heap a (.dK kvs) from I.hok a _ ea)
    obtain ⟨o, es, ep, h1, h2, _⟩ := p
    exact PySem.W.kia_one PySem.W.kitx_dict I.kIn ⟨o, h1, h2.1⟩ e (fun z => nomatch z) h
  | @dT a kvs ea =>
    cases (show u = Value.ref a from rx)
    obtain ⟨_, _, xs, _, o, es, ep, h1, h2, _⟩ := (show ObjOk X.prog X.w H s.heap a (.dT kvs) from I.hok a _ ea)
    exact PySem.W.kia_one PySem.W.kitx_dict I.kIn ⟨o, h1, h2.1⟩ e (fun z => nomatch z) h
  | @ins a C dx fs ea cl ha hn htk hm =>
    cases (show u = Value.ref a from rx)
    obtain ⟨mA, O, _⟩ := ins_get I.hok ea
    obtain ⟨od, J, _⟩ := O.look
    exact PySem.W.kia_one (PySem.W.kitx_own (cl.get _) cl.hd ha hn htk hm) I.kIn J e (fun z => nomatch z) h
end
end L2

namespace L2
open PySem PySem.Spec PyProof.Rows

/-! ### room -/
structure Room (k : Nat) (A : Around) : Prop where
  hd : A.handled = none
  dp : A.depth + 3 * k + 5 < recursionLimit
  un : A.units + 16 * k + 200 < cLine
theorem Room.mono {j k : Nat} {A : Around} (r : Room k A) (h : j ≤ k) : Room j A := ⟨r.hd, by have := r.dp; omega, by have := r.un; omega⟩
theorem Room.deeper {k : Nat} {A : Around} (r : Room (k + 1) A) (env : Env) : Room k (A.deeper env) :=
  ⟨r.hd, by have := r.dp; show A.depth + 1 + 3 * k + 5 < _; omega, by have := r.un; show A.units + 3 + 16 * k + 200 < _; omega⟩
theorem Room.depth {k : Nat} {A : Around} (r : Room k A) : A.depth < recursionLimit := by have := r.dp; omega
/-! ### argument lists and displays -/
def tNil : TA := fun _ H Q => Q [] H
def tCons (ta : TE) (tr : TA) : TA := fun σ H Q => ta σ H fun x H1 => tr σ H1 fun xs H2 => Q (x :: xs) H2
section
variable {X : Cx} {e : Expr} {es : List Expr} {te : TE} {t : TA} {pos : Pos}
theorem pa_nil : PA X [] tNil := fun _ _ _ _ H Q I h => Calls.spliced_nil ⟨[], H, I, .nil, h⟩
theorem pa_cons (ha : PE X e te) (hr : PA X es t) (hs : starEach (e :: es) X.env = (false, eval e X.env) :: starEach es X.env := by rfl) : PA X (e :: es) (tCons te t) := by
  intro pos pins s σ H Q I h
  rw [hs]
  show wpAny _ _ (spliced ((false, eval e X.env) :: backTo pos (starEach es X.env))) _ _ s
  refine Calls.spliced_cons (thn (ha pins s σ H _ I h) fun u s1 ⟨x, H1, I1, r1, q1⟩ => ?_)
  exact thn (hr pos pins s1 σ H1 _ I1 q1) fun us s2 ⟨xs, H2, I2, r2, q2⟩ => ⟨x :: xs, H2, I2, .cons r1 r2, q2⟩

/-- a tuple, a list of written items -/
def tTup (t : TA) : TE := fun σ H Q => t σ H fun xs H1 => xs.length ≤ sizeLine ∧ ∀ p, H1 p = none → Q (.ref p) (upd H1 p (.tup xs))
def tLst (t : TA) : TE := fun σ H Q => t σ H fun xs H1 => xs.length ≤ sizeLine ∧ ∀ p, H1 p = none → Q (.ref p) (upd H1 p (.lst xs))
theorem pe_tup {x1} (h : PA X es t) : PE X (.Tuple es x1 pos) (tTup t) := by
  intro pins s σ H Q I hq
  refine wpAny_Tuple_spliced (thn (h pos pins s σ H _ I hq) fun us s1 ⟨xs, H1, I1, r, z, q⟩ => ⟨by rw [← r.length]; exact z, ?_⟩)
  have hf : H1 s1.heap.objs.size = none := I1.hok.fresh (Nat.le_refl _)
  refine ⟨.ref s1.heap.objs.size, upd H1 s1.heap.objs.size (.tup xs), I1.laid (t' := s1.toks) (fun b u e => Heap.get?_push_of_some _ e) (Nat.le_refl _) ?_, rfl, q _ hf⟩
  exact ⟨z, us, r, ⟨_, Heap.get?_push_size _ rfl, rfl, _, rfl⟩⟩
theorem pe_lst (h : PA X es t) : PE X (.List es pos) (tLst t) := by
  intro pins s σ H Q I hq
  refine wpAny_List_spliced (thn (h pos pins s σ H _ I hq) fun us s1 ⟨xs, H1, I1, r, z, q⟩ => ⟨by rw [← r.length]; exact z, ?_⟩)
  have hf : H1 s1.heap.objs.size = none := I1.hok.fresh (Nat.le_refl _)
  refine ⟨.ref s1.heap.objs.size, upd H1 s1.heap.objs.size (.lst xs), I1.laid (t' := s1.toks) (fun b u e => Heap.get?_push_of_some _ e) (Nat.le_refl _) ?_, rfl, q _ hf⟩
  exact ⟨z, us, 0, r, Heap.get?_push_size _ rfl⟩
end

/-! ### what a def promises -/
/-- a def's promise: the bound arguments in the parameters' order, the heap, the wanted end, the wanted exception -/
abbrev Sp := List V → Hp → VK → XK → Prop
/-- how an exception lies behind a call (file 08 gives it): the callers' frames, abstract heap and state ahead of the call, the wish, the exception, the state -/
abbrev CXT := List Env → Hp → Shared → XK → Value → Shared → Prop

/-- the state at a call -/
structure Env0 (P : Program) (w : World) (K : PySem.W.Frag) (mg : Str → Option Value) (base : Heap) (A : Around) (outer : List Env) (s : Shared) (H : Hp) : Prop where
  frames : A.frames = some outer
  mod : Mod K mg base
  bs : ∀ b o, base.get? b = some o → s.heap.get? b = some o ∧ H b = none
  bsz : base.objs.size ≤ s.heap.objs.size
  funs : s.heap.FunFrames base outer
  frf : ∀ b ∈ frs outer, H b = none
  hok : HOk P w H s.heap
  bare : AllBare s.gens
/-- a call's end -/
def CE (outer : List Env) (P : Program) (w : World) (H : Hp) (s : Shared) (Q : VK) (u : Value) (s' : Shared) : Prop :=
  ∃ v H', s'.os = s.os ∧ AllBare s'.gens ∧ Un (frs outer) [] H H' s.heap s'.heap ∧ HOk P w H' s'.heap ∧ RelV v u ∧ Q v H'
def CR (CX : CXT) (outer : List Env) (P : Program) (w : World) (H : Hp) (s : Shared) (Q : VK) (E : XK) (r : Result) (s' : Shared) : Prop :=
  match r with
  | .ok (.ret u) => CE outer P w H s Q u s'
  | .ok _ => False
  | .error e => CX outer H s E e s'
structure FnOk (P : Program) (w : World) (K : PySem.W.Frag) (mg : Str → Option Value) (base : Heap) (CX : CXT) (k : Nat) (f : Addr) (fd : FuncData) (ps : List Str) (sp : Sp) : Prop where
  len : ∀ vs H Q E, sp vs H Q E → vs.length = ps.length
  run : ∀ (A : Around) (outer : List Env) (s : Shared) (H : Hp) (args : Args) (us : List Value) (vs : List V) (Q : VK) (E : XK), Room k A → Env0 P w K mg base A outer s H → BindsTo s fd args (ps.zip us) → Vals vs us → sp vs H Q E →
    codeAny (model P w) A (.call (.ref f) args) (CR CX outer P w H s Q E) s
theorem FnOk.mono {P : Program} {w : World} {K : PySem.W.Frag} {mg : Str → Option Value} {base : Heap} {CX : CXT} {j k : Nat} {f : Addr} {fd : FuncData} {ps : List Str} {sp : Sp} (F : FnOk P w K mg base CX j f fd ps sp) (h : j ≤ k) :
    FnOk P w K mg base CX k f fd ps sp := ⟨F.len, fun A outer s H args us vs Q E hr => F.run A outer s H args us vs Q E (hr.mono h)⟩
section
variable {X : Cx} {pins : List (Addr × Obj)} {σ : St} {H : Hp} {s s' : Shared}
/-- from a body: what a callee wants -/
theorem Inv.env0 (I : Inv X pins σ H s) : Env0 X.prog X.w X.K X.mg X.base X.A X.stack s H :=
  ⟨I.ok.frames, I.ok.mod, I.bs, Nat.le_trans I.ok.bsz I.sz, I.stack, I.stkFree, I.hok, I.bare⟩
/-- behind a call -/
theorem Inv.after {Q : VK} {u : Value} (I : Inv X pins σ H s) (h : CE X.stack X.prog X.w H s Q u s') : EP X pins σ Q u s' := by
  obtain ⟨v, H', os, bare, un, hok, r, q⟩ := h
  obtain ⟨hh, g, d, t, os'⟩ := s'
  obtain rfl : os' = s.os := os
  exact ⟨v, H', I.call (h' := hh) (g' := g) (d' := d) (t' := t) (ch := []) un hok bare (fun b z => absurd z (by simp)), r, q⟩
end

/-! ### calls -/
/-- f(..): the written arguments, then the defaults dvs; E: what is wanted of an exception -/
def tCall (sp : Sp) (dvs : List V) (E : XK) (t : TA) : TE := fun σ H Q => t σ H fun vs H1 => sp (vs ++ dvs) H1 Q E
/-- o.m(..) of an instance of the class at C -/
def tMeth (C : Addr) (m : Str) (sp : Sp) (dvs : List V) (E : XK) (ta : TE) (t : TA) : TE := fun σ H Q => ta σ H fun x H1 => ∃ a dx fs, x = .ref a ∧ H1 a = some (.ins C dx fs) ∧ fs.lookup m = none ∧
  t σ H1 fun vs H2 => sp (x :: (vs ++ dvs)) H2 Q E
/-- C(..): a new instance and its dict, then __init__ -/
def tMake (C : Addr) (sp : Sp) (dvs : List V) (E : XK) (t : TA) : TE := fun σ H Q => t σ H fun vs H1 => ∀ x dx, H1 x = none → H1 dx = none → dx ≠ x →
  sp (.ref x :: (vs ++ dvs)) (upd (upd H1 dx (.own x)) x (.ins C dx [])) (fun v H2 => v = .non ∧ Q (.ref x) H2) E

/-- how the parameters are bound: us the positional arguments, kw the keywords' values by name, ds the defaults that fill up -/
def Binds (K : PySem.W.Frag) (fd : FuncData) (ps : List Str) (ds : List Value) : Prop :=
  ∀ (s : Shared) (us : List Value), K.In s.heap → (us ++ ds).length = ps.length → BindsTo s fd ⟨us, []⟩ (ps.zip (us ++ ds))
/-- every parameter is given -/
theorem Binds.all {K : PySem.W.Frag} {fd : FuncData} {ps : List Str} (h : ∀ us : List Value, us.length = ps.length → bindArgs fd ⟨us, []⟩ = pure (ps.zip us)) : Binds K fd ps [] := fun s us _ hl => by
  rw [List.append_nil] at hl ⊢
  exact .of_eq (h us hl)

/-- an exception of a callee reaches what this body wants of exceptions -/
def Passes (CX : CXT) (X : Cx) (E : XK) : Prop := ∀ (pins : List (Addr × Obj)) (σ : St) (H : Hp) (s : Shared) (e : Value) (s' : Shared), Inv X pins σ H s → CX X.stack H s E e s' → X.xe e s'

section
variable {X : Cx} {CX : CXT} {k : Nat} {f C : Addr} {fd : FuncData} {ps : List Str} {sp : Sp} {dvs : List V} {ds : List Value} {E : XK} {x m : Str} {p pos apos : Pos} {e o : Expr} {es : List Expr} {ta : TE} {t : TA}

/-- the callee runs -/
theorem run_fn {pins : List (Addr × Obj)} {σ : St} {H : Hp} {s : Shared} {Q : VK} {us : List Value} {vs : List V} (F : FnOk X.prog X.w X.K X.mg X.base CX k f fd ps sp) (hr : Room k X.A) (hb : Binds X.K fd ps ds) (hd : Vals dvs ds) (hx : Passes CX X E)
    (I : Inv X pins σ H s) (r : Vals vs us) (h : sp (vs ++ dvs) H Q E) : wpAny (model X.prog X.w) X.A (call (.ref f) us) (EP X pins σ Q) X.xe s := by
  have r2 : Vals (vs ++ dvs) (us ++ ds) := r.append hd
  have hl : (us ++ ds).length = ps.length := by rw [← r2.length]; exact F.len _ _ _ _ h
  refine wpAny_call (codeAny_mono (F.run X.A X.stack s H ⟨us, []⟩ (us ++ ds) (vs ++ dvs) Q E hr I.env0 (hb s us I.kIn hl) r2 h) fun r s' hq => ?_)
  cases r with
  | error e => exact hx pins σ H s e s' I hq
  | ok fl =>
    cases fl with
    | ret u => exact I.after hq
    | next => exact False.elim hq
    | brk => exact False.elim hq
    | cont => exact False.elim hq

theorem pe_call (F : FnOk X.prog X.w X.K X.mg X.base CX k f fd ps sp) (hr : Room k X.A) (hg : Gl X x) (hm : X.mg x = some (.ref f)) (hk : PySem.W.keepIn X.K (.ref f) = true) (hb : Binds X.K fd ps ds) (hd : Vals dvs ds) (hx : Passes CX X E)
    (ha : PA X (e :: es) t) (hdb : (x == ("__debug__" : Str)) = false := by decide) (he : starEach (e :: es) X.env = (false, eval e X.env) :: starEach es X.env := by rfl) (hpl : (backTo pos (starEach es X.env)).any (·.1) = false := by rfl) :
    PE X (.Call (.Name x p) (e :: es) [] pos) (tCall sp dvs E t) := by
  intro pins s σ H Q I h
  refine wpAny_Call_Name_kw (ld_glob I hg hm ?_ hdb)
  refine PySem.W.callWith_K (h₀ := X.base) I.ok.mod.kin hk (thn (ha pos pins s σ H _ I h) fun us s1 ⟨vs, H1, I1, r, q⟩ => ⟨I1.kIn, ?_⟩) he hpl
  exact run_fn F hr hb hd hx I1 r q
/-- what a class must have to be made -/
structure Mk (K : PySem.W.Frag) (C f : Addr) : Prop where
  makes : PySem.W.makesIn K C = true
  init : PySem.W.findIn K (.ref C) "__init__" = some (some (.ref f))
  fn : PySem.W.isFn K (.ref f) = true
  kp : PySem.W.keepIn K (.ref C) = true

end

/-! ### keywords -/
/-- the values of the keywords, from the left -/
def PK (X : Cx) (kws : List Keyword) (t : TA) : Prop :=
  ∀ (pos : Pos) (pins : List (Addr × Obj)) (s : Shared) (σ : St) (H : Hp) (Q : List V → Hp → Prop), Inv X pins σ H s → t σ H Q → wpAny (model X.prog X.w) X.A (evalAll ((backToKw pos (keywordEach kws X.env)).map (·.2))) (AP X pins σ Q) X.xe s
section
variable {X : Cx} {CX : CXT} {k : Nat} {f C : Addr} {fd : FuncData} {ps ks : List Str} {sp : Sp} {E : XK} {x m : Str} {p pos apos kpos : Pos} {e o : Expr} {es : List Expr} {kws : List Keyword} {te ta : TE} {t tk : TA} {nm : Option Str}
/-- how a call with keywords binds: g puts the positional values us and the keywords' values ws (names ks) in the parameters' order, defaults among them -/
structure KBinds (K : PySem.W.Frag) (fd : FuncData) (ps ks : List Str) (g : List Value → List Value → List Value) (gV : List V → List V → List V) : Prop where
  to : ∀ (s : Shared) (us ws : List Value), K.In s.heap → (g us ws).length = ps.length → BindsTo s fd ⟨us, ks.zip ws⟩ (ps.zip (g us ws))
  rel : ∀ {vs : List V} {us : List Value} {zs : List V} {ws : List Value}, Vals vs us → Vals zs ws → Vals (gV vs zs) (g us ws)
def tCallK (sp : Sp) (gV : List V → List V → List V) (E : XK) (t tk : TA) : TE := fun σ H Q => t σ H fun vs H1 => tk σ H1 fun zs H2 => sp (gV vs zs) H2 Q E
variable {g : List Value → List Value → List Value} {gV : List V → List V → List V}
end

/-! ### a def's body keeps its promise -/
/-- names: the parameters first -/
structure FnScope (N P : List Str) (sc : Scope) : Prop where
  kind : sc.kind = .function
  co : sc.isCoroutine = false
  gen : sc.isGenerator = false
  nd : N.Nodup
  pre : N.take P.length = P
  par : ∀ x ∈ P, sc.names.lookup x = some .local ∨ sc.names.lookup x = some .cell
  nofree : ∀ y ∈ sc.names, y.2 ≠ .free

theorem bindL_out {kindOf : Str → Option NameKind} {x : Str} : ∀ {binds : List (Str × Value)} {m : Str → Option Value}, (∀ v, (x, v) ∉ binds) → bindL kindOf binds m x = m x
  | [], _, _ => rfl
  | (n, v) :: r, m, h => by
    unfold bindL
    rw [bindL_out fun w hw => h w (List.mem_cons_of_mem _ hw)]
    split
    · have : x ≠ n := by rintro rfl; exact h v List.mem_cons_self
      simp [this]
    · rfl
theorem bindC_out {kindOf : Str → Option NameKind} {x : Str} : ∀ {binds : List (Str × Value)} {m : Str → Option Value}, (∀ v, (x, v) ∉ binds) → bindC kindOf binds m x = m x
  | [], _, _ => rfl
  | (n, v) :: r, m, h => by
    unfold bindC
    rw [bindC_out fun w hw => h w (List.mem_cons_of_mem _ hw)]
    split
    · rfl
    · have : x ≠ n := by rintro rfl; exact h v List.mem_cons_self
      simp [this]
theorem bindL_get {kindOf : Str → Option NameKind} {x : Str} {v : Value} : ∀ {P : List Str} {vs : List Value} {i : Nat} {m : Str → Option Value}, P.Nodup → P[i]? = some x → vs[i]? = some v → kindOf x = some .local →
    bindL kindOf (P.zip vs) m x = some v
  | [], _, _, _, _, h, _, _ => by simp at h
  | _ :: _, [], _, _, _, _, h, _ => by simp at h
  | p :: P, w :: vs, 0, m, nd, h1, h2, hk => by
    simp at h1 h2; subst h1; subst h2
    show bindL kindOf ((p, w) :: P.zip vs) m p = _
    unfold bindL
    rw [bindL_out fun v hv => (List.nodup_cons.mp nd).1 (List.of_mem_zip hv).1, if_pos hk]
    simp
  | p :: P, w :: vs, i + 1, m, nd, h1, h2, hk => by
    show bindL kindOf ((p, w) :: P.zip vs) m x = _
    unfold bindL
    exact bindL_get (i := i) (List.nodup_cons.mp nd).2 (by simpa using h1) (by simpa using h2) hk
theorem bindC_get {kindOf : Str → Option NameKind} {x : Str} {v : Value} : ∀ {P : List Str} {vs : List Value} {i : Nat} {m : Str → Option Value}, P.Nodup → P[i]? = some x → vs[i]? = some v → kindOf x ≠ some .local →
    bindC kindOf (P.zip vs) m x = some v
  | [], _, _, _, _, h, _, _ => by simp at h
  | _ :: _, [], _, _, _, _, h, _ => by simp at h
  | p :: P, w :: vs, 0, m, nd, h1, h2, hk => by
    simp at h1 h2; subst h1; subst h2
    show bindC kindOf ((p, w) :: P.zip vs) m p = _
    unfold bindC
    rw [bindC_out fun v hv => (List.nodup_cons.mp nd).1 (List.of_mem_zip hv).1, if_neg hk]
    simp
  | p :: P, w :: vs, i + 1, m, nd, h1, h2, hk => by
    show bindC kindOf ((p, w) :: P.zip vs) m x = _
    unfold bindC
    exact bindC_get (i := i) (List.nodup_cons.mp nd).2 (by simpa using h1) (by simpa using h2) hk

/-- the names' values at the entry -/
def start (N : List Str) (vs : List V) : St := vs.map some ++ List.replicate (N.length - vs.length) none

/-- the context of a def's body, at its entry; an exception leaves the frame, then lies as CX says -/
def cxOf (CX : CXT) (P : Program) (w : World) (K : PySem.W.Frag) (mg : Str → Option Value) (base : Heap) (N : List Str) (qual : Str) (scope : Scope) (f : Addr) (cd : Value) (A : Around) (outer : List Env) (s : Shared) (H : Hp) (E : XK) : Cx where
  prog := P
  w := w
  K := K
  mg := mg
  base := base
  A := A.deeper (envOfC qual scope s.heap.objs.size f cd)
  N := N
  s₀ := s
  H₀ := H
  env := envOfC qual scope s.heap.objs.size f cd
  outer := outer
  stack := envOfC qual scope s.heap.objs.size f cd :: outer
  ex := []
  calm := true
  fn := fun _ => true
  pn := []
  xe := fun e s' => wpAny (model P w) (A.deeper (envOfC qual scope s.heap.objs.size f cd)) (leaving (envOfC qual scope s.heap.objs.size f cd) e) (fun _ s'' => CX outer H s E e s'') (fun e' s'' => CX outer H s E e' s'') s'

theorem cell_has {sc : Scope} {n : Nat} {x : Str} (h : sc.names.lookup x = some .cell) : ∃ c, (cellsFrom n sc.names []).lookup x = some c := by
  have q := PySem.W.cellsFrom_some sc.names n [] (.inl h)
  exact Option.isSome_iff_exists.mp q

theorem inv_start {CX : CXT} {P : Program} {w : World} {K : PySem.W.Frag} {mg : Str → Option Value} {base : Heap} {N ps : List Str} {qual : Str} {scope : Scope} {f : Addr} {cd : Value} {A : Around} {outer : List Env} {s s1 : Shared} {H : Hp} {E : XK} {us : List Value} {vs : List V}
    (S : FnScope N ps scope) (hd : A.handled = none) (e0 : Env0 P w K mg base A outer s H) (hl : vs.length = ps.length) (r : Vals vs us)
    (x : InCallC s s.heap.objs.size (bindL (envOfC qual scope s.heap.objs.size f cd).kindOf (ps.zip us) fun _ => none) (cellsFrom (s.heap.objs.size + 1) scope.names []) (bindC (envOfC qual scope s.heap.objs.size f cd).kindOf (ps.zip us) fun _ => none) s1) :
    Inv (cxOf CX P w K mg base N qual scope f cd A outer s H E) [] (start N vs) H s1 := by
  have hpl : ps.length ≤ N.length := by have := congrArg List.length S.pre; rw [List.length_take] at this; omega
  obtain ⟨h1, tk, rfl, hk⟩ := x.done
  have noA : ∀ b : Addr, b ∉ (cxOf CX P w K mg base N qual scope f cd A outer s H E).ex := fun b z => absurd (show b ∈ ([] : List Addr) from z) (by simp)
  refine ⟨⟨e0.mod, S.kind, rfl, rfl, Nat.le_refl _, fun y z c h1 h2 => ?_, fun y hy => ?_, fun y c _ h => ?_, fun _ => hd, Around.frames_deeper e0.frames, .inr ⟨rfl, rfl⟩, fun b z => absurd z (noA b), e0.bs, e0.bsz, fun b _ _ => noA b, fun b z => absurd z (noA b), e0.funs, e0.frf⟩,
    rfl, e0.bare, Un.kept hk, ⟨_, x.toInCall.ns, fun i y v h1 h2 h3 => ?_⟩, fun y c h => ⟨_, x.cell y c h⟩, e0.hok.fresh (Nat.le_refl _), fun y c h => ?_, fun p hp => absurd (show p ∈ ([] : List (Addr × Obj)) from hp) (by simp), e0.hok.kept hk, ?_⟩
  · exact name_of_addr x.apart (PySem.mem_of_lookup h1) (PySem.mem_of_lookup h2)
  · have hy : scope.names.lookup y = some .cell ∨ scope.names.lookup y = some .free := hy
    rcases hy with hy | hy
    · exact cell_has hy
    · exact absurd rfl (S.nofree _ (PySem.mem_of_lookup hy))
  · exact Nat.le_of_lt (x.above y c (PySem.mem_of_lookup h))
  · have hi : i < vs.length := by
      unfold start at h2
      by_cases hi : i < vs.length
      · exact hi
      · rw [List.getElem?_append_right (by simpa using hi)] at h2
        rw [List.getElem?_replicate] at h2
        split at h2 <;> cases h2
    have ha : vs[i]? = some v := by
      unfold start at h2
      rw [List.getElem?_append_left (by simpa using hi), List.getElem?_map] at h2
      cases e : vs[i]? with
      | none => rw [e] at h2; cases h2
      | some a => rw [e] at h2; cases h2; rfl
    obtain ⟨u, hu, rv⟩ := r.get ha
    have hp : ps[i]? = some y := by
      rw [← S.pre, List.getElem?_take_of_lt (by omega)]; exact h1
    have ndP : ps.Nodup := by rw [← S.pre]; exact S.nd.sublist (List.take_sublist _ _)
    refine ⟨u, rv, ?_⟩
    rcases S.par y (List.mem_of_getElem? hp) with k | k
    · exact .inl ⟨k, bindL_get ndP hp hu k⟩
    · obtain ⟨c, e⟩ := cell_has (n := s.heap.objs.size + 1) k
      refine .inr ⟨.inl k, c, e, ?_⟩
      have q := x.cell y c e
      rw [bindC_get ndP hp hu (by show scope.names.lookup y ≠ _; rw [k]; decide)] at q
      exact q
  · exact e0.hok.fresh (Nat.le_of_lt (x.above y c (PySem.mem_of_lookup h)))
  · unfold start
    show _ = N.length
    rw [List.length_append, List.length_map, List.length_replicate]
    omega

/-- THE RULE: a def (or a method) of the text, by its body. The body's reading t is chosen for each entry; it is run at the parameters' values -/
theorem fn_of {CX : CXT} {P : Program} {w : World} {K : PySem.W.Frag} {mg : Str → Option Value} {base : Heap} {k : Nat} {f : Addr} {name qual : Str} {params : Arguments} {body : List Stmt} {scope : Scope} {dV kV doc pm cdv ct oc : Value} {an od : Option Addr}
    {osl : Array (Option Value)} {N ps : List Str} {sp : Sp} (lk : K.lookup f = some ⟨oc, od, .func (PySem.W.fnOf name qual params body scope dV kV doc pm an cdv ct), osl⟩) (hcd : PySem.W.codeIn K cdv qual = true) (S : FnScope N ps scope)
    (len : ∀ vs H Q E, sp vs H Q E → vs.length = ps.length)
    (hbody : ∀ (A : Around) (outer : List Env) (s : Shared) (H : Hp) (vs : List V) (Q : VK) (E : XK), Room k (A.deeper (envOfC qual scope s.heap.objs.size f cdv)) → sp vs H Q E →
      ∃ t, PSs (cxOf CX P w K mg base N qual scope f cdv A outer s H E) body t ∧ t { nx := fun _ H' => Q .non H', rt := Q } (start N vs) H) :
    FnOk P w K mg base CX (k + 1) f (PySem.W.fnOf name qual params body scope dV kV doc pm an cdv ct) ps sp := by
  refine ⟨len, fun A outer s H args us vs Q E hr e0 hb r hsp => ?_⟩
  have hl := len _ _ _ _ hsp
  have KX : K.In s.heap := e0.mod.kin.keeps fun b o e => (e0.bs b o e).1
  have lim : s.heap.NoLimit := e0.mod.nolimit.keeps fun b o e => (e0.bs b o e).1
  have hkind : ∀ y ∈ ps.zip us, scope.names.lookup y.1 = some .local ∨ (scope.names.lookup y.1 = some .cell ∧ ((cellsFrom (s.heap.objs.size + 1) scope.names []).lookup y.1).isSome = true) := fun ⟨n, v⟩ hy => by
    rcases S.par n (List.of_mem_zip hy).1 with q | q
    · exact .inl q
    · exact .inr ⟨q, PySem.W.cellsFrom_some _ _ _ (.inl q)⟩
  refine codeAny_call_function hr.depth (KX _ _ lk) rfl S.co S.gen rfl (PySem.W.codeRec_of KX hcd) (hb _ _ _ _ ?_)
  refine wpAny_newFunctionEnv_cells S.kind hkind fun env he s1 x => ?_
  subst he
  refine ⟨lim.keeps x.toInCall.keep, codeAny_func ?_⟩
  obtain ⟨t, ht, hq⟩ := hbody A outer s H vs Q E (hr.deeper _) hsp
  have I : Inv (cxOf CX P w K mg base N qual scope f cdv A outer s H E) [] (start N vs) H s1 := inv_start S hr.hd e0 hl r x
  refine wpAny_mono (ht [] s1 (start N vs) H _ I hq) (fun fl s' hs => ?_) fun e s' hs => hs
  have fin : ∀ {σ' : St} {H' : Hp} {v : V} {u : Value}, Inv (cxOf CX P w K mg base N qual scope f cdv A outer s H E) [] σ' H' s' → RelV v u → Q v H' → CE outer P w H s Q u s' :=
    fun {σ' H' v u} J rv q => ⟨v, H', J.os, J.bare, J.base, J.hok, rv, q⟩
  cases fl with
  | ret u =>
    obtain ⟨v, σ', H', J, rv, q⟩ := hs
    exact fin J rv q
  | next =>
    obtain ⟨σ', H', J, q⟩ := hs
    exact fin (v := V.non) (u := Value.none) J rfl q
  | brk =>
    obtain ⟨_, _, _, q⟩ := hs
    exact False.elim q
  | cont =>
    obtain ⟨_, _, _, q⟩ := hs
    exact False.elim q
end L2

namespace L2
open PySem PySem.Spec PyProof.Rows
section
variable {X : Cx} {x : Str} {p pos : Pos} {e : Expr} {es : List Expr} {t : TA} {id T : String} {r : List V → Hp → VK → Prop}

def tCB (r : List V → Hp → VK → Prop) (t : TA) : TE := fun σ H Q => t σ H fun vs H1 => r vs H1 Q
/-- f(e, ..), f a built-in function -/
theorem pe_callB (hc : CallR X (.builtin id) r) (hg : Gl X x) (hm : X.mg x = none) (hv : bootBuiltins x = some (.builtin id)) (ha : PA X (e :: es) t) (hn : x ≠ "__name__" := by decide) (hdb : (x == ("__debug__" : Str)) = false := by decide)
    (he : starEach (e :: es) X.env = (false, eval e X.env) :: starEach es X.env := by rfl) (hpl : (backTo pos (starEach es X.env)).any (·.1) = false := by rfl) : PE X (.Call (.Name x p) (e :: es) [] pos) (tCB r t) := by
  intro pins s σ H Q I h
  refine wpAny_Call_Name_kw (ld_blt I hg hm hv ?_ hn hdb)
  exact PyProof.Rows.callWith_builtin1 (thn (ha pos pins s σ H _ I h) fun us s1 ⟨vs, H1, I1, r1, q1⟩ => hc pins s1 σ H1 vs us Q I1 r1 q1) he hpl
/-- T(e, ..), T a built-in type -/
theorem pe_callTy (hc : CallR X (.type T) r) (hg : Gl X x) (hm : X.mg x = none) (hv : bootBuiltins x = some (.type T)) (ha : PA X (e :: es) t) (hn : x ≠ "__name__" := by decide) (hdb : (x == ("__debug__" : Str)) = false := by decide)
    (he : starEach (e :: es) X.env = (false, eval e X.env) :: starEach es X.env := by rfl) (hpl : (backTo pos (starEach es X.env)).any (·.1) = false := by rfl) : PE X (.Call (.Name x p) (e :: es) [] pos) (tCB r t) := by
  intro pins s σ H Q I h
  refine wpAny_Call_Name_kw (ld_blt I hg hm hv ?_ hn hdb)
  exact PyProof.Rows.callWith_type1 (thn (ha pos pins s σ H _ I h) fun us s1 ⟨vs, H1, I1, r1, q1⟩ => hc pins s1 σ H1 vs us Q I1 r1 q1) he hpl
end
end L2

namespace HT
open PySem PyProof.Rows

/-- t < u of tuples of ints -/
def lexLt : List Int → List Int → Bool
  | [], [] => false
  | [], _ :: _ => true
  | _ :: _, [] => false
  | x :: xs, y :: ys => if x = y then lexLt xs ys else decide (x < y)
section
open PySem.SeqAt
open PySem.AutoSeq1 (wpAny_loadPart')
open PySem.MeetsSeq PySem.MeetsSeq2 PySem.MeetsSeq3

end

section
variable {prog : Program} {w : World} {A : Around} {E : Value → Shared → Prop} {s : Shared}

/-- t + u, t not empty -/
theorem cat_tup {t b : Addr} {vs ws : List Value} {Q : Value → Shared → Prop} (ht : IsTup s.heap t vs.toArray) (hb : IsTup s.heap b ws.toArray) (hv : vs ≠ [])
    (h1 : ws = [] → Q (.ref t) s) (h2 : ws ≠ [] → Q (.ref s.heap.objs.size) { s with heap := s.heap.push { cls := .type "tuple", data := .seq (vs ++ ws).toArray } })
    (hsz : vs.length + ws.length ≤ sizeLine) : wpAny (model prog w) A (binaryOp .Add (.ref t) (.ref b)) Q E s := by
  obtain ⟨⟨cls, dd, data, sl⟩, ho, hc, n, hd⟩ := id ht
  obtain ⟨⟨cls2, dd2, data2, sl2⟩, ho2, hc2, n2, hd2⟩ := id hb
  simp only at hc hd hc2 hd2
  subst hc hd hc2 hd2
  have e : vs.toArray ++ ws.toArray = (vs ++ ws).toArray := by simp
  by_cases hw : ws = []
  · exact concat_meets ⟨_, ho, rfl⟩ ⟨_, ho2, rfl⟩ noFill_tuple_add seq_tuple_add PySem.F.slot_tuple_add PySem.F.entry_tuple_add (PySem.F.args_tuple_add_2 _ _)
      (tuple_addW1 t b vs.toArray ws.toArray n n2 dd dd2 sl sl2 (by simpa using hv) (by simp [hw])) ⟨ho, ho2, h1 hw⟩
  · refine concat_meets ⟨_, ho, rfl⟩ ⟨_, ho2, rfl⟩ noFill_tuple_add seq_tuple_add PySem.F.slot_tuple_add PySem.F.entry_tuple_add (PySem.F.args_tuple_add_2 _ _)
      (tuple_addW2 t b vs.toArray ws.toArray n n2 dd dd2 sl sl2 (by simpa using hv) (by simpa using hw) (by rw [List.size_toArray, List.size_toArray]; exact hsz)) ⟨ho, ho2, ?_⟩
    rw [e]
    exact h2 hw

/-! ### t[a:b], not the whole -/
/-- a slice's bound as a place among n (d where it is left out) -/
def sIx (n d : Nat) : Option Int → Nat
  | none => d
  | some v => if v < 0 then (v + (n : Int)).toNat else min v.toNat n
theorem sIx_none (n d : Nat) : sIx n d none = d := rfl
theorem sIx_nat (n d k : Nat) : sIx n d (some (k : Int)) = min k n := by
  show (if (k : Int) < 0 then ((k : Int) + (n : Int)).toNat else min (k : Int).toNat n) = min k n
  rw [if_neg (by omega), Int.toNat_natCast]
theorem sIx_le (n d : Nat) (hd : d ≤ n) (o : Option Int) : sIx n d o ≤ n := by
  cases o with
  | none => exact hd
  | some v =>
    show (if v < 0 then (v + (n : Int)).toNat else min v.toNat n) ≤ n
    by_cases hv : v < 0
    · rw [if_pos hv]; omega
    · rw [if_neg hv]; exact Nat.min_le_right _ _
theorem clip_eq (v : Int) (n d : Nat) : (if v < 0 then max (v + (n : Int)) 0 else min v (n : Int)) = ((sIx n d (some v) : Nat) : Int) := by
  show (if v < 0 then max (v + (n : Int)) 0 else min v (n : Int)) = (((if v < 0 then (v + (n : Int)).toNat else min v.toNat n) : Nat) : Int)
  by_cases hv : v < 0
  · simp only [if_pos hv]; omega
  · simp only [if_neg hv]; omega
theorem adjust_gen (lo hi : Option Int) (n : Nat) : Builtin.Slice.sliceAdjust lo hi 1 (n : Int) = (((sIx n 0 lo : Nat) : Int), ((sIx n n hi : Nat) : Int)) := by
  have h1 : ¬ ((1 : Int) < 0) := by omega
  unfold Builtin.Slice.sliceAdjust
  simp only [h1, if_false]
  refine Prod.ext ?_ ?_
  · cases lo with
    | none => rfl
    | some v => exact clip_eq v n 0
  · cases hi with
    | none => rfl
    | some v => exact clip_eq v n n
theorem places_gen (i j : Nat) : Builtin.Slice.slicePlaces (i : Int) (j : Int) 1 = j - i := by
  unfold Builtin.Slice.slicePlaces
  have h1 : (1 : Int) > 0 := by omega
  simp only [h1, if_true, Int.ediv_one]
  split <;> omega
theorem slicePart_ {v : Value} {o : Option Int} {Q : Option Int → Shared → Prop} (p : IsPart v o) (h : Q o s) : wpAny (model prog w) A (Builtin.Slice.slicePartIndex v) Q E s := by
  cases p with
  | none => exact slicePart_none h
  | int i t => exact slicePart_int h
theorem sliceApplied_gen {sl : Addr} {vl vu : Value} {lo hi : Option Int} {n : Nat} {Q : Int × Int × Nat → Shared → Prop} (hs : s.heap.IsSliceOf sl vl vu .none) (pl : IsPart vl lo) (pu : IsPart vu hi)
    (h : Q (((sIx n 0 lo : Nat) : Int), 1, sIx n n hi - sIx n 0 lo) s) : wpAny (model prog w) A (Builtin.Slice.sliceApplied (.ref sl) (pure (n : Int))) Q E s := by
  obtain ⟨os, hos, hcs, hds⟩ := id hs
  unfold Builtin.Slice.sliceApplied Builtin.Slice.sliceFields
  refine wpAny_bind (wpAny_bind (wpAny_field hos hds (x := vl) rfl (wpAny_bind (wpAny_field hos hds (x := vu) rfl (wpAny_bind (wpAny_field hos hds (x := .none) rfl (wpAny_pure ?_)))))))
  refine wpAny_bind (slicePart_none ?_)
  show wpAny _ _ (if ((1 : Int) == 0) = true then _ else _) _ _ s
  rw [if_neg (by decide)]
  refine wpAny_bind (slicePart_ pl (wpAny_bind (slicePart_ pu (wpAny_bind (wpAny_pure ?_)))))
  show wpAny _ _ (match Builtin.Slice.sliceAdjust lo hi 1 (n : Int) with | (lo, hi) => pure (lo, (1 : Int), Builtin.Slice.slicePlaces lo hi 1)) _ _ s
  rw [adjust_gen lo hi n]
  show wpAny _ _ (pure (((sIx n 0 lo : Nat) : Int), (1 : Int), Builtin.Slice.slicePlaces ((sIx n 0 lo : Nat) : Int) ((sIx n n hi : Nat) : Int) 1)) _ _ s
  rw [places_gen]
  exact wpAny_pure h
theorem pick_gen (xs : Array Value) (i k : Nat) : ((List.range k).filterMap fun (m : Nat) => xs[((i : Int) + (m : Int) * 1).toNat]?).toArray = ((xs.toList.drop i).take k).toArray := by
  have e : (fun (m : Nat) => xs[((i : Int) + (m : Int) * 1).toNat]?) = fun m => xs[i + m]? := by
    funext m
    have : ((i : Int) + (m : Int) * 1).toNat = i + m := by omega
    rw [this]
  rw [e]
  have := pick_run xs i k
  rw [List.filterMap_map] at this
  have e2 : ((fun x => xs[x]?) ∘ fun x => i + x) = fun m => xs[i + m]? := rfl
  rw [e2] at this
  rw [this]

theorem getItem_tuple_cut {t sl : Addr} {items : Array Value} {vl vu : Value} {lo hi : Option Int} {Q : Value → Shared → Prop} (ht : IsTup s.heap t items) (hs : s.heap.IsSliceOf sl vl vu .none) (pl : IsPart vl lo) (pu : IsPart vu hi)
    (hw : ¬ (sIx items.size 0 lo = 0 ∧ sIx items.size items.size hi = items.size))
    (h : Q (.ref s.heap.objs.size) { s with heap := s.heap.push { cls := .type "tuple", data := .seq ((items.toList.drop (sIx items.size 0 lo)).take (sIx items.size items.size hi - sIx items.size 0 lo)).toArray } })
    (hsz : items.size ≤ sizeLine) : wpAny (model prog w) A (getItem (.ref t) (.ref sl)) Q E s := by
  have htake : sizeOk (.seq ((items.toList.drop (sIx items.size 0 lo)).take (sIx items.size items.size hi - sIx items.size 0 lo)).toArray) := by
    show ((items.toList.drop (sIx items.size 0 lo)).take (sIx items.size items.size hi - sIx items.size 0 lo)).toArray.size ≤ sizeLine
    rw [List.size_toArray, List.length_take, List.length_drop, Array.length_toList]
    omega
  have hj : sIx items.size items.size hi ≤ items.size := sIx_le _ _ (Nat.le_refl _) hi
  obtain ⟨os, hos, hcs, hds⟩ := id hs
  have hTs : s.TypeIs (.ref sl) "slice" := ⟨os, hos, hcs⟩
  unfold getItem
  try with_reducible refine wpAny_holding ?_
  first | refine wpAny_bind (wpAny_pure ?_) | skip
  refine wpAny_bind (wpAny_sequenceKey ht.typeIs (by decide) ?_)
  refine wpAny_bind (wpAny_callSpecial?_slot (name := Str.ofString "__getitem__") ht.typeIs PyProof.Rows.slot_tuple_getitem
    (wpAny_call_entry PyProof.Rows.slot_tuple_getitem ht.typeIs entry_tuple_getitem ?_ (args_tuple_getitem _ _)))
  show wpAny _ _ (Builtin.Tuple.tupleItemsOf (.ref t) >>= _) _ _ s
  refine wpAny_bind (tupleItemsOf_ ht ?_)
  refine wpAny_bind (wpAny_typeOf hTs ?_)
  rw [if_pos (by decide)]
  refine wpAny_bind (sliceApplied_gen hs pl pu ?_)
  have hno : ¬ ((((sIx items.size 0 lo : Nat) : Int) == 0 && (1 : Int) == 1 && (sIx items.size items.size hi - sIx items.size 0 lo) == items.size) = true) := by
    intro q
    rw [Bool.and_eq_true, Bool.and_eq_true] at q
    have q1 : ((sIx items.size 0 lo : Nat) : Int) = 0 := eq_of_beq q.1.1
    have q2 : sIx items.size items.size hi - sIx items.size 0 lo = items.size := eq_of_beq q.2
    exact hw ⟨by omega, by omega⟩
  show wpAny _ _ (if (((sIx items.size 0 lo : Nat) : Int) == 0 && (1 : Int) == 1 && (sIx items.size items.size hi - sIx items.size 0 lo) == items.size) = true then _ else _) _ _ s
  rw [if_neg hno, pick_gen]
  first
    | exact wpAny_bind (m := Builtin.Tuple.tupleExact _) (wpAny_newObj_type (wpAny_pure ⟨_, rfl, wpAny_pure h⟩) htake)
    | exact wpAny_bind (m := Builtin.Tuple.tupleExact _) (wpAny_newObj_type (wpAny_bind (wpAny_pure (wpAny_pure ⟨_, rfl, wpAny_pure h⟩))) htake)
    | exact wpAny_bind (wpAny_bind (m := Builtin.Tuple.tupleExact _) (wpAny_newObj_type (wpAny_pure (wpAny_pure ⟨_, rfl, wpAny_pure h⟩)) htake))
    | exact wpAny_bind (wpAny_bind (m := Builtin.Tuple.tupleExact _) (wpAny_newObj_type (wpAny_pure ⟨_, rfl, wpAny_pure h⟩) htake))
end
end HT

namespace L2
open PySem PySem.Spec PyProof.Rows

/-! ### the parts of a slice -/
abbrev TO := St → Hp → (Option Int → Hp → Prop) → Prop
/-- a slice's part (left out, or an int) -/
def PO (X : Cx) (e : Option Expr) (t : TO) : Prop :=
  ∀ (pins : List (Addr × Obj)) (s : Shared) (σ : St) (H : Hp) (Q : Option Int → Hp → Prop), Inv X pins σ H s → t σ H Q →
    wpAny (model X.prog X.w) X.A (evalPart e X.env) (fun u s' => ∃ o H', Inv X pins σ H' s' ∧ IsPart u o ∧ Q o H') X.xe s
def tNoPart : TO := fun _ H Q => Q none H
def tPart (t : TE) : TO := fun σ H Q => t σ H fun x H1 => ∃ i, x = .int i ∧ Q (some i) H1

section
variable {X : Cx} {e : Expr} {te : TE} {lo hi : Option Expr} {tl th : TO} {pos p2 : Pos}

theorem po_none : PO X none tNoPart := by
  intro pins s σ H Q I h
  rw [evalPart_none]
  exact wpAny_pure ⟨none, H, I, .none, h⟩
theorem po_some (h : PE X e te) : PO X (some e) (tPart te) := by
  intro pins s σ H Q I hw
  rw [evalPart_some]
  refine thn (h pins s σ H _ I hw) fun u s1 ⟨x, H1, I1, r1, q1⟩ => ?_
  obtain ⟨i, rfl, q⟩ := q1
  obtain ⟨t, rfl⟩ := r1
  exact ⟨some i, H1, I1, .int i t, q⟩

/-- what a slice of a value is, by values: the slice object stands at sl -/
def SlR (X : Cx) (r : V → Option Int → Option Int → Hp → VK → Prop) : Prop :=
  ∀ (pins : List (Addr × Obj)) (s : Shared) (σ : St) (H : Hp) (x : V) (v vl vu : Value) (lo hi : Option Int) (sl : Addr) (Q : VK), Inv X pins σ H s → RelV x v → s.heap.IsSliceOf sl vl vu .none → IsPart vl lo → IsPart vu hi → r x lo hi H Q →
    ∃ T id, typeLookup (.type T) "__getitem__" = pure (some (.builtin id)) ∧ s.TypeIs v T ∧ wpAny (model X.prog X.w) X.A (getItem v (.ref sl)) (EP X pins σ Q) X.xe s
theorem SlR.or {r r' : V → Option Int → Option Int → Hp → VK → Prop} (h : SlR X r) (h' : SlR X r') : SlR X (fun x lo hi H Q => r x lo hi H Q ∨ r' x lo hi H Q) := by
  intro pins s σ H x v vl vu lo hi sl Q I rx hs pl pu q
  rcases q with q | q
  · exact h pins s σ H x v vl vu lo hi sl Q I rx hs pl pu q
  · exact h' pins s σ H x v vl vu lo hi sl Q I rx hs pl pu q
def tSl (r : V → Option Int → Option Int → Hp → VK → Prop) (te : TE) (tl th : TO) : TE := fun σ H Q => te σ H fun x H1 => tl σ H1 fun l H2 => th σ H2 fun u H3 => r x l u H3 Q
/-- a[lo:hi], any a -/
theorem pe_slice {r : V → Option Int → Option Int → Hp → VK → Prop} (hr : SlR X r) (he : PE X e te) (hl : PO X lo tl) (hu : PO X hi th) : PE X (.Subscript e (.Slice lo hi none p2) pos) (tSl r te tl th) := by
  intro pins s σ H Q I h
  refine Subscript_ (thn (he pins s σ H _ I h) fun v s1 ⟨x, H1, I1, r1, q1⟩ => ?_)
  refine wpAny_Slice (thn (hl pins s1 σ H1 _ I1 q1) fun vl s2 ⟨l, H2, I2, pl, q2⟩ => thn (hu pins s2 σ H2 _ I2 q2) fun vu s3 ⟨u, H3, I3, pu, q3⟩ => ?_)
  rw [evalPart_none]
  refine wpAny_pure ?_
  have I4 : Inv X pins σ H3 { s3 with heap := s3.heap.push { cls := .type "slice", data := .fields #[vl, vu, .none] } } := I3.kept (t' := s3.toks) fun b ob q => Heap.get?_push_of_some _ q
  obtain ⟨T, id, hT, ht, hg⟩ := hr pins { s3 with heap := s3.heap.push { cls := .type "slice", data := .fields #[vl, vu, .none] } } σ H3 x v vl vu l u s3.heap.objs.size Q I4 r1 (Heap.IsSliceOf.new ..) pl pu q3
  show wpAny (model X.prog X.w) X.A (subscriptTail e (.Slice lo hi none p2) v (.ref s3.heap.objs.size)) (EP X pins σ Q) X.xe { s3 with heap := s3.heap.push { cls := .type "slice", data := .fields #[vl, vu, .none] } }
  exact tail_any (ops := [.ref s3.heap.objs.size, v]) ht hT hg (by with_unfolding_all rfl)

/-- the items of xs[lo:hi] -/
def cutV (xs : List V) (lo hi : Option Int) : List V := (xs.drop (HT.sIx xs.length 0 lo)).take (HT.sIx xs.length xs.length hi - HT.sIx xs.length 0 lo)
theorem cutV_length (xs : List V) (lo hi : Option Int) : (cutV xs lo hi).length ≤ xs.length := by
  unfold cutV
  rw [List.length_take, List.length_drop]
  omega
/-- t[lo:hi], not the whole of it (the whole would be t itself) -/
def rSlT (K : PySem.W.Frag) : V → Option Int → Option Int → Hp → VK → Prop := fun x lo hi H Q => ∃ a xs, x = .ref a ∧ SqT K H a xs ∧
  ¬ (HT.sIx xs.length 0 lo = 0 ∧ HT.sIx xs.length xs.length hi = xs.length) ∧ ∀ p, H p = none → Q (.ref p) (upd H p (.tup (cutV xs lo hi)))
theorem sl_tup : SlR X (rSlT X.K) := by
  intro pins s σ H x v vl vu lo hi sl Q I rx hs pl pu h
  obtain ⟨a, xs, rfl, hx, hw, q⟩ := h
  cases rx
  obtain ⟨its, r, ht, hz⟩ := I.tuple hx
  have hlen : its.toArray.size = xs.length := by rw [List.size_toArray]; exact r.length.symm
  refine ⟨"tuple", _, PyProof.Rows.slot_tuple_getitem.lookup, ht.typeIs, ?_⟩
  refine HT.getItem_tuple_cut ht hs pl pu (by rw [hlen]; exact hw) ?_ (by rw [hlen]; exact hz)
  rw [hlen]
  refine ⟨.ref s.heap.objs.size, _, I.laid (t' := s.toks) (o := .tup (cutV xs lo hi)) (fun b ob q => Heap.get?_push_of_some _ q) (Nat.le_refl _) ?_, rfl, q _ (I.hok.fresh (Nat.le_refl _))⟩
  exact ⟨Nat.le_trans (cutV_length xs lo hi) hz, _, (r.drop (HT.sIx xs.length 0 lo)).take (HT.sIx xs.length xs.length hi - HT.sIx xs.length 0 lo), IsTup.new _ _⟩

/-! ### t < u, t + u -/
def rLtT (K : PySem.W.Frag) : R2 := fun x y H Q => ∃ a b ns ms, x = .ref a ∧ y = .ref b ∧ SqT K H a (ns.map V.int) ∧ SqT K H b (ms.map V.int) ∧ Q (.bl (HT.lexLt ns ms)) H
/-- t + u, t not empty: u empty gives t itself -/
def rCatT (K : PySem.W.Frag) : R2 := fun x y H Q => ∃ a b xs ys, x = .ref a ∧ y = .ref b ∧ SqT K H a xs ∧ SqT K H b ys ∧ xs ≠ [] ∧ xs.length + ys.length ≤ sizeLine ∧
  (ys = [] → Q (.ref a) H) ∧ (ys ≠ [] → ∀ p, H p = none → Q (.ref p) (upd H p (.tup (xs ++ ys))))
theorem Vals.nil_iff {xs : List V} {us : List Value} (r : Vals xs us) : us = [] ↔ xs = [] := by
  cases r with
  | nil => simp
  | cons _ _ => simp
theorem op_catT : OpR X (binaryOp .Add) (rCatT X.K) := by
  intro pins s σ H x y v u Q I rx ry h
  obtain ⟨a, b, xs, ys, rfl, rfl, ha, hb, hx, hz, q1, q2⟩ := h
  cases rx
  cases ry
  obtain ⟨its, r1, p1, _⟩ := I.tuple ha
  obtain ⟨its2, r2, p2, _⟩ := I.tuple hb
  refine HT.cat_tup p1 p2 (fun z => hx (r1.nil_iff.mp z)) (fun z => ⟨.ref a, H, I, rfl, q1 (r2.nil_iff.mp z)⟩) (fun z => ?_) (by rw [← r1.length, ← r2.length]; exact hz)
  refine ⟨.ref s.heap.objs.size, _, I.laid (t' := s.toks) (o := .tup (xs ++ ys)) (fun b ob q => Heap.get?_push_of_some _ q) (Nat.le_refl _) ?_, rfl, q2 (fun w => z (r2.nil_iff.mpr w)) _ (I.hok.fresh (Nat.le_refl _))⟩
  exact ⟨by rw [List.length_append]; exact hz, _, r1.append r2, IsTup.new _ _⟩
end
end L2

namespace L2
open PySem PySem.Spec PyProof.Rows

/-! ### places -/
/-- the place that an index of any sign means -/
def ixN (n : Nat) (i : Int) : Option Nat := if 0 ≤ i then (if i < n then some i.toNat else none) else if -(n : Int) ≤ i then some (i + n).toNat else none
def atI {α : Type} (xs : List α) (i : Int) : Option α := (ixN xs.length i).bind fun j => xs[j]?
theorem ixN_seq {n : Nat} {i : Int} {j : Nat} (h : ixN n i = some j) : seqIndex? i n = some j ∧ j < n ∧ -(n : Int) ≤ i ∧ i < n := by
  unfold ixN at h
  by_cases h0 : 0 ≤ i
  · rw [if_pos h0] at h
    by_cases h1 : i < n
    · rw [if_pos h1] at h
      have e : i.toNat = j := Option.some.inj h
      exact ⟨by rw [seqIndex_of h0 h1, e], by omega, by omega, h1⟩
    · rw [if_neg h1] at h; cases h
  · rw [if_neg h0] at h
    by_cases h1 : -(n : Int) ≤ i
    · rw [if_pos h1] at h
      have e : (i + n).toNat = j := Option.some.inj h
      exact ⟨by rw [seqIndex_neg (by omega) h1, e], by omega, h1, by omega⟩
    · rw [if_neg h1] at h; cases h
theorem atI_get {α : Type} {xs : List α} {i : Int} {v : α} (h : atI xs i = some v) : ∃ j, seqIndex? i xs.length = some j ∧ xs[j]? = some v ∧ j < xs.length ∧ -(xs.length : Int) ≤ i ∧ i < xs.length := by
  unfold atI at h
  cases e : ixN xs.length i with
  | none => rw [e] at h; cases h
  | some j =>
    rw [e] at h
    obtain ⟨h1, h2, h3, h4⟩ := ixN_seq e
    exact ⟨j, h1, h, h2, h3, h4⟩
theorem atI_nat {α : Type} {xs : List α} {j : Nat} {v : α} (h : xs[j]? = some v) : atI xs (j : Int) = some v := by
  have hj : j < xs.length := (List.getElem?_eq_some_iff.mp h).1
  have e : ixN xs.length (j : Int) = some j := by
    unfold ixN
    rw [if_pos (by omega), if_pos (by omega)]; simp
  unfold atI; rw [e]; exact h
/-! ### what may be subscripted -/
/-- what stands as an index of a plain subscript -/
def PlainIx (b : Expr) : Prop := ∀ o i, subscripted b false o i = operate [o, i] (getItem o i)
/-- a subscript by values -/
def IxR (X : Cx) (r : R2) : Prop :=
  ∀ (value slice : Expr) (pins : List (Addr × Obj)) (s : Shared) (σ : St) (H : Hp) (x y : V) (v u : Value) (Q : VK), Inv X pins σ H s → RelV x v → RelV y u → r x y H Q →
    subscripted slice false v u = operate [v, u] (getItem v u) → wpAny (model X.prog X.w) X.A (subscriptTail value slice v u) (EP X pins σ Q) X.xe s
/-- a call of a builtin's method by values: the receiver, the arguments -/
def MtR (X : Cx) (id : String) (r : V → List V → Hp → VK → Prop) : Prop :=
  ∀ (pins : List (Addr × Obj)) (s : Shared) (σ : St) (H : Hp) (x : V) (xs : List V) (v : Value) (us : List Value) (Q : VK), Inv X pins σ H s → RelV x v → Vals xs us → r x xs H Q →
    wpAny (model X.prog X.w) X.A (call (.builtin id) (v :: us)) (EP X pins σ Q) X.xe s
section
variable {X : Cx} {a b : Expr} {ta tb : TE} {pos : Pos}
theorem IxR.or {r r' : R2} (h : IxR X r) (h' : IxR X r') : IxR X (fun x y H Q => r x y H Q ∨ r' x y H Q) := by
  intro value slice pins s σ H x y v u Q I rx ry q hs
  rcases q with q | q
  · exact h value slice pins s σ H x y v u Q I rx ry q hs
  · exact h' value slice pins s σ H x y v u Q I rx ry q hs
/-- a[b] -/
theorem pe_ix {r : R2} (hr : IxR X r) (ha : PE X a ta) (hb : PE X b tb) (hs : PlainIx b) : PE X (.Subscript a b pos) (tOp r ta tb) := by
  intro pins s σ H Q I h
  exact Subscript_ (binT ha hb I h fun v u s2 x y H2 I2 rx ry q => hr a b pins s2 σ H2 x y v u Q I2 rx ry q (hs _ _))

def rIxL (K : PySem.W.Frag) : R2 := fun x y H Q => ∃ p xs i v, x = .ref p ∧ y = .int i ∧ SqL K H p xs ∧ atI xs i = some v ∧ Q v H
def rIxT (K : PySem.W.Frag) : R2 := fun x y H Q => ∃ p xs i v, x = .ref p ∧ y = .int i ∧ SqT K H p xs ∧ atI xs i = some v ∧ Q v H
def rIxS : R2 := fun x y H Q => ∃ z i c, x = .str z ∧ y = .int i ∧ z.length ≤ sizeLine ∧ atI z.cps.toList i = some c ∧ Q (.str ⟨#[c]⟩) H
theorem ix_list : IxR X (rIxL X.K) := by
  intro value slice pins s σ H x y v u Q I rx ry h hs
  obtain ⟨p, xs, i, z, rfl, rfl, hq, he, q⟩ := h
  cases rx
  obtain ⟨t, rfl⟩ := ry
  obtain ⟨its, r, pl, hz⟩ := I.list hq
  obtain ⟨j, h1, h2, h3, h4, h5⟩ := atI_get he
  obtain ⟨w, ew, rw'⟩ := r.get h2
  have hl := r.length
  have hn := line63
  have fin : EP X pins σ Q w s := ⟨z, H, I, rw', q⟩
  by_cases h0 : 0 ≤ i
  · have hj : i.toNat = j := by
      rw [seqIndex_of h0 h5] at h1
      exact Option.some.inj h1
    exact item_listR pl.isList h0 (by omega) (by rw [hj]; simpa using ew) fin hs
  · have hj : (i + (its.toArray.size : Int)).toNat = j := by
      rw [seqIndex_neg (by omega) h4] at h1
      rw [List.size_toArray, ← hl]
      exact Option.some.inj h1
    exact subscriptTail_builtinR (x := w) pl.isList.typeIs slot_list_getitem.lookup
      (wpAny_getItem_list_neg (Q := fun r s' => r = w ∧ EP X pins σ Q r s') pl.isList (by omega) (by rw [List.size_toArray] <;> omega) (by omega) (by rw [hj]; simpa using ew) ⟨rfl, fin⟩) hs
theorem ix_tup : IxR X (rIxT X.K) := by
  intro value slice pins s σ H x y v u Q I rx ry h hs
  obtain ⟨p, xs, i, z, rfl, rfl, hq, he, q⟩ := h
  cases rx
  obtain ⟨t, rfl⟩ := ry
  obtain ⟨its, r, pl, hz⟩ := I.tuple hq
  obtain ⟨j, h1, h2, h3, h4, h5⟩ := atI_get he
  obtain ⟨w, ew, rw'⟩ := r.get h2
  have hl := r.length
  have hn := line63
  have fin : EP X pins σ Q w s := ⟨z, H, I, rw', q⟩
  exact subscriptTail_builtinR (x := w) pl.typeIs slot_tuple_getitem.lookup
    (getItem_tuple (j := j) (Q := fun r s' => r = w ∧ EP X pins σ Q r s') pl (by omega) (by omega) (by rw [List.size_toArray, ← hl]; exact h1) (by simpa using ew) ⟨rfl, fin⟩) hs
theorem ix_str : IxR X rIxS := by
  intro value slice pins s σ H x y v u Q I rx ry h hs
  obtain ⟨z, i, c, rfl, rfl, hz, he, q⟩ := h
  obtain ⟨t, rfl⟩ := rx
  obtain ⟨t', rfl⟩ := ry
  obtain ⟨j, h1, h2, h3, h4, h5⟩ := atI_get he
  have hl : z.cps.toList.length = z.length := by simp [Str.length]
  rw [hl] at h1 h4 h5
  have hn := line63
  exact tail_any (typeIs_str s z t) slot_str_getitem.lookup (getItem_str (c := c) (by
    have e1 : decide (i < -(2 ^ 63 : Int)) = false := decide_eq_false (by omega)
    have e2 : decide (i ≥ 2 ^ 63) = false := decide_eq_false (by omega)
    rw [e1, e2, Bool.or_false]) (by rw [h1]; simpa using h2) ⟨.str ⟨#[c]⟩, H, I.tok _, ⟨_, rfl⟩, q⟩) hs
/-- list, tuple or str -/
def rIx (K : PySem.W.Frag) : R2 := fun x y H Q => rIxL K x y H Q ∨ rIxT K x y H Q ∨ rIxS x y H Q
theorem ix_seq : IxR X (rIx X.K) := ix_list.or (ix_tup.or ix_str)

/-! ### xs[i] = v, any sign -/
def rSetL : V → V → V → Hp → (Hp → Prop) → Prop := fun o i v H Q => ∃ p xs k j, o = .ref p ∧ i = .int k ∧ H p = some (.lst xs) ∧ ixN xs.length k = some j ∧ Q (upd H p (.lst (xs.set j v)))
/-! ### slices -/
theorem slice_bounds (lo hi : Option Int) (n : Nat) : (sliceBounds lo hi none n).1 = ((HT.sIx n 0 lo : Nat) : Int) ∧ (sliceBounds lo hi none n).2.1 = ((HT.sIx n n hi : Nat) : Int) ∧ (sliceBounds lo hi none n).2.2 = 1 := by
  refine ⟨?_, ?_, rfl⟩
  · cases lo with
    | none => simp [sliceBounds, HT.sIx]
    | some i =>
      simp only [sliceBounds, HT.sIx, Option.getD_none, show (1 : Int) > 0 by decide, if_true]
      by_cases h : i < 0
      · simp only [h, if_true] <;> omega
      · simp only [h, if_false] <;> omega
  · cases hi with
    | none => simp [sliceBounds, HT.sIx]
    | some i =>
      simp only [sliceBounds, HT.sIx, Option.getD_none, show (1 : Int) > 0 by decide, if_true]
      by_cases h : i < 0
      · simp only [h, if_true] <;> omega
      · simp only [h, if_false] <;> omega
theorem slicePick_cut (its : List Value) (lo hi : Option Int) : slicePick its.toArray lo hi none = ((its.drop (HT.sIx its.length 0 lo)).take (HT.sIx its.length its.length hi - HT.sIx its.length 0 lo)).toArray := by
  obtain ⟨h1, h2, h3⟩ := slice_bounds lo hi its.toArray.size
  unfold slicePick
  rw [h1, h2, h3]
  simp only [sliceRange_one, pick_run, List.size_toArray] <;> rfl
/-- xs[lo:hi] of a list: a new list -/
def rSlL (K : PySem.W.Frag) : V → Option Int → Option Int → Hp → VK → Prop := fun x lo hi H Q => ∃ a xs, x = .ref a ∧ SqL K H a xs ∧ ∀ p, H p = none → Q (.ref p) (upd H p (.lst (cutV xs lo hi)))
theorem sl_list : SlR X (rSlL X.K) := by
  intro pins s σ H x v vl vu lo hi sl Q I rx hs pl pu h
  obtain ⟨a, xs, rfl, hx, q⟩ := h
  cases rx
  obtain ⟨its, r, ht, hz⟩ := I.list hx
  have hlen := r.length
  refine ⟨"list", _, slot_list_getitem.lookup, ht.isList.typeIs, ?_⟩
  refine wpAny_getItem_list_slice ht.isList hs pl pu .none (by simp) ?_ (by rw [List.size_toArray] <;> omega)
  rw [slicePick_cut, ← hlen]
  refine ⟨.ref s.heap.objs.size, _, I.laid (t' := s.toks) (o := .lst (cutV xs lo hi)) (fun b ob q => Heap.get?_push_of_some _ q) (Nat.le_refl _) ?_, rfl, q _ (I.hok.fresh (Nat.le_refl _))⟩
  exact ⟨Nat.le_trans (cutV_length xs lo hi) hz, _, 0, (r.drop (HT.sIx xs.length 0 lo)).take (HT.sIx xs.length xs.length hi - HT.sIx xs.length 0 lo), Heap.get?_push_size _ rfl⟩

/-! ### in, not in: flat items -/
def flatV : V → Bool
  | .non => true
  | .bl _ => true
  | .int _ => true
  | .str _ => true
  | _ => false
/-- == of flat values -/
def eqV : V → V → Bool
  | .non, .non => true
  | .bl a, .bl b => a == b
  | .bl a, .int b => (if a then 1 else 0) == b
  | .int a, .bl b => a == (if b then 1 else 0)
  | .int a, .int b => a == b
  | .str a, .str b => a == b
  | _, _ => false
/-- the items' answers, read off the values (a value's own answer does not lean on its token) -/
def eqU (x : V) (u : Value) : Bool := match u with
  | .none => eqV .non x
  | .bool b => eqV (.bl b) x
  | .int i _ => eqV (.int i) x
  | .str z _ => eqV (.str z) x
  | _ => false
def inV (x : V) (xs : List V) : Bool := xs.any fun y => eqV y x
/-- x in a list or tuple of flat items -/
def rIn (K : PySem.W.Frag) (neg : Bool) : R2 := fun x y H Q => ∃ p xs, y = .ref p ∧ (SqL K H p xs ∨ SqT K H p xs) ∧ flatV x = true ∧ xs.all flatV = true ∧ Q (.bl (if neg then !inV x xs else inV x xs)) H
/-! ### len, list(x), tuple(x) of any list or tuple that is read -/
theorem call_len_seq : CallR X (.builtin "len") (fun xs H Q => ∃ p ys, xs = [.ref p] ∧ (SqL X.K H p ys ∨ SqT X.K H p ys) ∧ Q (.int ys.length) H) := by
  intro pins s σ H xs us Q I r h
  obtain ⟨p, ys, rfl, hq, q⟩ := h
  obtain ⟨u, rfl, rx⟩ := vals1 r
  cases rx
  have hn := line63
  rcases hq with hq | hq
  · obtain ⟨its, r', pl, hz⟩ := I.list hq
    have hlen := r'.length
    exact Calls.call_len_list pl.isList (by simp only [List.size_toArray] <;> omega) ⟨.int ys.length, H, I.tok _, ⟨s.toks + 1, by rw [List.size_toArray, hlen]⟩, q⟩
  · obtain ⟨its, r', pl, hz⟩ := I.tuple hq
    have hlen := r'.length
    exact len_tuple pl (by simp only [List.size_toArray] <;> omega) ⟨.int ys.length, H, I.tok _, ⟨s.toks + 1, by rw [List.size_toArray, hlen]⟩, q⟩
theorem call_len_str : CallR X (.builtin "len") (fun xs H Q => ∃ z, xs = [.str z] ∧ z.length ≤ sizeLine ∧ Q (.int z.length) H) := by
  intro pins s σ H xs us Q I r h
  obtain ⟨z, rfl, hz, q⟩ := h
  obtain ⟨u, rfl, t, rfl⟩ := vals1 r
  have hn := line63
  exact len_str (by omega) ⟨.int z.length, H, I.tok _, ⟨_, rfl⟩, q⟩
theorem CallR.or {f : Value} {r r' : List V → Hp → VK → Prop} (h : CallR X f r) (h' : CallR X f r') : CallR X f (fun xs H Q => r xs H Q ∨ r' xs H Q) := by
  intro pins s σ H xs us Q I rs q
  rcases q with q | q
  · exact h pins s σ H xs us Q I rs q
  · exact h' pins s σ H xs us Q I rs q
theorem call_tuple_of : CallR X (.type "tuple") (fun xs H Q => ∃ p ys, xs = [.ref p] ∧ ((SqL X.K H p ys ∧ ∀ l, H l = none → Q (.ref l) (upd H l (.tup ys))) ∨ (SqT X.K H p ys ∧ Q (.ref p) H))) := by
  intro pins s σ H xs us Q I r h
  obtain ⟨p, ys, rfl, h⟩ := h
  obtain ⟨u, rfl, rx⟩ := vals1 r
  cases rx
  rcases h with ⟨hq, q⟩ | ⟨hq, q⟩
  · obtain ⟨its, r', pl, hz⟩ := I.list hq
    have hlen := r'.length
    refine call_tuple_list pl.isList (fun h' kp => ?_) (by simp only [List.size_toArray] <;> omega)
    have I1 : Inv X pins σ H { s with heap := h' } := I.kept (t' := s.toks) kp
    have I2 : Inv X pins σ (upd H h'.objs.size (.tup ys)) { s with heap := h'.push { cls := .type "tuple", data := .seq its.toArray } } :=
      I1.laid (t' := s.toks) (fun b o e => Heap.get?_push_of_some _ e) (Nat.le_refl _) (show ObjOk X.prog X.w _ _ _ (.tup ys) from ⟨hz, its, r', IsTup.new _ _⟩)
    exact ⟨.ref h'.objs.size, _, I2, rfl, q _ (I1.hok.fresh (Nat.le_refl _))⟩
  · obtain ⟨its, r', pl, hz⟩ := I.tuple hq
    exact call_tuple_same pl ⟨.ref p, H, I, rfl, q⟩

/-! ### the call of a builtin's method: o.m(..) -/
/-- the value is of that builtin type -/
def tyV (K : PySem.W.Frag) (T : String) (x : V) (H : Hp) : Prop := match x with
  | .str _ => T = "str"
  | .int _ => T = "int"
  | .ref p => (T = "list" ∧ ∃ xs, SqL K H p xs) ∨ (T = "tuple" ∧ ∃ o, K.lookup p = some o ∧ o.cls = .type "tuple" ∧ o.dict = none) ∨
      (T = "dict" ∧ ((∃ kvs, H p = some (.dK kvs)) ∨ ∃ kvs, H p = some (.dT kvs))) ∨ (T = "set" ∧ ∃ S n, H p = some (.set S n))
  | _ => False
theorem tyV_is {pins : List (Addr × Obj)} {σ : St} {H : Hp} {s : Shared} {T : String} {x : V} {v : Value} (I : Inv X pins σ H s) (r : RelV x v) (ty : tyV X.K T x H) :
    s.TypeIs v T ∧ ∀ a, v = .ref a → ∃ ob, s.heap.get? a = some ob ∧ ob.dict = none := by
  cases x with
  | str z =>
    obtain ⟨t, rfl⟩ := r
    cases (show T = "str" from ty)
    exact ⟨typeIs_str s z t, fun _ e => nomatch e⟩
  | int i =>
    obtain ⟨t, rfl⟩ := r
    cases (show T = "int" from ty)
    exact ⟨typeIs_int s i t, fun _ e => nomatch e⟩
  | ref p =>
    cases r
    rcases ty with ⟨rfl, xs, hq⟩ | ⟨rfl, o, hk, hc, hd⟩ | ⟨rfl, hk⟩ | ⟨rfl, S, n, hk⟩
    · obtain ⟨its, _, pl, _⟩ := I.list hq
      refine ⟨pl.isList.typeIs, fun a e => ?_⟩
      cases e
      obtain ⟨o, n, e, c, hd, _⟩ := pl
      exact ⟨o, e, hd⟩
    · refine ⟨⟨o, I.kIn p o hk, hc⟩, fun a e => ?_⟩
      cases e
      exact ⟨o, I.kIn _ o hk, hd⟩
    · have z : ∃ o, s.heap.get? p = some o ∧ o.ExactDict := by
        rcases hk with ⟨kvs, hk⟩ | ⟨kvs, hk⟩
        · obtain ⟨_, _, _, _, o, _, _, e, ex, _⟩ := I.hok p _ hk
          exact ⟨o, e, ex⟩
        · obtain ⟨_, _, _, _, o, _, _, e, ex, _⟩ := I.hok p _ hk
          exact ⟨o, e, ex⟩
      obtain ⟨o, e, ex⟩ := z
      refine ⟨⟨o, e, ex.1⟩, fun a e2 => ?_⟩
      cases e2
      exact ⟨o, e, ex.2.1⟩
    · obtain ⟨o, _, _, _, e, ex, _⟩ := I.hok p _ hk
      refine ⟨⟨o, e, ex.1⟩, fun a e2 => ?_⟩
      cases e2
      exact ⟨o, e, ex.2.1⟩
  | _ => exact False.elim ty
def tBM0 (K : PySem.W.Frag) (T : String) (r : V → List V → Hp → VK → Prop) (to : TE) : TE := fun σ H Q => to σ H fun x H1 => tyV K T x H1 ∧ r x [] H1 Q
def tBM (K : PySem.W.Frag) (T : String) (r : V → List V → Hp → VK → Prop) (to : TE) (t : TA) : TE := fun σ H Q => to σ H fun x H1 => tyV K T x H1 ∧ t σ H1 fun xs H2 => r x xs H2 Q
variable {o e : Expr} {es : List Expr} {to : TE} {t : TA} {name : Str} {apos cpos : Pos} {T id : String} {r : V → List V → Hp → VK → Prop}
theorem pe_bm (pa : PlainAttrs T) (slot : Slot T name id) (hty : typeOf (.builtin id) = pure (.type "method_descriptor")) (hm : MtR X id r) (ho : PE X o to) (ha : PA X (e :: es) t)
    (hbase : attributeBase o name X.env (eval o X.env) = eval o X.env := by rfl)
    (hfew : ((backTo cpos (starEach (e :: es) X.env)).all (fun x => !x.1) && (backToKw cpos (keywordEach [] X.env)).all (fun x => x.1.isSome)
      && decide ((e :: es).length + ([] : List Keyword).length + (if ([] : List Keyword).isEmpty then 0 else 1) < 30)) = true := by rfl)
    (hline : (apos.endLine == cpos.line) = true := by rfl) (hs : starEach (e :: es) X.env = (false, eval e X.env) :: starEach es X.env := by rfl) (hplain : (backTo cpos (starEach es X.env)).any (·.1) = false := by rfl) :
    PE X (.Call (.Attribute o name apos) (e :: es) [] cpos) (tBM X.K T r to t) := by
  intro pins s σ H Q I h
  refine wpAny_Call_method_late hbase hfew hline rfl (thn (ho pins s σ H _ I h) fun v s1 ⟨x, H1, I1, r1, ty, q1⟩ => ?_)
  obtain ⟨h1, h2⟩ := tyV_is I1 r1 ty
  refine ⟨T, id, pa, slot, hty, h1, h2, ?_⟩
  have hA := ha cpos pins s1 σ H1 _ I1 q1
  rw [hs] at hA ⊢
  refine Calls.callWith_builtin (by show (false || (backTo cpos (starEach es X.env)).any (·.1)) = false; rw [hplain] <;> rfl) (Calls.evalArgs_plain ?_)
  exact thn hA fun us s2 ⟨vs, H2, I2, r2, q2⟩ => hm pins s2 σ H2 x vs v us Q I2 r1 r2 q2
/- xs.append(e), list.index on a module's tuple .. are MtR facts of 06m -/
end
end L2

namespace L2
open PySem PySem.Spec PyProof.Rows

def MtM (X : Cx) (id : String) (r : V → List V → Hp → VK → Prop) : Prop :=
  ∀ (pins : List (Addr × Obj)) (s : Shared) (σ : St) (H : Hp) (x : V) (xs : List V) (v : Value) (us : List Value) (Q : VK), Inv X pins σ H s → RelV x v → Vals xs us → r x xs H Q →
    wpAny (model X.prog X.w) X.A (call (.builtin id) (v :: us)) (EP X pins σ Q) X.xe s

/-! ### lists of values -/
theorem Vals.one : ∀ {x : V} {us : List Value}, Vals [x] us → ∃ u, us = [u] ∧ RelV x u
  | _, _, .cons r .nil => ⟨_, rfl, r⟩
section
variable {X : Cx} {pins : List (Addr × Obj)} {σ : St} {H : Hp} {s : Shared} {l b : Addr} {xs ys zs : List V}

/-! ### the two steps: a tracked list is rewritten, a new list is laid -/
theorem Inv.lset {its its' : List Value} {n : Nat} {f : Array Value → Array Value} {t' : Nat} (I : Inv X pins σ H s) (hH : H l = some (.lst xs))
    (e : s.heap.get? l = some { cls := .type "list", data := .seq its.toArray n }) (hf : f its.toArray = its'.toArray) (hv : Vals ys its') (hz : ys.length ≤ sizeLine) :
    Inv X pins σ (upd H l (.lst ys)) { s with heap := s.heap.update l (Obj.mapSeq f), toks := t' } := by
  have q := PySem.IsL.update e f
  rw [hf] at q
  refine I.write (x := l) (e := l) (by rw [hH]; exact trivial) (.inl rfl) (fun b' u hb hu => (Heap.get?_update_other s.heap (Obj.mapSeq f) (Ne.symm hb)).trans hu) ⟨_, q⟩ ?_
  exact ⟨hz, its', _, hv, q⟩
theorem Inv.lnew {its : List Value} {t' : Nat} (I : Inv X pins σ H s) (hv : Vals ys its) (hz : ys.length ≤ sizeLine) :
    Inv X pins σ (upd H s.heap.objs.size (.lst ys)) { s with heap := s.heap.push { cls := .type "list", data := .seq its.toArray }, toks := t' } :=
  I.laid (fun _ _ q => Heap.get?_push_of_some _ q) (Nat.le_refl _) ⟨hz, its, 0, hv, Heap.get?_push_size _ rfl⟩
theorem Inv.fresh (I : Inv X pins σ H s) : H s.heap.objs.size = none := I.hok.fresh (Nat.le_refl _)
theorem Inv.lstM (I : Inv X pins σ H s) (hH : H l = some (.lst xs)) : xs.length ≤ sizeLine ∧ ∃ (its : List Value) (n : Nat), Vals xs its ∧ xs.length = its.length ∧ s.heap.get? l = some { cls := .type "list", data := .seq its.toArray n } := by
  obtain ⟨z, its, n, r, e⟩ := I.hok l _ hH
  exact ⟨z, its, n, r, r.length, e⟩

theorem notLongL {n : Nat} (h : n ≤ sizeLine) : Builtin.List.listTooLong n = false := by
  unfold Builtin.List.listTooLong
  exact decide_eq_false (by omega)
end

section
variable {X : Cx}

/-! ### methods -/
def rAppend : V → List V → Hp → VK → Prop := fun x vs H Q => ∃ l xs y, x = .ref l ∧ vs = [y] ∧ H l = some (.lst xs) ∧ xs.length < sizeLine ∧ Q .non (upd H l (.lst (xs ++ [y])))
theorem mt_append : MtM X "list.append" rAppend := by
  intro pins s σ H x vs v us Q I rx rv h
  obtain ⟨l, xs, y, rfl, rfl, hH, hz, q⟩ := h
  cases rx
  obtain ⟨u, rfl, ru⟩ := rv.one
  obtain ⟨z, its, n, r, hl, e⟩ := I.lstM hH
  refine call_meets F.slot_list_append ⟨_, e, rfl⟩ F.entry_list_append (F.args_list_append_2 _ _) (PySem.list_append l its.toArray n u (by rw [List.size_toArray]; omega)) ⟨e, ?_⟩
  refine ⟨.non, _, I.lset (its' := its ++ [u]) hH e (by simp) (r.append (.cons ru .nil)) ?_, rfl, q⟩
  rw [List.length_append, List.length_singleton]
  omega

def rExtend : V → List V → Hp → VK → Prop := fun x vs H Q => ∃ l b xs zs, x = .ref l ∧ vs = [.ref b] ∧ H l = some (.lst xs) ∧ H b = some (.lst zs) ∧ xs.length + zs.length ≤ sizeLine ∧ Q .non (upd H l (.lst (xs ++ zs)))
theorem mt_extend : MtM X "list.extend" rExtend := by
  intro pins s σ H x vs v us Q I rx rv h
  obtain ⟨l, b, xs, zs, rfl, rfl, hH, hB, hz, q⟩ := h
  cases rx
  obtain ⟨u, rfl, ru⟩ := rv.one
  cases ru
  obtain ⟨z, its, n, r, hl, e⟩ := I.lstM hH
  obtain ⟨z2, its2, n2, r2, hl2, e2⟩ := I.lstM hB
  have hsz : its.toArray.size + its2.toArray.size ≤ sizeLine := by rw [List.size_toArray, List.size_toArray]; omega
  have hlong : ¬ (!its.toArray.isEmpty && Builtin.List.listTooLong (its.toArray.size + its2.toArray.size)) = true := by
    rw [notLongL hsz, Bool.and_false]
    exact Bool.false_ne_true
  refine call_meets F.slot_list_extend ⟨_, e, rfl⟩ F.entry_list_extend (F.args_list_extend_2 _ _)
    (AutoSeq1.list_extend_list_list_0 l its.toArray n b its2.toArray n2 hlong (by rw [List.size_toArray]; omega) (by omega)) ⟨e, e2, ?_⟩
  refine ⟨.non, _, I.lset (its' := its ++ its2) hH e (by simp) (r.append r2) ?_, rfl, q⟩
  rw [List.length_append]
  omega

def rPop : V → List V → Hp → VK → Prop := fun x vs H Q => ∃ l xs y, x = .ref l ∧ vs = [] ∧ H l = some (.lst xs) ∧ xs[xs.length - 1]? = some y ∧ Q y (upd H l (.lst xs.dropLast))
def rPopAt : V → List V → Hp → VK → Prop := fun x vs H Q => ∃ l xs i k y, x = .ref l ∧ vs = [.int i] ∧ H l = some (.lst xs) ∧ -(2 ^ 63) ≤ i ∧ i < 2 ^ 63 ∧ seqIndex? i xs.length = some k ∧ xs[k]? = some y ∧ Q y (upd H l (.lst (xs.eraseIdx k)))
def rReverse : V → List V → Hp → VK → Prop := fun x vs H Q => ∃ l xs, x = .ref l ∧ vs = [] ∧ H l = some (.lst xs) ∧ Q .non (upd H l (.lst xs.reverse))
def rClear : V → List V → Hp → VK → Prop := fun x vs H Q => ∃ l xs, x = .ref l ∧ vs = [] ∧ H l = some (.lst xs) ∧ Q .non (upd H l (.lst []))
/-! ### list + list, list += list, list * int -/
def rCat : R2 := fun x y H Q => ∃ l b xs zs, x = .ref l ∧ y = .ref b ∧ H l = some (.lst xs) ∧ H b = some (.lst zs) ∧ xs.length + zs.length ≤ sizeLine ∧ ∀ p, H p = none → Q (.ref p) (upd H p (.lst (xs ++ zs)))
theorem op_cat : OpR X (binaryOp .Add) rCat := by
  intro pins s σ H x y v u Q I rx ry h
  obtain ⟨l, b, xs, zs, rfl, rfl, hH, hB, hz, q⟩ := h
  cases rx
  cases ry
  obtain ⟨z, its, n, r, hl, e⟩ := I.lstM hH
  obtain ⟨z2, its2, n2, r2, hl2, e2⟩ := I.lstM hB
  refine PySem.P.add_list e e2 ?_ (by rw [List.size_toArray, List.size_toArray]; omega)
  have ea : its.toArray ++ its2.toArray = (its ++ its2).toArray := by simp
  rw [ea]
  exact ⟨.ref _, _, I.lnew (t' := s.toks) (r.append r2) (by rw [List.length_append]; omega), rfl, q _ I.fresh⟩
/-- a list times an int (a negative one is nothing) -/
def rRep : R2 := fun x y H Q => ∃ l k xs, x = .ref l ∧ y = .int k ∧ H l = some (.lst xs) ∧ -(2 ^ 63) ≤ k ∧ k < 2 ^ 63 ∧ xs.length * k.toNat ≤ sizeLine ∧
  ∀ p, H p = none → Q (.ref p) (upd H p (.lst (List.replicate k.toNat xs).flatten))
/-! ### del xs[i] -/
end

/-! ### xs[a:b] = ys -/
section
variable {prog : Program} {w : World} {A : Around} {E : Value → Shared → Prop} {s : Shared}
end

section
variable {X : Cx}
end
end L2

namespace L2
open PySem PySem.Spec PyProof.Rows

/-! ### lists of pairs as tables -/
section
variable {κ : Type} [DecidableEq κ]
def valV (kvs : List (κ × V)) (k : κ) : Option V := (kvs.find? fun kv => decide (kv.1 = k)).map (·.2)
/-- in its place, or at the end -/
def putK (kvs : List (κ × V)) (k : κ) (v : V) : List (κ × V) :=
  if (kvs.any fun kv => decide (kv.1 = k)) = true then kvs.map (fun kv => if kv.1 = k then (kv.1, v) else kv) else kvs ++ [(k, v)]
def dropK (kvs : List (κ × V)) (k : κ) : List (κ × V) := kvs.filter fun kv => decide (kv.1 ≠ k)

end


/-! ### a tracked dict, its keys ints and texts or tuples of these -/
/-- raw entries of a dict with tuple keys -/
abbrev KT (H : Hp) : List (List Key × V) → List (List Key × Addr × Value) → Prop := Paired fun p q => p.1 = q.1 ∧ H q.2.1 = some (.tup (p.1.map kV)) ∧ RelV p.2 q.2.2
section
variable {P : Program} {w : World} {H : Hp} {h : Heap} {a : Addr}
end

/-- what the dict at a holds at the key y -/
def DGet (H : Hp) (a : Addr) (y : V) (r : Option V) : Prop :=
  (∃ kvs k, Rd H a (.dK kvs) ∧ y = kV k ∧ r = valV kvs k) ∨ ∃ kvs k b, Rd H a (.dT kvs) ∧ y = .ref b ∧ H b = some (.tup (k.map kV)) ∧ r = valV kvs k
/-- the heap behind a[y] = v -/
def DPut (H : Hp) (a : Addr) (y v : V) (H' : Hp) : Prop :=
  (∃ kvs k, H a = some (.dK kvs) ∧ y = kV k ∧ kvs.length < sizeLine ∧ H' = upd H a (.dK (putK kvs k v))) ∨
  ∃ kvs k b, H a = some (.dT kvs) ∧ y = .ref b ∧ H b = some (.tup (k.map kV)) ∧ kvs.length < sizeLine ∧ H' = upd H a (.dT (putK kvs k v))
section
variable {X : Cx} {pins : List (Addr × Obj)} {σ : St} {H : Hp} {s : Shared} {a : Addr} {y v : V} {u r : Value} {o : Option V} {A : Around} {E : Value → Shared → Prop}

end

section
variable {X : Cx} {pins : List (Addr × Obj)} {σ : St} {H : Hp} {s : Shared} {a : Addr} {kvs : List (Key × V)} {k : Key} {u : Value} {A : Around} {E : Value → Shared → Prop}
end


/-! ### readings and rules -/
/-- the element of a subscription, not a slice -/
def NoSl (i : Expr) : Prop := ∀ ov iv, subscripted i false ov iv = operate [ov, iv] (getItem ov iv)
/-- d[y] -/
def tDGet (td ty : TE) : TE := fun σ H Q => td σ H fun x H1 => ty σ H1 fun y H2 => ∃ a v, x = .ref a ∧ DGet H2 a y (some v) ∧ Q v H2
/-- y in d, y not in d -/
def tDIn (ty td : TE) : TE := fun σ H Q => ty σ H fun y H1 => td σ H1 fun x H2 => ∃ a o, x = .ref a ∧ DGet H2 a y o ∧ Q (.bl o.isSome) H2
def tDNotIn (ty td : TE) : TE := fun σ H Q => ty σ H fun y H1 => td σ H1 fun x H2 => ∃ a o, x = .ref a ∧ DGet H2 a y o ∧ Q (.bl (!o.isSome)) H2
/-- d[y] = v -/
def sDPut (td ty tv : TE) : TS := fun D σ H => tv σ H fun v H1 => td σ H1 fun x H2 => ty σ H2 fun y H3 => ∃ a H4, x = .ref a ∧ DPut H3 a y v H4 ∧ D.nx σ H4
/-- d[y] op= v -/
def sDAug (td ty tv : TE) (rd : V → V → Hp → VK → Prop) : TS := fun D σ H => td σ H fun x H1 => ty σ H1 fun y H2 => ∃ a v, x = .ref a ∧ DGet H2 a y (some v) ∧
  tv σ H2 fun y2 H3 => rd v y2 H3 fun z H4 => ∃ H5, DPut H4 a y z H5 ∧ D.nx σ H5
/-- del d[y] -/
def sDDel (td ty : TE) : TS := fun D σ H => td σ H fun x H1 => ty σ H1 fun y H2 => ∃ a kvs k, x = .ref a ∧ H2 a = some (.dK kvs) ∧ y = kV k ∧ (valV kvs k).isSome = true ∧ D.nx σ (upd H2 a (.dK (dropK kvs k)))

section
variable {X : Cx} {o i e value : Expr} {pos pos' tpos : Pos} {td ty tv : TE}
end


/-! ### displays -/
/-- {}, to be a dict of the kind that is wanted -/
def tDNewK : TE := fun _ H Q => ∀ p, H p = none → Q (.ref p) (upd H p (.dK []))
def tDNewT : TE := fun _ H Q => ∀ p, H p = none → Q (.ref p) (upd H p (.dT []))
section
variable {X : Cx} {pos : Pos}
end

/-- the pairs of a display, from the left -/
def tPairs : List (TE × TE) → St → Hp → (List (V × V) → Hp → Prop) → Prop
  | [], _, H, Q => Q [] H
  | (tk, tv) :: r, σ, H, Q => tk σ H fun x H1 => tv σ H1 fun y H2 => tPairs r σ H2 fun ps H3 => Q ((x, y) :: ps) H3
abbrev VV : List (V × V) → List (Value × Value) → Prop := Paired fun p q => RelV p.1 q.1 ∧ RelV p.2 q.2
def PPs (X : Cx) (pos : Pos) (keys : List (Option Expr)) (values : List Expr) (trs : List (TE × TE)) : Prop :=
  ∀ (pins : List (Addr × Obj)) (s : Shared) (σ : St) (H : Hp) (Q : List (V × V) → Hp → Prop), Inv X pins σ H s → tPairs trs σ H Q →
    wpAny (model X.prog X.w) X.A (evalPairs (pairTrees keys values X.env pos)) (fun vs s' => ∃ ps H', Inv X pins σ H' s' ∧ VV ps vs ∧ Q ps H') X.xe s
def mergeK (kvs more : List (Key × V)) : List (Key × V) := more.foldl (fun acc kv => putK acc kv.1 kv.2) kvs
/-- {k: v, ..} with keys ints and texts; the new dict stands empty while the pairs are made -/
def tDisp (trs : List (TE × TE)) : TE := fun σ H Q => ∀ p, H p = none → tPairs trs σ (upd H p (.dK [])) fun ps H2 => H2 p = some (.dK []) ∧ ∃ kvs : List (Key × V), ps = kvs.map (fun kv => (kV kv.1, kv.2)) ∧ kvs.length ≤ 15 ∧ Q (.ref p) (upd H2 p (.dK (mergeK [] kvs)))
/-! ### methods -/
/-- a method call o.m(e) of a built-in, with one argument: what must be seen of the text -/
structure M1 (X : Cx) (o : Expr) (m : Str) (apos : Pos) (e : Expr) (cpos : Pos) : Prop where
  base : attributeBase o m X.env (eval o X.env) = eval o X.env
  few : ((backTo cpos (starEach [e] X.env)).all (fun x => !x.1) && (backToKw cpos (keywordEach [] X.env)).all (fun x => x.1.isSome)
    && decide (([e] : List Expr).length + ([] : List Keyword).length + (if ([] : List Keyword).isEmpty then 0 else 1) < 30)) = true
  line : (apos.endLine == cpos.line) = true
  trees : backTo cpos (starEach [e] X.env) = [(false, eval e X.env)]
structure M2 (X : Cx) (o : Expr) (m : Str) (apos : Pos) (e f : Expr) (cpos : Pos) : Prop where
  base : attributeBase o m X.env (eval o X.env) = eval o X.env
  few : ((backTo cpos (starEach [e, f] X.env)).all (fun x => !x.1) && (backToKw cpos (keywordEach [] X.env)).all (fun x => x.1.isSome)
    && decide (([e, f] : List Expr).length + ([] : List Keyword).length + (if ([] : List Keyword).isEmpty then 0 else 1) < 30)) = true
  line : (apos.endLine == cpos.line) = true
  trees : backTo cpos (starEach [e, f] X.env) = [(false, eval e X.env), (false, eval f X.env)]

/-- a is a dict, whatever its keys -/
def IsD (H : Hp) (a : Addr) : Prop := (∃ kvs, Rd H a (.dK kvs)) ∨ ∃ kvs, Rd H a (.dT kvs)
section
variable {X : Cx} {pins : List (Addr × Obj)} {σ : St} {H : Hp} {s : Shared} {a : Addr} {y d : V} {u r : Value} {o : Option V} {A : Around} {E : Value → Shared → Prop}
end

def tDGet1 (td ty : TE) : TE := fun σ H Q => td σ H fun x H1 => ∃ a, x = .ref a ∧ IsD H1 a ∧ ty σ H1 fun y H2 => ∃ o, DGet H2 a y o ∧ Q (o.getD .non) H2
def tDGet2 (td ty tx : TE) : TE := fun σ H Q => td σ H fun x H1 => ∃ a, x = .ref a ∧ IsD H1 a ∧ ty σ H1 fun y H2 => tx σ H2 fun z H3 => ∃ o, DGet H3 a y o ∧ Q (o.getD z) H3
/-- d.pop(k): there; d.pop(k, x): there or not -/
def tDPop1 (td ty : TE) : TE := fun σ H Q => td σ H fun x H1 => ∃ a, x = .ref a ∧ IsD H1 a ∧ ty σ H1 fun y H2 => ∃ kvs k v, H2 a = some (.dK kvs) ∧ y = kV k ∧ valV kvs k = some v ∧ Q v (upd H2 a (.dK (dropK kvs k)))
def tDPop2 (td ty tx : TE) : TE := fun σ H Q => td σ H fun x H1 => ∃ a, x = .ref a ∧ IsD H1 a ∧ ty σ H1 fun y H2 => tx σ H2 fun z H3 => ∃ kvs k, H3 a = some (.dK kvs) ∧ y = kV k ∧
  (∀ v, valV kvs k = some v → Q v (upd H3 a (.dK (dropK kvs k)))) ∧ (valV kvs k = none → Q z H3)
section
variable {X : Cx} {o e f : Expr} {apos cpos : Pos} {td ty tx : TE}
end

/-! ### dict(d): a copy -/
section
variable {X : Cx} {pins : List (Addr × Obj)} {σ : St} {H : Hp} {s : Shared} {a : Addr} {kvs : List (Key × V)} {A : Around} {E : Value → Shared → Prop}
end


section
variable {X : Cx} {pins : List (Addr × Obj)} {σ : St} {H : Hp} {s : Shared} {a : Addr} {y : V} {u : Value} {A : Around} {E : Value → Shared → Prop}
end
end L2

namespace Att
open PySem PySem.W PySem.Calls PyProof.Rows

/-! ### the script -/
theorem ints_of_wellAll {P : Params} {h : Heap} : ∀ (ns : List Int) (vs : List Value), WellAll P h vs (ns.map WData.int) → IntsAre vs ns := by
  intro ns
  induction ns with
  | nil =>
    intro vs w
    rw [List.map_nil] at w
    cases w
    exact .nil
  | cons n ns ih =>
    intro vs w
    rw [List.map_cons] at w
    cases w with
    | cons a b =>
      cases a
      exact .cons _ _ (ih _ b)

theorem script_of {l : OpenLaw} {n : Nat} (hn : l.most = some n) {P : Params} {h : Heap} {args : List WData} {vals : List Value}
    (hpre : l.row.toRowW.claim.pre args = true) (hwl : WellAll P h vals args) :
    ∃ a vs ns, vals = [Value.ref a] ∧ args = [WData.list (ns.map WData.int)] ∧ h.get? a = some { cls := .type "list", data := .seq vs.toArray } ∧ IntsAre vs ns ∧ ns.length ≤ n := by
  have hsh : WShape.hasAll [] args [.list .int] = true := (pre_splitW hpre).1
  have hc : l.pre.holds [] { args := args } = true := (pre_splitW hpre).2
  obtain ⟨d, r, rfl, h1, h2⟩ := hasAllW_cons hsh
  obtain rfl := hasAllW_nil h2
  obtain ⟨xs, rfl, h3⟩ := hasW_list h1
  obtain ⟨ns, rfl⟩ := items_int h3
  have hlen : ns.length ≤ n := by
    unfold OpenLaw.pre at hc
    have h4 : (WTm.not (.lt (.lit (.int (n : Int))) (.len (.arg 0)))).holds [] { args := [.list (ns.map .int)] } = true := by
      have h4 := (holds_andW hc).1
      rw [hn] at h4
      exact h4
    have h5 := condW_of h4 (w_not (w_lt w_lit (w_len_list (w_arg rfl))))
    rw [List.length_map] at h5
    refine Nat.le_of_not_lt fun q => ?_
    have q' : (n : Int) < ((ns.length : Nat) : Int) := by omega
    first
      | (rw [decide_eq_true q'] at h5; exact absurd h5 (by decide))
      | (simp at h5; omega)
  cases hwl with
  | cons w1 w2 =>
    cases w2
    cases w1 with
    | list ho hall => exact ⟨_, _, ns, rfl, rfl, ho, ints_of_wellAll ns _ hall, hlen⟩

theorem post_true (l : OpenLaw) (args : List WData) : l.row.toRowW.claim.post args (.bool true) args = true :=
  postW_of (r := l.row.toRowW) (X := (true == true))
    (show WShape.has [] (.bool true) .bool = true by first | rfl | decide | simp [WShape.has, WShape.arms, WShape.armsAll])
    (show (WTm.eq .res (.lit (.bool true))).value [] { args := args, res := some (.bool true), after := args } = some (.bool (true == true)) from w_eq_bool (w_res rfl) w_lit) rfl

/-! ### the attachment: holds_open's last premise (the goal 'hc' behind k_head) from a wpAny of the law's body -/
/-! ### rules over ANY heap (no ledger) from facts about the written part K: the library's own take a ledger (News) for what they write -/
section
variable {prog : Program} {w : World} {A : Around} {E : Value → Shared → Prop} {s : Shared} {K : Frag}

/-! the whole heap as the ledger: makes every rule that writes through a ledger a rule over any heap -/
def noObjs (h : Heap) : Heap := { h with objs := #[] }
def ledger (h : Heap) (L d : Addr) : List (Addr × Obj) := (List.range h.objs.size).filterMap fun a => if a = L ∨ a = d then none else (h.get? a).map fun o => (a, o)
end
end Att

namespace L2
open PySem PySem.Spec PyProof.Rows

theorem vals_ints : ∀ {vs : List Value} {ns : List Int}, IntsAre vs ns → Vals (ns.map V.int) vs
  | _, _, .nil => .nil
  | _, _, .cons n t h => .cons ⟨t, rfl⟩ (vals_ints h)

/-- nothing is tracked but the script, known to the object (or it is an object of the module) -/
def Only (H : Hp) : Prop := ∀ b, H b = none ∨ ∃ o xs, H b = some (.frz o (.lst xs))

/-- THE HEAD: the law's promise, at the heap behind the top. F, the promise of the law's def, may use that base is part of the heap (so K.In base, base.Ns mainGlobals mg stand in Mod) -/
theorem law_call {P : Program} {w : World} {K : PySem.W.Frag} {mg mb : Str → Option Value} {CX : CXT} {k : Nat} {fa a : Addr} {fd : FuncData} {x : Str} {sp : Sp} {s₁ : Shared} {vs : List Value} {ns : List Int}
    (KX : K.In s₁.heap) (hns : s₁.heap.Ns mainGlobals mg) (hb : s₁.heap.Ns builtinsNs mb) (hbb : ∀ x : Str, x ≠ "__name__" → mb x = bootBuiltins x) (hlim : s₁.heap.NoLimit) (hg : s₁.gens = #[])
    (ha : s₁.heap.get? a = some { cls := .type "list", data := .seq vs.toArray }) (hi : IntsAre vs ns) (hl : ns.length ≤ sizeLine) (hr : Room k callerA)
    (F : ∀ base : Heap, K.In base → base.Ns mainGlobals mg → FnOk P w K mg base CX k fa fd [x] sp) (hbind : ∀ (s : Shared) (u : Value), BindsTo s fd ⟨[u], []⟩ [(x, u)])
    (hsp : ∀ H : Hp, Only H → SqL K H a (ns.map V.int) → sp [.ref a] H (fun v _ => v = .bl true) fun _ _ _ => False)
    (hCX : ∀ H e s', CX [] H s₁ (fun _ _ _ => False) e s' → False) :
    codeAny (model P w) callerA (.call (.ref fa) ⟨[.ref a], []⟩) (fun r s' => r = .ok (.ret (.bool true)) ∧ OldK s₁.heap s'.heap ∧ s'.os = s₁.os ∧ AllBare s'.gens) s₁ := by
  have rv := vals_ints hi
  have lenV := hi.length
  -- from an abstract heap in which nothing but the script may be tracked
  have core : ∀ H : Hp, Only H → SqL K H a (ns.map V.int) → HOk P w H s₁.heap → (∀ b, H b ≠ none → b = a) → (H a ≠ none → K.lookup a = none) →
      codeAny (model P w) callerA (.call (.ref fa) ⟨[.ref a], []⟩) (fun r s' => r = .ok (.ret (.bool true)) ∧ OldK s₁.heap s'.heap ∧ s'.os = s₁.os ∧ AllBare s'.gens) s₁ := by
    intro H hO hS hok hA hK
    have base_of : ∀ {b : Addr} {o : Obj}, s₁.heap.get? b = some o → H b = none → (hidT s₁.heap H).get? b = some o := fun e n => hidT_get e n
    have noA : ∀ {b : Addr} {o : Obj} {es : Array DictEntry} {ep : Nat}, s₁.heap.get? b = some o → o.data = .dict es ep → H b = none := fun {b o es ep} e d => by
      cases q : H b with
      | none => rfl
      | some u =>
        have e' : b = a := hA b (by rw [q]; simp)
        subst e'
        rw [ha] at e; cases e
        have d' : Data.seq vs.toArray _ = Data.dict es ep := d
        cases d'
    have nsK : ∀ {b : Addr} {m : Str → Option Value}, s₁.heap.Ns b m → (hidT s₁.heap H).Ns b m := fun {b m} ⟨o, es, ep, e, d, r⟩ => ⟨o, es, ep, base_of e (noA e d), d, r⟩
    have hKb : K.In (hidT s₁.heap H) := fun b o e => base_of (KX b o e) (by
      cases q : H b with
      | none => rfl
      | some u =>
        have e' : b = a := hA b (by rw [q]; simp)
        subst e'
        rw [hK (by rw [q]; simp)] at e; cases e)
    have hM : Mod K mg (hidT s₁.heap H) := ⟨hKb, nsK hns, ⟨mb, nsK hb, hbb⟩, let ⟨mc, h1, h2⟩ := hlim; ⟨mc, nsK h1, h2⟩⟩
    have e0 : Env0 P w K mg (hidT s₁.heap H) callerA [] s₁ H := ⟨rfl, hM, fun b o e => of_hidT e, Nat.le_of_eq (hidT_size _ _), trivial, fun b hb => absurd (show b ∈ ([] : List Addr) from hb) (by simp), hok, .of_eq hg⟩
    refine codeAny_mono ((F _ hKb (nsK hns)).run callerA [] s₁ H ⟨[.ref a], []⟩ [.ref a] [.ref a] _ _ hr e0 (hbind s₁ (.ref a)) (.cons rfl .nil) (hsp H hO hS)) fun r s' h => ?_
    cases r with
    | error e => exact (hCX H e s' h).elim
    | ok fl =>
      cases fl with
      | next => exact False.elim h
      | brk => exact False.elim h
      | cont => exact False.elim h
      | ret u =>
        obtain ⟨v, H', os, bare, un, hok', r', q⟩ := h
        have q' : v = .bl true := q
        subst q'
        obtain rfl : u = Value.bool true := r'
        refine ⟨rfl, OldK.of_keep fun b o e => ?_, os, bare⟩
        cases q : H b with
        | none => exact un.keep b o e q (by intro z; exact absurd (show b ∈ ([] : List Addr) from z) (by simp)) (by simp)
        | some u =>
          rcases hO b with z | ⟨ob, xs, z⟩
          · rw [q] at z; cases z
          · have z2 := un.frzs b ob _ z
            obtain ⟨e1, _⟩ := hok b _ z
            obtain ⟨e2, _⟩ := hok' b _ z2
            rw [e] at e1; cases e1
            exact e2
  cases hk : K.lookup a with
  | some o =>
    -- the script is one of the module's own objects
    have e := KX a o hk
    rw [ha] at e
    cases e
    refine core (fun _ => none) (fun _ => .inl rfl) (.inr ⟨_, vs.toArray, _, hk, rfl, rfl, rfl, by rw [List.size_toArray, lenV]; exact hl, by simpa using rv⟩) (fun b u z => by have z' : (none : Option HO) = some u := z; cases z') (fun b z => absurd rfl z) fun z => absurd rfl z
  | none =>
    refine core (fun b => if b = a then some (.frz { cls := .type "list", data := .seq vs.toArray } (.lst (ns.map V.int))) else none) (fun b => ?_) (.inl (.inr ⟨{ cls := .type "list", data := .seq vs.toArray }, if_pos rfl⟩)) (fun b u z => ?_) (fun b z => ?_) fun _ => hk
    · by_cases hb : b = a
      · exact .inr ⟨_, _, if_pos hb⟩
      · exact .inl (if_neg hb)
    · by_cases hb : b = a
      · have z' := (if_pos hb).symm.trans z
        cases z'
        subst hb
        exact ⟨ha, by rw [List.length_map]; exact hl, vs, _, rv, ha⟩
      · have z' := (if_neg hb).symm.trans z
        cases z'
    · by_cases hb : b = a
      · exact hb
      · exact absurd (if_neg hb) z
end L2

namespace L2
open PySem PySem.Spec PyProof.Rows

abbrev KOf {K : PySem.W.Frag} {h : Heap} (_ : K.In h) : PySem.W.Frag := K

end L2

/- THE LAST THEOREM (shape; LID, My.* are yours):
   My.Adr: a structure of the addresses that your layer names (classes, functions); My.Txt K t: a structure (Prop) of the equations over K;
   My.txt_mk : {K} {implicit addresses ..} (e1 : nsIn K mainGlobals "law" = some (some (.ref f))) (e2 : K.lookup f = some ⟨oc, od, .func (fnOf "law" "law" params body scope dV kV doc pm an cdv ct), sl⟩) (e3 : codeIn K cdv "law" = true) .. : ∃ t, My.Txt K t

set_option maxRecDepth 100000 in
set_option maxHeartbeats 0 in
theorem PySem.Challenge.cw_LID_holds : PySem.Challenge.rw_LID.Holds := by
  w_on; o_law; k_head; (case hw => w_witness2)
  k_fill
  refine L2.walk_of (l := PySem.Challenge.rw_LID) (n := 63) (k := 40) (x := "script") (CX := fun w => ..) (sp := fun _ => My.sp_law) rfl (by decide) rfl ⟨rfl, by decide, by decide⟩ (fun w h Y => PySem.W.kIn_of Y) ?F ?S ?C
  case F =>
    intro w mg fa h KX G hmg
    have T : ∃ t, My.Txt (L2.KOf KX) t := by
      dsimp only [L2.KOf]                          -- K must stand as «<heap const> w.params» for k_is
      refine' My.txt_mk ?e1 ?e2 ?e3 ..
      (case e1 => PySem.W.k_is)                    -- in the order: a name -> its address -> its object -> its parts
      (case e2 => PySem.W.k_is)
      ..
    obtain ⟨t, T⟩ := T
    have e0 := hmg.symm.trans (PySem.W.mg_of KX G T.law)
    cases e0                                       -- fa is the law's own address
    exact ⟨_, fun s u => .of_eq rfl, fun base kb nb => My.law_fn T kb nb⟩     -- if «.of_eq rfl» comes too early: refine' ⟨_, ?b, fun base kb nb => My.law_fn T kb nb⟩; exact fun s u => .of_eq rfl
  case S => exact fun w H a ns hl hO hS => ..
  case C => exact ..
(the tactic k_is has no namespace: write k_is) -/

/-! SHORT WORDS over the layer: a def of the text, its body, what a loop and a test want. -/
namespace L2
open PySem PySem.Spec PyProof.Rows

/-! ### the text by places -/
/-- the j-th statement of a class's body -/
def inClass (s : Stmt) (j : Nat) : Stmt := match s with
  | .ClassDef _ _ _ body _ _ _ _ _ _ _ => body.getD j (.Pass ⟨0, 0, 0, 0⟩)
  | _ => .Pass ⟨0, 0, 0, 0⟩
def defArgs (s : Stmt) : Arguments := match s with
  | .FunctionDef _ a _ _ _ _ _ _ _ _ => a
  | _ => { posonlyargs := [], args := [], vararg := none, kwonlyargs := [], kw_defaults := [], kwarg := none, defaults := [] }
def defBody (s : Stmt) : List Stmt := match s with
  | .FunctionDef _ _ b _ _ _ _ _ _ _ => b
  | _ => []
def defScope (s : Stmt) : Scope := match s with
  | .FunctionDef _ _ _ _ _ _ sc _ _ _ => sc
  | _ => { kind := .function, names := [], isGenerator := false, isCoroutine := false }

/-! ### no exception leaves a def -/
abbrev CX0 : CXT := fun _ _ _ _ _ _ => False
abbrev E0 : XK := fun _ _ _ => False
theorem pass0 {X : Cx} : Passes CX0 X E0 := fun _ _ _ _ _ _ _ h => h.elim

/-! ### a def (or method) of the text as it stands behind the top -/
structure Fun (K : PySem.W.Frag) (x qual : Str) (st : Stmt) (f : Addr) (fd : FuncData) : Prop where
  ex : ∃ (oc : Value) (od : Option Addr) (kV doc pm : Value) (an : Option Addr) (cdv ct : Value) (osl : Array (Option Value)),
    fd = PySem.W.fnOf x qual (defArgs st) (defBody st) (defScope st) .none kV doc pm an cdv ct ∧ K.lookup f = some ⟨oc, od, .func fd, osl⟩ ∧ PySem.W.codeIn K cdv qual = true
  kp : PySem.W.keepIn K (.ref f) = true
section
variable {P : Program} {w : World} {K : PySem.W.Frag} {mg : Str → Option Value} {base : Heap}
/-- THE RULE for a def: its body as a term of rules, and the reading of that term -/
theorem Fun.ok {x qual : Str} {st : Stmt} {f : Addr} {fd : FuncData} {N ps : List Str} {k : Nat} {sp : Sp} (F : Fun K x qual st f fd) (S : FnScope N ps (defScope st)) (len : ∀ vs H Q E, sp vs H Q E → vs.length = ps.length)
    (hbody : ∀ (cdv : Value) (A : Around) (outer : List Env) (s : Shared) (H : Hp) (vs : List V) (Q : VK) (E : XK), Room k (A.deeper (envOfC qual (defScope st) s.heap.objs.size f cdv)) → sp vs H Q E →
      ∃ t, PSs (cxOf CX0 P w K mg base N qual (defScope st) f cdv A outer s H E).nox (defBody st) t ∧ t { nx := fun _ H' => Q .non H', rt := Q } (start N vs) H) : FnOk P w K mg base CX0 (k + 1) f fd ps sp := by
  obtain ⟨oc, od, kV, doc, pm, an, cdv, ct, osl, rfl, lk, hcd⟩ := F.ex
  refine fn_of lk hcd S len fun A outer s H vs Q E hr hsp => ?_
  obtain ⟨t, h, q⟩ := hbody cdv A outer s H vs Q E hr hsp
  exact ⟨t, h.nox, q⟩
/-- how its arguments bind (no defaults): h is «fun _ _ _ _ _ _ us hl => match us, hl with | [_, _], _ => rfl», one _ a parameter -/
theorem Fun.binds {x qual : Str} {st : Stmt} {f : Addr} {fd : FuncData} {ps : List Str} (F : Fun K x qual st f fd)
    (h : ∀ (kV doc pm : Value) (an : Option Addr) (cdv ct : Value) (us : List Value), us.length = ps.length → bindArgs (PySem.W.fnOf x qual (defArgs st) (defBody st) (defScope st) .none kV doc pm an cdv ct) ⟨us, []⟩ = pure (ps.zip us)) : Binds K fd ps [] := by
  obtain ⟨oc, od, kV, doc, pm, an, cdv, ct, osl, rfl, lk, hcd⟩ := F.ex
  exact .all (h kV doc pm an cdv ct)
theorem fun_mk {x qual : Str} {st : Stmt} {f : Addr} {oc : Value} {od an : Option Addr} {osl : Array (Option Value)} {kV doc pm cdv ct : Value} (l : K.lookup f = some ⟨oc, od, .func (PySem.W.fnOf x qual (defArgs st) (defBody st) (defScope st) .none kV doc pm an cdv ct), osl⟩)
    (c : PySem.W.codeIn K cdv qual = true) (k : PySem.W.keepIn K (.ref f) = true) : Fun K x qual st f (PySem.W.fnOf x qual (defArgs st) (defBody st) (defScope st) .none kV doc pm an cdv ct) := ⟨⟨oc, od, kV, doc, pm, an, cdv, ct, osl, rfl, l, c⟩, k⟩
end
/-! ### expressions in short: the name that stands in the i-th slot -/
section
variable {X : Cx}
end

/-! ### tests -/
/-! ### heaps -/
/-- all that was tracked is as it was -/
def Same (H H' : Hp) : Prop := ∀ b o, H b = some o → H' b = some o
theorem Same.refl (H : Hp) : Same H H := fun _ _ h => h
theorem Same.trans {H H1 H2 : Hp} (a : Same H H1) (b : Same H1 H2) : Same H H2 := fun c o h => b c o (a c o h)
theorem Same.free {H H' : Hp} (e : Same H H') {l : Addr} (h : H' l = Option.none) : H l = Option.none := by
  cases q : H l with
  | none => rfl
  | some o =>
    rw [e l o q] at h
    cases h
/-! ### a dict's pairs: keys that differ -/
section
variable {κ : Type} [DecidableEq κ]
end
end L2

set_option Elab.async false
set_option linter.all false
set_option maxRecDepth 100000
set_option maxHeartbeats 4000000
namespace M
open PySem PySem.Spec L2
open PyProof.Rows hiding St

/-! ### plain data -/
inductive D where
  | non | bl (b : Bool) | int (i : Int) | str (x : Str)
  | tup (ds : List D) | lst (ds : List D) | scr (ds : List D) | dic (ks : List Key) (vs : List D) | dit (ks : List (List Key)) (vs : List D)

mutual
def D.imm : D → Bool
  | .non => true
  | .bl _ => true
  | .int _ => true
  | .str _ => true
  | .tup ds => D.imms ds
  | .lst _ => false
  | .scr _ => false
  | .dic _ _ => false
  | .dit _ _ => false
def D.imms : List D → Bool
  | [] => true
  | d :: ds => D.imm d && D.imms ds
end

inductive Res (α : Type) where
  | ok (a : α)
  | exc (c : Str)
  | stuck
def Res.bind {α β : Type} (r : Res α) (f : α → Res β) : Res β :=
  match r with
  | .ok a => f a
  | .exc c => .exc c
  | .stuck => .stuck
instance : Monad Res where
  pure := Res.ok
  bind := Res.bind
theorem bind_inv {α β : Type} {r : Res α} {f : α → Res β} {b : β} (h : (r >>= f) = .ok b) : ∃ a, r = .ok a ∧ f a = .ok b := by
  cases r with
  | ok a => exact ⟨a, rfl, h⟩
  | exc c => cases h
  | stuck => cases h
/-- a condition that must hold -/
def must {α : Type} (c : Prop) [Decidable c] (r : Res α) : Res α := if c then r else .stuck
theorem must_inv {α : Type} {c : Prop} [Decidable c] {r : Res α} {a : α} (h : must c r = .ok a) : c ∧ r = .ok a := by
  unfold must at h
  by_cases hc : c
  · rw [if_pos hc] at h; exact ⟨hc, h⟩
  · rw [if_neg hc] at h; cases h
theorem must_pos {α : Type} {c : Prop} [Decidable c] {r : Res α} (h : c) : must c r = r := if_pos h

/-- a list that nobody changes: the script, a list of the module -/
def LsK (K : PySem.W.Frag) (H : Hp) (a : Addr) (xs : List V) : Prop :=
  (∃ o, H a = some (.frz o (.lst xs))) ∨
    ∃ (o : Obj) (its : Array Value) (n : Nat), K.lookup a = some o ∧ o.cls = .type "list" ∧ o.dict = none ∧ o.data = .seq its n ∧ its.size ≤ sizeLine ∧ Vals xs its.toList
theorem LsK.sql {K : PySem.W.Frag} {H : Hp} {a : Addr} {xs : List V} (h : LsK K H a xs) : SqL K H a xs := by
  rcases h with h | h
  · exact .inl (.inr h)
  · exact .inr h

mutual
/-- v stands for d in H; every object in it that may change is of A, and none lies within itself -/
inductive Rep (K : PySem.W.Frag) : (Addr → Prop) → Hp → V → D → Prop where
  | non {A H} : Rep K A H .non .non
  | bl {A H} (b : Bool) : Rep K A H (.bl b) (.bl b)
  | int {A H} (i : Int) : Rep K A H (.int i) (.int i)
  | str {A H} (x : Str) : x.length ≤ sizeLine → Rep K A H (.str x) (.str x)
  | tup {A H} {a : Addr} {xs : List V} {ds : List D} : H a = some (.tup xs) → Reps K A H xs ds → Rep K A H (.ref a) (.tup ds)
  | lst {A H} {a : Addr} {xs : List V} {ds : List D} : H a = some (.lst xs) → A a → Reps K (fun c => A c ∧ c ≠ a) H xs ds → Rep K A H (.ref a) (.lst ds)
  | lsk {A H} {a : Addr} {xs : List V} {ds : List D} : LsK K H a xs → Reps K A H xs ds → Rep K A H (.ref a) (.scr ds)
  | dic {A H} {a : Addr} {kvs : List (Key × V)} {vs : List V} {ks : List Key} {ds : List D} : H a = some (.dK kvs) → A a → kvs.map (·.1) = ks → kvs.map (·.2) = vs → Reps K (fun c => A c ∧ c ≠ a) H vs ds → Rep K A H (.ref a) (.dic ks ds)
  | dit {A H} {a : Addr} {kvs : List ((List Key) × V)} {vs : List V} {ks : List (List Key)} {ds : List D} : H a = some (.dT kvs) → A a → kvs.map (·.1) = ks → kvs.map (·.2) = vs → Reps K (fun c => A c ∧ c ≠ a) H vs ds → Rep K A H (.ref a) (.dit ks ds)
inductive Reps (K : PySem.W.Frag) : (Addr → Prop) → Hp → List V → List D → Prop where
  | nil {A H} : Reps K A H [] []
  | cons {A H} {v : V} {d : D} {vs : List V} {ds : List D} : Rep K A H v d → Reps K A H vs ds → Reps K A H (v :: vs) (d :: ds)
end

/-- what may change in the heap without the data being touched -/
def Stay (A : Addr → Prop) (H H' : Hp) : Prop := ∀ a o, H a = some o → (Mut (some o) → A a) → H' a = some o
theorem Stay.mono {A B : Addr → Prop} {H H' : Hp} (h : Stay A H H') (w : ∀ a, B a → A a) : Stay B H H' := fun a o e m => h a o e fun z => w a (m z)
section
variable {K : PySem.W.Frag}
theorem LsK.stay {A : Addr → Prop} {H H' : Hp} {a : Addr} {xs : List V} (h : LsK K H a xs) (st : Stay A H H') : LsK K H' a xs := by
  rcases h with ⟨o, e⟩ | h
  · exact .inl ⟨o, st a _ e (fun z => z.elim)⟩
  · exact .inr h
mutual
theorem Rep.stay : ∀ {A A' : Addr → Prop} {H H' : Hp} {v : V} {d : D}, Rep K A H v d → Stay A H H' → (∀ a, A a → A' a) → Rep K A' H' v d
  | _, _, _, _, _, _, .non, _, _ => .non
  | _, _, _, _, _, _, .bl b, _, _ => .bl b
  | _, _, _, _, _, _, .int i, _, _ => .int i
  | _, _, _, _, _, _, .str x h, _, _ => .str x h
  | _, _, _, _, _, _, .tup e r, st, w => .tup (st _ _ e (fun z => z.elim)) (Reps.stay r st w)
  | _, _, _, _, _, _, .lst e a r, st, w => .lst (st _ _ e (fun _ => a)) (w _ a) (Reps.stay r (st.mono fun _ z => z.1) fun _ z => ⟨w _ z.1, z.2⟩)
  | _, _, _, _, _, _, .lsk e r, st, w => .lsk (e.stay st) (Reps.stay r st w)
  | _, _, _, _, _, _, .dic e a k1 k2 r, st, w => .dic (st _ _ e (fun _ => a)) (w _ a) k1 k2 (Reps.stay r (st.mono fun _ z => z.1) fun _ z => ⟨w _ z.1, z.2⟩)
  | _, _, _, _, _, _, .dit e a k1 k2 r, st, w => .dit (st _ _ e (fun _ => a)) (w _ a) k1 k2 (Reps.stay r (st.mono fun _ z => z.1) fun _ z => ⟨w _ z.1, z.2⟩)
theorem Reps.stay : ∀ {A A' : Addr → Prop} {H H' : Hp} {vs : List V} {ds : List D}, Reps K A H vs ds → Stay A H H' → (∀ a, A a → A' a) → Reps K A' H' vs ds
  | _, _, _, _, _, _, .nil, _, _ => .nil
  | _, _, _, _, _, _, .cons h t, st, w => .cons (Rep.stay h st w) (Reps.stay t st w)
end
theorem Same.stay {A : Addr → Prop} {H H' : Hp} (h : Same H H') : Stay A H H' := fun a o e _ => h a o e
variable {A A' : Addr → Prop} {H H' : Hp}
theorem Rep.grow {v : V} {d : D} (r : Rep K A H v d) (h : Same H H') : Rep K A H' v d := r.stay (Same.stay h) fun _ z => z
theorem Reps.grow {v : List V} {d : List D} (r : Reps K A H v d) (h : Same H H') : Reps K A H' v d := r.stay (Same.stay h) fun _ z => z
theorem Rep.weak {v : V} {d : D} (r : Rep K A H v d) (w : ∀ a, A a → A' a) : Rep K A' H v d := r.stay (fun _ _ e _ => e) w
theorem Reps.weak {v : List V} {d : List D} (r : Reps K A H v d) (w : ∀ a, A a → A' a) : Reps K A' H v d := r.stay (fun _ _ e _ => e) w
mutual
theorem Rep.imm : ∀ {A A' : Addr → Prop} {H : Hp} {v : V} {d : D}, Rep K A H v d → d.imm = true → Rep K A' H v d
  | _, _, _, _, _, .non, _ => .non
  | _, _, _, _, _, .bl b, _ => .bl b
  | _, _, _, _, _, .int i, _ => .int i
  | _, _, _, _, _, .str x h, _ => .str x h
  | _, _, _, _, _, .tup e r, i => .tup e (Reps.imm r (by simpa only [D.imm] using i))
  | _, _, _, _, _, .lst _ _ _, i => by simp [D.imm] at i
  | _, _, _, _, _, .lsk _ _, i => by simp [D.imm] at i
  | _, _, _, _, _, .dic _ _ _ _ _, i => by simp [D.imm] at i
  | _, _, _, _, _, .dit _ _ _ _ _, i => by simp [D.imm] at i
theorem Reps.imm : ∀ {A A' : Addr → Prop} {H : Hp} {vs : List V} {ds : List D}, Reps K A H vs ds → D.imms ds = true → Reps K A' H vs ds
  | _, _, _, _, _, .nil, _ => .nil
  | _, _, _, _, _, .cons h t, i => by
    simp only [D.imms, Bool.and_eq_true] at i
    exact .cons (Rep.imm h i.1) (Reps.imm t i.2)
end
theorem Reps.length : ∀ {A : Addr → Prop} {H : Hp} {vs : List V} {ds : List D}, Reps K A H vs ds → vs.length = ds.length
  | _, _, _, _, .nil => rfl
  | _, _, _, _, .cons _ t => by simp [Reps.length t]
theorem Reps.get : ∀ {A : Addr → Prop} {H : Hp} {vs : List V} {ds : List D} {i : Nat} {d : D}, Reps K A H vs ds → ds[i]? = some d → ∃ v, vs[i]? = some v ∧ Rep K A H v d
  | _, _, _, _, _, _, .nil, e => by simp at e
  | _, _, _, _, 0, _, .cons r _, e => by simp at e; subst e; exact ⟨_, rfl, r⟩
  | _, _, _, _, i + 1, d, .cons _ t, e => by
    obtain ⟨v, h1, h2⟩ := Reps.get (i := i) (d := d) t (by simpa using e)
    exact ⟨v, by simpa using h1, h2⟩
theorem Reps.get' : ∀ {A : Addr → Prop} {H : Hp} {vs : List V} {ds : List D} {i : Nat} {v : V}, Reps K A H vs ds → vs[i]? = some v → ∃ d, ds[i]? = some d ∧ Rep K A H v d
  | _, _, _, _, _, _, .nil, e => by simp at e
  | _, _, _, _, 0, _, .cons r _, e => by simp at e; subst e; exact ⟨_, rfl, r⟩
  | _, _, _, _, i + 1, d, .cons _ t, e => by
    obtain ⟨v, h1, h2⟩ := Reps.get' (i := i) t (by simpa using e)
    exact ⟨v, by simpa using h1, h2⟩
theorem Reps.append : ∀ {A : Addr → Prop} {H : Hp} {vs ws : List V} {ds es : List D}, Reps K A H vs ds → Reps K A H ws es → Reps K A H (vs ++ ws) (ds ++ es)
  | _, _, _, _, _, _, .nil, s => s
  | _, _, _, _, _, _, .cons r t, s => .cons r (Reps.append t s)
theorem Reps.take : ∀ {A : Addr → Prop} {H : Hp} {vs : List V} {ds : List D} (n : Nat), Reps K A H vs ds → Reps K A H (vs.take n) (ds.take n)
  | _, _, _, _, 0, _ => .nil
  | _, _, _, _, _ + 1, .nil => .nil
  | _, _, _, _, n + 1, .cons r t => .cons r (Reps.take n t)
theorem Reps.drop : ∀ {A : Addr → Prop} {H : Hp} {vs : List V} {ds : List D} (n : Nat), Reps K A H vs ds → Reps K A H (vs.drop n) (ds.drop n)
  | _, _, _, _, 0, r => r
  | _, _, _, _, _ + 1, .nil => .nil
  | _, _, _, _, n + 1, .cons _ t => Reps.drop n t
theorem Rep.lstE {v : V} {ds : List D} (r : Rep K A H v (.lst ds)) : ∃ a xs, v = .ref a ∧ H a = some (.lst xs) ∧ A a ∧ Reps K (fun c => A c ∧ c ≠ a) H xs ds := by
  cases r with
  | lst e h r => exact ⟨_, _, rfl, e, h, r⟩
theorem Rep.scrE {v : V} {ds : List D} (r : Rep K A H v (.scr ds)) : ∃ a xs, v = .ref a ∧ LsK K H a xs ∧ Reps K A H xs ds := by
  cases r with
  | lsk e r => exact ⟨_, _, rfl, e, r⟩
theorem Rep.tupE {v : V} {ds : List D} (r : Rep K A H v (.tup ds)) : ∃ a xs, v = .ref a ∧ H a = some (.tup xs) ∧ Reps K A H xs ds := by
  cases r with
  | tup e r => exact ⟨_, _, rfl, e, r⟩
theorem Rep.intE {v : V} {i : Int} (r : Rep K A H v (.int i)) : v = .int i := by cases r; rfl
theorem Rep.blE {v : V} {b : Bool} (r : Rep K A H v (.bl b)) : v = .bl b := by cases r; rfl
theorem Rep.strE {v : V} {x : Str} (r : Rep K A H v (.str x)) : v = .str x ∧ x.length ≤ sizeLine := by cases r; exact ⟨rfl, by assumption⟩
theorem Rep.nonE {v : V} (r : Rep K A H v .non) : v = .non := by cases r; rfl
theorem Reps.low {a : Addr} {vs : List V} {ds : List D} (r : Reps K (fun c => A c ∧ c ≠ a) H vs ds) : Reps K A H vs ds := r.weak fun _ z => z.1
mutual
theorem Rep.inDom : ∀ {A : Addr → Prop} {H : Hp} {v : V} {d : D}, Rep K A H v d → Rep K (fun c => A c ∧ H c ≠ none) H v d
  | _, _, _, _, .non => .non
  | _, _, _, _, .bl b => .bl b
  | _, _, _, _, .int i => .int i
  | _, _, _, _, .str x h => .str x h
  | _, _, _, _, .tup e r => .tup e (Reps.inDom r)
  | _, _, _, _, .lst e a r => .lst e ⟨a, by rw [e]; simp⟩ ((Reps.inDom r).weak fun _ z => ⟨⟨z.1.1, z.2⟩, z.1.2⟩)
  | _, _, _, _, .lsk e r => .lsk e (Reps.inDom r)
  | _, _, _, _, .dic e a k1 k2 r => .dic e ⟨a, by rw [e]; simp⟩ k1 k2 ((Reps.inDom r).weak fun _ z => ⟨⟨z.1.1, z.2⟩, z.1.2⟩)
  | _, _, _, _, .dit e a k1 k2 r => .dit e ⟨a, by rw [e]; simp⟩ k1 k2 ((Reps.inDom r).weak fun _ z => ⟨⟨z.1.1, z.2⟩, z.1.2⟩)
theorem Reps.inDom : ∀ {A : Addr → Prop} {H : Hp} {vs : List V} {ds : List D}, Reps K A H vs ds → Reps K (fun c => A c ∧ H c ≠ none) H vs ds
  | _, _, _, _, .nil => .nil
  | _, _, _, _, .cons h t => .cons (Rep.inDom h) (Reps.inDom t)
end
theorem Same.upd {H : Hp} {p : Addr} {o : HO} (h : H p = none) : Same H (L2.upd H p o) := fun b u e => by rw [upd_ne (ne_of_none e h)]; exact e
/-- things that are there, in a list that is laid -/
theorem Reps.laid {p : Addr} {o : HO} {vs : List V} {ds : List D} (r : Reps K A H vs ds) (hp : H p = none) : Reps K (fun c => A c ∧ c ≠ p) (L2.upd H p o) vs ds :=
  (r.inDom.grow (Same.upd hp)).weak fun c z => ⟨z.1, fun e => z.2 (by rw [e]; exact hp)⟩
end

/-! ### slots -/
inductive Slot where
  | un
  | own (d : D)
  | shr (d : D)
abbrev Sl := List Slot
def Owned (env : Sl) (σ : St) (a : Addr) : Prop := ∃ (i : Nat) (d : D), env[i]? = some (.own d) ∧ σ[i]? = some (some (.ref a))
abbrev NotO (env : Sl) (σ : St) : Addr → Prop := fun a => ¬ Owned env σ a
/-- what a slot may hold: nothing that is owned, and of G alone -/
abbrev Sf (G : Addr → Prop) (env : Sl) (σ : St) : Addr → Prop := fun a => ¬ Owned env σ a ∧ G a
inductive Top (K : PySem.W.Frag) (A : Addr → Prop) (H : Hp) (a : Addr) : D → Prop where
  | lst {xs : List V} {ds : List D} : H a = some (.lst xs) → Reps K A H xs ds → Top K A H a (.lst ds)
  | dic {kvs : List (Key × V)} {vs : List V} {ks : List Key} {ds : List D} : H a = some (.dK kvs) → kvs.map (·.1) = ks → kvs.map (·.2) = vs → Reps K A H vs ds → Top K A H a (.dic ks ds)
  | dit {kvs : List ((List Key) × V)} {vs : List V} {ks : List (List Key)} {ds : List D} : H a = some (.dT kvs) → kvs.map (·.1) = ks → kvs.map (·.2) = vs → Reps K A H vs ds → Top K A H a (.dit ks ds)
theorem Top.rep {K : PySem.W.Frag} {A A' : Addr → Prop} {H : Hp} {a : Addr} {d : D} (t : Top K A H a d) (w : ∀ b, A b → A' b ∧ b ≠ a) (ha : A' a) : Rep K A' H (.ref a) d := by
  cases t with
  | lst e r => exact .lst e ha (r.weak w)
  | dic e k1 k2 r => exact .dic e ha k1 k2 (r.weak w)
  | dit e k1 k2 r => exact .dit e ha k1 k2 (r.weak w)
theorem Top.stay {K : PySem.W.Frag} {A A' : Addr → Prop} {H H' : Hp} {a : Addr} {d : D} (t : Top K A H a d) (st : Stay A H H') (w : ∀ b, A b → A' b) (ha : ∀ o, H a = some o → H' a = some o) : Top K A' H' a d := by
  cases t with
  | lst e r => exact .lst (ha _ e) (r.stay st w)
  | dic e k1 k2 r => exact .dic (ha _ e) k1 k2 (r.stay st w)
  | dit e k1 k2 r => exact .dit (ha _ e) k1 k2 (r.stay st w)
theorem Top.there {K : PySem.W.Frag} {A : Addr → Prop} {H : Hp} {a : Addr} {d : D} (t : Top K A H a d) : ∃ o, H a = some o ∧ Mut (some o) := by
  cases t with
  | lst e r => exact ⟨_, e, trivial⟩
  | dic e _ _ r => exact ⟨_, e, trivial⟩
  | dit e _ _ r => exact ⟨_, e, trivial⟩
structure EnvOk (K : PySem.W.Frag) (G : Addr → Prop) (H0 : Hp) (env : Sl) (σ : St) (H : Hp) : Prop where
  len : σ.length = env.length
  base : Same H0 H
  g0 : ∀ a, H0 a = none → G a
  shr : ∀ (i : Nat) (d : D), env[i]? = some (.shr d) → ∃ v, σ[i]? = some (some v) ∧ Rep K (Sf G env σ) H v d
  own : ∀ (i : Nat) (d : D), env[i]? = some (.own d) → ∃ a, σ[i]? = some (some (.ref a)) ∧ H0 a = none ∧ Top K (Sf G env σ) H a d
  dis : ∀ (i j : Nat) (d e : D) (a : Addr), env[i]? = some (.own d) → env[j]? = some (.own e) → σ[i]? = some (some (.ref a)) → σ[j]? = some (some (.ref a)) → i = j
section
variable {K : PySem.W.Frag} {G : Addr → Prop} {H0 H H' : Hp} {env : Sl} {σ : St}
theorem EnvOk.grow (e : EnvOk K G H0 env σ H) (h : Same H H') : EnvOk K G H0 env σ H' where
  len := e.len
  base := e.base.trans h
  g0 := e.g0
  shr := fun i d z => let ⟨v, h1, h2⟩ := e.shr i d z; ⟨v, h1, h2.grow h⟩
  own := fun i d z => let ⟨a, h1, h2, h3⟩ := e.own i d z; ⟨a, h1, h2, h3.stay (Same.stay h) (fun _ z => z) (fun o q => h _ o q)⟩
  dis := e.dis
theorem EnvOk.there (e : EnvOk K G H0 env σ H) {a : Addr} (o : Owned env σ a) : ∃ u, H a = some u := by
  obtain ⟨i, d, h1, h2⟩ := o
  obtain ⟨b, h3, _, h4⟩ := e.own i d h1
  rw [h2] at h3; cases h3
  obtain ⟨u, h5, _⟩ := h4.there
  exact ⟨u, h5⟩
theorem EnvOk.mutO (k : EnvOk K G H0 env σ H) {a : Addr} (o : Owned env σ a) {u : HO} (e : H a = some u) : Mut (some u) := by
  obtain ⟨i, d, h1, h2⟩ := o
  obtain ⟨b, h3, _, h4⟩ := k.own i d h1
  rw [h2] at h3; cases h3
  obtain ⟨u', h5, m⟩ := h4.there
  rw [e] at h5; cases h5; exact m
/-- what is new may be held -/
theorem EnvOk.new (k : EnvOk K G H0 env σ H) : ∀ a, H a = none → Sf G env σ a := fun a z => ⟨fun o => (by
  obtain ⟨u, q⟩ := k.there o
  rw [z] at q; cases q), k.g0 a (Same.free k.base z)⟩
end

/-! ### levels: b: as it is; s: what a slot may hold; t: that, and new at its top -/
inductive Lv where
  | b | s | t
abbrev Any : Addr → Prop := fun _ => True
def Lv.A (l : Lv) (G : Addr → Prop) (env : Sl) (σ : St) : Addr → Prop :=
  match l with
  | .b => Any
  | .s => Sf G env σ
  | .t => Sf G env σ
/-- it is no list of the old ones -/
def NewTop (H : Hp) (v : V) : Prop := ∀ a, v = .ref a → ∀ o, H a = some o → ¬ Mut (some o)
def Lv.T (l : Lv) (H : Hp) (v : V) : Prop :=
  match l with
  | .t => NewTop H v
  | _ => True
theorem NewTop.grow {H H' : Hp} {v : V} (h : Same H H') (n : NewTop H' v) : NewTop H v := fun a e o q => n a e o (h a o q)
theorem Lv.Tgrow {l : Lv} {H H' : Hp} {v : V} (h : Same H H') (n : l.T H' v) : l.T H v := by
  cases l with
  | t => exact NewTop.grow h n
  | b => trivial
  | s => trivial

def tE (K : PySem.W.Frag) (l : Lv) (f : Sl → Res D) : TE := fun σ H Q => ∃ G H0 env d, EnvOk K G H0 env σ H ∧ f env = .ok d ∧ ∀ v H', Same H H' → Rep K (l.A G env σ) H' v d → l.T H v → Q v H'
def tT (K : PySem.W.Frag) (f : Sl → Res Bool) : TT := fun σ H Q => ∃ G H0 env b, EnvOk K G H0 env σ H ∧ f env = .ok b ∧ ∀ H', Same H H' → Q b H'
def tA (K : PySem.W.Frag) (l : Lv) (f : Sl → Res (List D)) : TA := fun σ H Q => ∃ G H0 env ds, EnvOk K G H0 env σ H ∧ f env = .ok ds ∧ ∀ vs H', Same H H' → Reps K (l.A G env σ) H' vs ds → Q vs H'
@[irreducible] def DE (X : Cx) (l : Lv) (e : Expr) (f : Sl → Res D) : Prop := PE X e (tE X.K l f)
@[irreducible] def DT (X : Cx) (e : Expr) (f : Sl → Res Bool) : Prop := PT X e (tT X.K f)
@[irreducible] def DA (X : Cx) (l : Lv) (es : List Expr) (f : Sl → Res (List D)) : Prop := PA X es (tA X.K l f)

/-- what a statement comes to -/
inductive Out where
  | nx (env : Sl) | rt (fr : Bool) (d : D) | bk (env : Sl) | ct (env : Sl)
/-- what a statement leaves alone -/
structure Frm (env : Sl) (σ : St) (H : Hp) (env' : Sl) (σ' : St) (H' : Hp) : Prop where
  keep : ∀ b o, H b = some o → ¬ Owned env σ b → H' b = some o
  more : ∀ b, Owned env' σ' b → Owned env σ b ∨ H b = none
  size : ∀ b, H' b = none → H b = none
/-- what is wanted at what a statement comes to -/
def Post (K : PySem.W.Frag) (G : Addr → Prop) (H0 : Hp) (env : Sl) (σ : St) (H : Hp) (E : Ends) (o : Out) : Prop :=
  match o with
  | .nx env' => ∀ σ' H', EnvOk K G H0 env' σ' H' → Frm env σ H env' σ' H' → E.nx σ' H'
  | .bk env' => ∀ σ' H', EnvOk K G H0 env' σ' H' → Frm env σ H env' σ' H' → E.bk σ' H'
  | .ct env' => ∀ σ' H', EnvOk K G H0 env' σ' H' → Frm env σ H env' σ' H' → E.ct σ' H'
  | .rt fr d => ∀ v H', Same H0 H' → Rep K G H' v d → (fr = true → NewTop H0 v) → E.rt v H'
def tS (K : PySem.W.Frag) (g : Sl → Res Out) : TS := fun E σ H => ∃ G H0 env o, EnvOk K G H0 env σ H ∧ g env = .ok o ∧ Post K G H0 env σ H E o
@[irreducible] def DS (X : Cx) (st : Stmt) (g : Sl → Res Out) : Prop := PS X st (tS X.K g)
@[irreducible] def DSs (X : Cx) (st : List Stmt) (g : Sl → Res Out) : Prop := PSs X st (tS X.K g)

section
variable {X : Cx} {e : Expr} {es : List Expr} {st : Stmt} {sts : List Stmt}
theorem PE.imp {t t' : TE} (h : PE X e t) (w : ∀ σ H Q, t' σ H Q → t σ H Q) : PE X e t' := fun pins s σ H Q I q => h pins s σ H Q I (w σ H Q q)
theorem PT.imp {t t' : TT} (h : PT X e t) (w : ∀ σ H Q, t' σ H Q → t σ H Q) : PT X e t' := fun pins s σ H Q I q => h pins s σ H Q I (w σ H Q q)
theorem PA.imp {t t' : TA} (h : PA X es t) (w : ∀ σ H Q, t' σ H Q → t σ H Q) : PA X es t' := fun pos pins s σ H Q I q => h pos pins s σ H Q I (w σ H Q q)
theorem PS.imp {t t' : TS} (h : PS X st t) (w : ∀ E σ H, t' E σ H → t E σ H) : PS X st t' := fun pins s σ H E I q => h pins s σ H E I (w E σ H q)
theorem PSs.imp {t t' : TS} (h : PSs X sts t) (w : ∀ E σ H, t' E σ H → t E σ H) : PSs X sts t' := fun pins s σ H E I q => h pins s σ H E I (w E σ H q)
end

theorem Frm.refl {env : Sl} {σ : St} {H H' : Hp} (h : Same H H') : Frm env σ H env σ H' := ⟨fun b o e _ => h b o e, fun b o => .inl o, fun b e => Same.free h e⟩
theorem Frm.trans {env env1 env2 : Sl} {σ σ1 σ2 : St} {H H1 H2 : Hp} (a : Frm env σ H env1 σ1 H1) (b : Frm env1 σ1 H1 env2 σ2 H2) : Frm env σ H env2 σ2 H2 where
  keep := fun c o e n => b.keep c o (a.keep c o e n) fun z => by
    rcases a.more c z with z | z
    · exact n z
    · rw [e] at z; cases z
  more := fun c o => by
    rcases b.more c o with z | z
    · exact a.more c z
    · exact .inr (a.size c z)
  size := fun c e => a.size c (b.size c e)
theorem Frm.grow {env env1 : Sl} {σ σ1 : St} {H Hm H1 : Hp} (h : Same H Hm) (b : Frm env σ Hm env1 σ1 H1) : Frm env σ H env1 σ1 H1 := (Frm.refl h).trans b

/-! ### levels up and down -/
section
variable {X : Cx} {e : Expr} {f : Sl → Res D}
theorem Lv.weak_b {l : Lv} {G : Addr → Prop} {env : Sl} {σ : St} : ∀ a, l.A G env σ a → Any a := fun _ _ => trivial
theorem DE.b {l : Lv} (h : DE X l e f) : DE X .b e f := by
 with_unfolding_all exact (PE.imp h fun σ H Q ⟨G, H0, env, d, k, ef, q⟩ => ⟨G, H0, env, d, k, ef, fun v H' s r _ => q v H' s (r.weak Lv.weak_b) trivial⟩)
theorem DE.s (h : DE X .t e f) : DE X .s e f := by
 with_unfolding_all exact (PE.imp h fun σ H Q ⟨G, H0, env, d, k, ef, q⟩ => ⟨G, H0, env, d, k, ef, fun v H' s r _ => q v H' s r trivial⟩)
theorem imm_top {K : PySem.W.Frag} {A : Addr → Prop} {H H' : Hp} {v : V} {d : D} (s : Same H H') (r : Rep K A H' v d) (i : d.imm = true) : NewTop H v := fun a e o q m => by
  subst e
  cases r with
  | tup e _ => rw [s _ _ q] at e; cases e; exact m
  | lst _ _ _ => simp [D.imm] at i
  | lsk _ _ => simp [D.imm] at i
  | dic _ _ _ _ _ => simp [D.imm] at i
  | dit _ _ _ _ _ => simp [D.imm] at i
/-- what can't change is new -/
def chk (f : Sl → Res D) : Sl → Res D := fun env => f env >>= fun d => must (d.imm = true) (.ok d)
theorem DE.chk {l l' : Lv} (h : DE X l e f) : DE X l' e (chk f) := by
 with_unfolding_all exact (PE.imp h fun σ H Q ⟨G, H0, env, d, k, ef, q⟩ => by
  obtain ⟨d', e1, e2⟩ := bind_inv ef
  obtain ⟨i, e3⟩ := must_inv e2
  cases e3
  refine ⟨G, H0, env, d, k, e1, fun v H' s r _ => q v H' s (r.imm i) ?_⟩
  cases l' with
  | t => exact imm_top s r i
  | b => trivial
  | s => trivial)
end
end M

set_option Elab.async false
set_option linter.all false
set_option maxRecDepth 100000
set_option maxHeartbeats 4000000
namespace M
open PySem PySem.Spec L2
open PyProof.Rows hiding St

/-! ### argument lists without stars -/
def notStar : Expr → Bool
  | .Starred _ _ => false
  | _ => true
theorem star_plain {e : Expr} {es : List Expr} {env : Env} (h : notStar e = true) : starEach (e :: es) env = (false, eval e env) :: starEach es env := by
  cases e <;> first | rfl | cases h
theorem star_all {es : List Expr} {env : Env} (h : es.all notStar = true) : (starEach es env).all (fun x => !x.1) = true := by
  induction es with
  | nil => rfl
  | cons e r ih =>
    rw [List.all_cons, Bool.and_eq_true] at h
    rw [star_plain h.1, List.all_cons, ih h.2]; rfl
theorem back_all {pos : Pos} {l : List (Bool × Sem Value)} (h : l.all (fun x => !x.1) = true) : (backTo pos l).all (fun x => !x.1) = true := by
  induction l with
  | nil => rfl
  | cons p r ih =>
    obtain ⟨s, t⟩ := p
    rw [List.all_cons, Bool.and_eq_true] at h
    show ((!s) && (backTo pos r).all (fun x => !x.1)) = true
    rw [ih h.2, Bool.and_true]; exact h.1
theorem any_plain {pos : Pos} {es : List Expr} {env : Env} (h : es.all notStar = true) : (backTo pos (starEach es env)).any (·.1) = false := by
  have := back_all (pos := pos) (star_all (env := env) h)
  rw [List.all_eq_true] at this
  rw [List.any_eq_false]
  intro x hx z
  have q := this x hx
  rw [z] at q; cases q
theorem few_plain {cpos : Pos} {e : Expr} {es : List Expr} {env : Env} (h : (e :: es).all notStar = true) (hl : decide ((e :: es).length < 30) = true) :
    ((backTo cpos (starEach (e :: es) env)).all (fun x => !x.1) && (backToKw cpos (keywordEach [] env)).all (fun x => x.1.isSome)
      && decide ((e :: es).length + ([] : List Keyword).length + (if ([] : List Keyword).isEmpty then 0 else 1) < 30)) = true := by
  have hk : (backToKw cpos (keywordEach [] env)).all (fun x => x.1.isSome) = true := rfl
  rw [back_all (star_all h), hk]
  simpa using hl

section
variable {X : Cx} {e a b c o : Expr} {es : List Expr} {pos : Pos} {l l1 l2 l' : Lv} {f f1 f2 f3 : Sl → Res D}

/-! ### names, constants -/
def cI (i : Int) : Sl → Res D := fun _ => .ok (.int i)
def cB (b : Bool) : Sl → Res D := fun _ => .ok (.bl b)
def cN : Sl → Res D := fun _ => .ok .non
def cS (x : Str) : Sl → Res D := fun _ => .ok (.str x)
def rdS (i : Nat) : Sl → Res D := fun env => match env[i]? with
  | some (.shr d) => .ok d
  | _ => .stuck
def rdB (i : Nat) : Sl → Res D := fun env => match env[i]? with
  | some (.shr d) => .ok d
  | some (.own d) => .ok d
  | _ => .stuck
theorem rdS_inv {i : Nat} {env : Sl} {d : D} (h : rdS i env = .ok d) : env[i]? = some (.shr d) := by
  unfold rdS at h
  split at h
  · cases h; assumption
  · cases h
theorem rdB_inv {i : Nat} {env : Sl} {d : D} (h : rdB i env = .ok d) : env[i]? = some (.shr d) ∨ env[i]? = some (.own d) := by
  unfold rdB at h
  split at h
  · cases h; left; assumption
  · cases h; right; assumption
  · cases h
theorem own_ne {K : PySem.W.Frag} {G : Addr → Prop} {H0 H : Hp} {env : Sl} {σ : L2.St} {i : Nat} {d : D} {a : Addr} (k : EnvOk K G H0 env σ H) (h1 : env[i]? = some (.own d)) (h2 : σ[i]? = some (some (.ref a))) : ∀ c, Sf G env σ c → c ≠ a := fun c z e => z.1 (by rw [e]; exact ⟨i, d, h1, h2⟩)
/-- a name's value, of a slot that is not owned -/
theorem dv (i : Nat) {x : Str} (hN : X.N[i]? = some x := by rfl) (hv : Vis X.env.scope x := by first | exact Or.inl rfl | exact Or.inr (Or.inl rfl) | exact Or.inr (Or.inr rfl)) (hd : (x == ("__debug__" : Str)) = false := by decide)
    (hcd : (x == ("__classdict__" : Str)) = false := by decide) : DE X .s (.Name x pos) (rdS i) := by
 with_unfolding_all exact (
  PE.imp (pe_var hN hv hd hcd) fun σ H Q ⟨G, H0, env, d, k, ef, q⟩ => by
    obtain ⟨v, h1, h2⟩ := k.shr i d (rdS_inv ef)
    exact ⟨v, h1, q v H (Same.refl H) h2 trivial⟩)
/-- a name's value, looked at only -/
theorem db (i : Nat) {x : Str} (hN : X.N[i]? = some x := by rfl) (hv : Vis X.env.scope x := by first | exact Or.inl rfl | exact Or.inr (Or.inl rfl) | exact Or.inr (Or.inr rfl)) (hd : (x == ("__debug__" : Str)) = false := by decide)
    (hcd : (x == ("__classdict__" : Str)) = false := by decide) : DE X .b (.Name x pos) (rdB i) := by
 with_unfolding_all exact (
  PE.imp (pe_var hN hv hd hcd) fun σ H Q ⟨G, H0, env, d, k, ef, q⟩ => by
    rcases rdB_inv ef with z | z
    · obtain ⟨v, h1, h2⟩ := k.shr i d z
      exact ⟨v, h1, q v H (Same.refl H) (h2.weak fun _ _ => trivial) trivial⟩
    · obtain ⟨v, h1, _, h2⟩ := k.own i d z
      exact ⟨_, h1, q _ H (Same.refl H) (h2.rep (fun c y => ⟨trivial, own_ne k z h1 c y⟩) trivial) trivial⟩)
/-- plain values: of every level -/
def Sc (K : PySem.W.Frag) (v : V) (d : D) : Prop := (∀ A H, Rep K A H v d) ∧ ∀ a, v ≠ .ref a
theorem Sc.T {K : PySem.W.Frag} {v : V} {d : D} {H : Hp} (h : Sc K v d) : l.T H v := by
  cases l with
  | t => exact fun a e => absurd e (h.2 a)
  | b => trivial
  | s => trivial
theorem sc_int {K : PySem.W.Frag} (i : Int) : Sc K (.int i) (.int i) := ⟨fun _ _ => .int i, fun a e => by cases e⟩
theorem sc_bl {K : PySem.W.Frag} (i : Bool) : Sc K (.bl i) (.bl i) := ⟨fun _ _ => .bl i, fun a e => by cases e⟩
theorem sc_non {K : PySem.W.Frag} : Sc K .non .non := ⟨fun _ _ => .non, fun a e => by cases e⟩
theorem sc_str {K : PySem.W.Frag} (x : Str) (h : x.length ≤ sizeLine) : Sc K (.str x) (.str x) := ⟨fun _ _ => .str x h, fun a e => by cases e⟩
theorem de_c {v : V} {d : D} (h : PE X e (tC v)) (r : Sc X.K v d) : DE X l e (fun _ => .ok d) := by
 with_unfolding_all exact (
  PE.imp h fun σ H Q ⟨G, H0, env, d', k, ef, q⟩ => by
    cases ef
    exact q v H (Same.refl H) (r.1 _ H) r.T)
theorem de_int {i : Int} {j} : DE X l (.Constant (.int i) j pos) (cI i) := de_c pe_int (sc_int i)
theorem de_bl {i : Bool} {j} : DE X l (.Constant (.bool i) j pos) (cB i) := de_c pe_bl (sc_bl i)
theorem de_non {j} : DE X l (.Constant .none j pos) cN := de_c pe_non sc_non
theorem de_str {x : Str} {j} (h : x.length ≤ sizeLine := by decide) : DE X l (.Constant (.str x) j pos) (cS x) := de_c pe_str (sc_str x h)
/-! ### operations of two values -/
/-- with a plain answer -/
def OpS (K : PySem.W.Frag) (r : R2) (g : D → D → Res D) : Prop := ∀ (x y : V) (H : Hp) (a b d : D) (Q : VK), Rep K Any H x a → Rep K Any H y b → g a b = .ok d → (∀ v, Sc K v d → Q v H) → r x y H Q
/-- with an answer made of both -/
def OpD (K : PySem.W.Frag) (r : R2) (g : D → D → Res D) : Prop := ∀ (A : Addr → Prop) (x y : V) (H : Hp) (a b d : D) (Q : VK), Rep K A H x a → Rep K A H y b → g a b = .ok d → (∀ v H', Same H H' → Rep K (fun c => H c = none ∨ A c) H' v d → NewTop H v → Q v H') → r x y H Q
def two (f1 f2 : Sl → Res D) (g : D → D → Res D) : Sl → Res D := fun env => f1 env >>= fun x => f2 env >>= fun y => g x y
theorem tOp_S {K : PySem.W.Frag} {r : R2} {g : D → D → Res D} (hr : OpS K r g) {σ : L2.St} {H : Hp} {Q : VK} (h : tE K l (two f1 f2 g) σ H Q) : tOp r (tE K l1 f1) (tE K l2 f2) σ H Q := by
  obtain ⟨G, H0, env, d, k, ef, q⟩ := h
  obtain ⟨a, e1, ef⟩ := bind_inv ef
  obtain ⟨b, e2, e3⟩ := bind_inv ef
  refine ⟨G, H0, env, a, k, e1, fun x H1 s1 r1 _ => ⟨G, H0, env, b, k.grow s1, e2, fun y H2 s2 r2 _ => ?_⟩⟩
  exact hr x y H2 a b d Q ((r1.grow s2).weak Lv.weak_b) (r2.weak Lv.weak_b) e3 fun v sc => q v H2 (s1.trans s2) (sc.1 _ _) sc.T
theorem tOp_D {K : PySem.W.Frag} {r : R2} {g : D → D → Res D} (hr : OpD K r g) {σ : L2.St} {H : Hp} {Q : VK} (h : tE K .t (two f1 f2 g) σ H Q) : tOp r (tE K .s f1) (tE K .s f2) σ H Q := by
  obtain ⟨G, H0, env, d, k, ef, q⟩ := h
  obtain ⟨a, e1, ef⟩ := bind_inv ef
  obtain ⟨b, e2, e3⟩ := bind_inv ef
  refine ⟨G, H0, env, a, k, e1, fun x H1 s1 r1 _ => ⟨G, H0, env, b, k.grow s1, e2, fun y H2 s2 r2 _ => ?_⟩⟩
  have sm := s1.trans s2
  exact hr _ x y H2 a b d Q (r1.grow s2) r2 e3 fun v H3 s3 r3 nt => q v H3 (sm.trans s3) (r3.weak fun c z => z.elim (fun z => k.new c (Same.free sm z)) fun z => z) (nt.grow sm)
theorem de_op {op : Operator} {r : R2} {g : D → D → Res D} (ho : OpR X (binaryOp op) r) (hr : OpS X.K r g) (ha : DE X l1 a f1) (hb : DE X l2 b f2) : DE X l (.BinOp a op b pos) (two f1 f2 g) := by
 with_unfolding_all exact (
  PE.imp (pe_op ho ha hb) fun _ _ _ h => tOp_S hr h)
theorem de_opT {op : Operator} {r : R2} {g : D → D → Res D} (ho : OpR X (binaryOp op) r) (hr : OpD X.K r g) (ha : DE X .s a f1) (hb : DE X .s b f2) : DE X .t (.BinOp a op b pos) (two f1 f2 g) := by
 with_unfolding_all exact (
  PE.imp (pe_op ho ha hb) fun _ _ _ h => tOp_D hr h)
theorem de_cmp {op : CmpOp} {r : R2} {g : D → D → Res D} (ho : OpR X (compareOp op) r) (hr : OpS X.K r g) (ha : DE X l1 a f1) (hb : DE X l2 b f2) (hm : behindInMarks op b = false := by first | exact nomark _ | (with_unfolding_all rfl)) : DE X l (.Compare a [op] [b] pos) (two f1 f2 g) := by
 with_unfolding_all exact (
  PE.imp (pe_cmpR ho ha hb hm) fun _ _ _ h => tOp_S hr h)
/-- a comparison's truth -/
def asB (f : Sl → Res D) : Sl → Res Bool := fun env => f env >>= fun d => match d with
  | .bl b => .ok b
  | _ => .stuck
theorem asB_inv {env : Sl} {b : Bool} (h : asB f env = .ok b) : f env = .ok (.bl b) := by
  obtain ⟨d, e1, e2⟩ := bind_inv h
  cases d with
  | bl c => cases e2; exact e1
  | _ => cases e2
theorem tTest_D {K : PySem.W.Frag} {t : TE} (ht : ∀ σ H Q, tE K l f σ H Q → t σ H Q) {σ : L2.St} {H : Hp} {Q : Bool → Hp → Prop} (h : tT K (asB f) σ H Q) : tTest t σ H Q := by
  obtain ⟨G, H0, env, b, k, ef, q⟩ := h
  refine ht σ H _ ⟨G, H0, env, .bl b, k, asB_inv ef, fun v H' s r _ => ⟨b, r.blE, q H' s⟩⟩
theorem dt_cmp {op : CmpOp} {r : R2} {g : D → D → Res D} (ho : OpR X (compareOp op) r) (hr : OpS X.K r g) (ha : DE X l1 a f1) (hb : DE X l2 b f2) (hm : behindInMarks op b = false := by first | exact nomark _ | (with_unfolding_all rfl)) : DT X (.Compare a [op] [b] pos) (asB (two f1 f2 g)) := by
 with_unfolding_all exact (
  PT.imp (pt_cmpR ho ha hb hm) fun _ _ _ h => tTest_D (l := .b) (fun _ _ _ h => tOp_S hr h) h)
/-- a op1 b op2 c -/
def chain (f1 f2 f3 : Sl → Res D) (g g' : D → D → Res D) : Sl → Res D := fun env => f1 env >>= fun x => f2 env >>= fun y => g x y >>= fun z => match z with
  | .bl true => f3 env >>= fun w => g' y w
  | .bl false => .ok (.bl false)
  | _ => .stuck
/-! ### tests -/
theorem dt_val (h : DE X l e f) (he : ∀ whole, isTrue e X.env whole = (do let v ← whole; standAt e.pos; holding [v] (truthy v)) := by intro _; rfl) : DT X e (asB f) := by
 with_unfolding_all exact (
  PT.imp (pt_val h he) fun _ _ _ h => tTest_D (l := l) (fun _ _ _ h => h) h)
def tru : D → Res Bool
  | .non => .ok false
  | .bl b => .ok b
  | .int i => .ok (i != 0)
  | .str x => .ok ((x.length : Int) != 0)
  | .tup ds => .ok (!ds.isEmpty)
  | .lst ds => .ok (!ds.isEmpty)
  | .scr ds => .ok (!ds.isEmpty)
  | .dic _ _ => .stuck
  | .dit _ _ => .stuck
def truF (f : Sl → Res D) : Sl → Res Bool := fun env => f env >>= tru
section
variable {g g1 g2 : Sl → Res Bool} {rest : List Expr}
def notB (g : Sl → Res Bool) : Sl → Res Bool := fun env => g env >>= fun b => .ok (!b)
theorem dt_not (h : DT X a g) : DT X (.UnaryOp .Not a pos) (notB g) := by
 with_unfolding_all exact (
  PT.imp (pt_not h) fun σ H Q ⟨G, H0, env, b, k, ef, q⟩ => by
    obtain ⟨d, e1, e2⟩ := bind_inv ef
    cases e2
    exact ⟨G, H0, env, d, k, e1, q⟩)
@[irreducible] def DW (X : Cx) (e : Expr) (f : Sl → Res Bool) : Prop := PW X e (tT X.K f)
theorem PW.imp {t t' : TT} (h : PW X e t) (w : ∀ σ H Q, t' σ H Q → t σ H Q) : PW X e t' := fun wh pins s σ H Q I q => h wh pins s σ H Q I (w σ H Q q)
theorem DW.dt (h : DW X e g) : DT X e g := by
 with_unfolding_all exact (PW.pt h)
theorem dw_and1 (h : DT X a g) : DW X (.BoolOp .And [a] pos) g := by
 with_unfolding_all exact (pw_and1 h)
theorem dw_or1 (h : DT X a g) : DW X (.BoolOp .Or [a] pos) g := by
 with_unfolding_all exact (pw_or1 h)
def andB (g1 g2 : Sl → Res Bool) : Sl → Res Bool := fun env => g1 env >>= fun b => if b = true then g2 env else .ok false
def orB (g1 g2 : Sl → Res Bool) : Sl → Res Bool := fun env => g1 env >>= fun b => if b = true then .ok true else g2 env
theorem dw_and (h1 : DT X a g1) (h2 : DW X (.BoolOp .And (b :: rest) pos) g2) : DW X (.BoolOp .And (a :: b :: rest) pos) (andB g1 g2) := by
 with_unfolding_all exact (
  PW.imp (pw_and h1 h2) fun σ H Q ⟨G, H0, env, r, k, ef, q⟩ => by
    obtain ⟨d, e1, e2⟩ := bind_inv ef
    refine ⟨G, H0, env, d, k, e1, fun H' s => ?_⟩
    cases d with
    | true => rw [if_pos rfl] at e2 ⊢; exact ⟨G, H0, env, r, k.grow s, e2, fun H2 s2 => q H2 (s.trans s2)⟩
    | false => rw [if_neg Bool.false_ne_true] at e2 ⊢; cases e2; exact q H' s)
theorem dw_or (h1 : DT X a g1) (h2 : DW X (.BoolOp .Or (b :: rest) pos) g2) : DW X (.BoolOp .Or (a :: b :: rest) pos) (orB g1 g2) := by
 with_unfolding_all exact (
  PW.imp (pw_or h1 h2) fun σ H Q ⟨G, H0, env, r, k, ef, q⟩ => by
    obtain ⟨d, e1, e2⟩ := bind_inv ef
    refine ⟨G, H0, env, d, k, e1, fun H' s => ?_⟩
    cases d with
    | false => rw [if_neg Bool.false_ne_true] at e2 ⊢; exact ⟨G, H0, env, r, k.grow s, e2, fun H2 s2 => q H2 (s.trans s2)⟩
    | true => rw [if_pos rfl] at e2 ⊢; cases e2; exact q H' s)
/-- .. as values that are bools -/
def toB (f : Sl → Res D) (g : Sl → Res D) (w : Bool) : Sl → Res D := fun env => f env >>= fun d => match d with
  | .bl b => if b = w then g env else .ok (.bl b)
  | _ => .stuck
theorem de_one {op} (h : DE X l a f) : DE X l (.BoolOp op [a] pos) f := by
 with_unfolding_all exact (pe_one h)
theorem de_or (h1 : DE X l1 a f1) (h2 : DE X l (.BoolOp .Or (b :: rest) pos) f2) : DE X l (.BoolOp .Or (a :: b :: rest) pos) (toB f1 f2 false) := by
 with_unfolding_all exact (
  PE.imp (pe_or h1 h2) fun σ H Q ⟨G, H0, env, r, k, ef, q⟩ => by
    obtain ⟨d, e1, e2⟩ := bind_inv ef
    refine ⟨G, H0, env, d, k, e1, fun v H' s rr _ => ?_⟩
    cases d with
    | bl t =>
      refine ⟨t, rr.blE, ?_⟩
      cases t with
      | false => exact ⟨G, H0, env, r, k.grow s, e2, fun v H2 s2 r2 nt => q v H2 (s.trans s2) r2 (Lv.Tgrow s nt)⟩
      | true => cases e2; exact q _ H' s (.bl true) (sc_bl (K := X.K) true).T
    | _ => cases e2)
def notD : D → Res D
  | .bl b => .ok (.bl (!b))
  | _ => .stuck
def notF (f : Sl → Res D) : Sl → Res D := fun env => f env >>= notD
def ifD (g : Sl → Res Bool) (f1 f2 : Sl → Res D) : Sl → Res D := fun env => g env >>= fun b => if b = true then f1 env else f2 env
theorem de_ifx (hc : DT X c g) (h1 : DE X l a f1) (h2 : DE X l b f2) : DE X l (.IfExp c a b pos) (ifD g f1 f2) := by
 with_unfolding_all exact (
  PE.imp (pe_ifExp hc h1 h2) fun σ H Q ⟨G, H0, env, r, k, ef, q⟩ => by
    obtain ⟨d, e1, e2⟩ := bind_inv ef
    refine ⟨G, H0, env, d, k, e1, fun H' s => ?_⟩
    cases d with
    | true => rw [if_pos rfl] at e2 ⊢; exact ⟨G, H0, env, r, k.grow s, e2, fun v H2 s2 r2 nt => q v H2 (s.trans s2) r2 (Lv.Tgrow s nt)⟩
    | false => rw [if_neg Bool.false_ne_true] at e2 ⊢; exact ⟨G, H0, env, r, k.grow s, e2, fun v H2 s2 r2 nt => q v H2 (s.trans s2) r2 (Lv.Tgrow s nt)⟩)
end

/-! ### argument lists -/
def cons1 (f : Sl → Res D) (g : Sl → Res (List D)) : Sl → Res (List D) := fun env => f env >>= fun d => g env >>= fun ds => .ok (d :: ds)
def nil1 : Sl → Res (List D) := fun _ => .ok []
theorem da_nil : DA X l [] nil1 := by
 with_unfolding_all exact (PA.imp pa_nil fun σ H Q ⟨G, H0, env, d, k, ef, q⟩ => by cases ef; exact q [] H (Same.refl H) .nil)
theorem da_cons {g : Sl → Res (List D)} (ha : DE X l e f) (hr : DA X l es g) (hs : starEach (e :: es) X.env = (false, eval e X.env) :: starEach es X.env := by exact star_plain rfl) : DA X l (e :: es) (cons1 f g) := by
 with_unfolding_all exact (
  PA.imp (pa_cons ha hr hs) fun σ H Q ⟨G, H0, env, ds, k, ef, q⟩ => by
    obtain ⟨d, e1, e2⟩ := bind_inv ef
    obtain ⟨ds', e3, e4⟩ := bind_inv e2
    cases e4
    exact ⟨G, H0, env, d, k, e1, fun v H1 s1 r1 _ => ⟨G, H0, env, ds', k.grow s1, e3, fun vs H2 s2 r2 => q _ H2 (s1.trans s2) (.cons (r1.grow s2) r2)⟩⟩)
/-! ### displays -/
theorem new_top {H H1 : Hp} {p : Addr} (s : Same H H1) (hp : H1 p = none) : NewTop H (.ref p) := fun a e o q => by
  cases e
  rw [s _ _ q] at hp; cases hp
def tupF (g : Sl → Res (List D)) : Sl → Res D := fun env => g env >>= fun ds => must (ds.length ≤ sizeLine) (.ok (.tup ds))
def lstF (g : Sl → Res (List D)) : Sl → Res D := fun env => g env >>= fun ds => must (ds.length ≤ sizeLine) (.ok (.lst ds))
theorem de_tup {x1} {g : Sl → Res (List D)} (h : DA X .s es g) : DE X .t (.Tuple es x1 pos) (tupF g) := by
 with_unfolding_all exact (
  PE.imp (pe_tup h) fun σ H Q ⟨G, H0, env, d, k, ef, q⟩ => by
    obtain ⟨ds, e1, e2⟩ := bind_inv ef
    obtain ⟨hz, e3⟩ := must_inv e2
    cases e3
    refine ⟨G, H0, env, ds, k, e1, fun vs H1 s1 r1 => ⟨by rw [r1.length]; exact hz, fun p hp => ?_⟩⟩
    exact q _ _ (s1.trans (Same.upd hp)) (.tup upd_same (r1.grow (Same.upd hp))) (new_top s1 hp))
theorem de_lst {g : Sl → Res (List D)} (h : DA X .s es g) : DE X .t (.List es pos) (lstF g) := by
 with_unfolding_all exact (
  PE.imp (pe_lst h) fun σ H Q ⟨G, H0, env, d, k, ef, q⟩ => by
    obtain ⟨ds, e1, e2⟩ := bind_inv ef
    obtain ⟨hz, e3⟩ := must_inv e2
    cases e3
    refine ⟨G, H0, env, ds, k, e1, fun vs H1 s1 r1 => ⟨by rw [r1.length]; exact hz, fun p hp => ?_⟩⟩
    exact q _ _ (s1.trans (Same.upd hp)) (.lst upd_same (k.new p (Same.free s1 hp)) (r1.laid hp)) (new_top s1 hp))
/-! ### calls of built-in functions and types -/
def CallS (K : PySem.W.Frag) (r : List V → Hp → VK → Prop) (g : List D → Res D) : Prop := ∀ (xs : List V) (H : Hp) (ds : List D) (d : D) (Q : VK), Reps K Any H xs ds → g ds = .ok d → (∀ v, Sc K v d → Q v H) → r xs H Q
def CallD (K : PySem.W.Frag) (r : List V → Hp → VK → Prop) (g : List D → Res D) : Prop := ∀ (A : Addr → Prop) (xs : List V) (H : Hp) (ds : List D) (d : D) (Q : VK), Reps K A H xs ds → g ds = .ok d → (∀ v H', Same H H' → Rep K (fun c => H c = none ∨ A c) H' v d → NewTop H v → Q v H') → r xs H Q
def app (f : Sl → Res (List D)) (g : List D → Res D) : Sl → Res D := fun env => f env >>= g
theorem tCB_S {K : PySem.W.Frag} {r : List V → Hp → VK → Prop} {g : List D → Res D} {fa : Sl → Res (List D)} (hr : CallS K r g) {σ : L2.St} {H : Hp} {Q : VK} (h : tE K l' (app fa g) σ H Q) : tCB r (tA K l fa) σ H Q := by
  obtain ⟨G, H0, env, d, k, ef, q⟩ := h
  obtain ⟨ds, e1, e2⟩ := bind_inv ef
  refine ⟨G, H0, env, ds, k, e1, fun vs H1 s1 r1 => ?_⟩
  exact hr vs H1 ds d Q (r1.weak Lv.weak_b) e2 fun v sc => q v H1 s1 (sc.1 _ _) sc.T
theorem tCB_D {K : PySem.W.Frag} {r : List V → Hp → VK → Prop} {g : List D → Res D} {fa : Sl → Res (List D)} (hr : CallD K r g) {σ : L2.St} {H : Hp} {Q : VK} (h : tE K .t (app fa g) σ H Q) : tCB r (tA K .s fa) σ H Q := by
  obtain ⟨G, H0, env, d, k, ef, q⟩ := h
  obtain ⟨ds, e1, e2⟩ := bind_inv ef
  refine ⟨G, H0, env, ds, k, e1, fun vs H1 s1 r1 => ?_⟩
  exact hr _ vs H1 ds d Q r1 e2 fun v H2 s2 r2 nt => q v H2 (s1.trans s2) (r2.weak fun c z => z.elim (fun z => k.new c (Same.free s1 z)) fun z => z) (nt.grow s1)
theorem tCB_B {K : PySem.W.Frag} {r : List V → Hp → VK → Prop} {g : List D → Res D} {fa : Sl → Res (List D)} (hr : CallD K r g) {σ : L2.St} {H : Hp} {Q : VK} (h : tE K .b (app fa g) σ H Q) : tCB r (tA K .b fa) σ H Q := by
  obtain ⟨G, H0, env, d, k, ef, q⟩ := h
  obtain ⟨ds, e1, e2⟩ := bind_inv ef
  refine ⟨G, H0, env, ds, k, e1, fun vs H1 s1 r1 => ?_⟩
  exact hr _ vs H1 ds d Q r1 e2 fun v H2 s2 r2 nt => q v H2 (s1.trans s2) (r2.weak fun c _ => trivial) trivial
section
variable {x : Str} {id T : String} {p : Pos} {r : List V → Hp → VK → Prop} {g : List D → Res D} {fa : Sl → Res (List D)}
theorem de_callB (hc : CallR X (.builtin id) r) (hr : CallS X.K r g) (hg : Gl X x) (hm : X.mg x = none) (hv : bootBuiltins x = some (.builtin id))
    (ha : DA X l (e :: es) fa) (hn : x ≠ "__name__" := by decide) (hdb : (x == ("__debug__" : Str)) = false := by decide)
    (he : starEach (e :: es) X.env = (false, eval e X.env) :: starEach es X.env := by exact star_plain rfl) (hpl : (backTo pos (starEach es X.env)).any (·.1) = false := by exact any_plain rfl) : DE X l' (.Call (.Name x p) (e :: es) [] pos) (app fa g) := by
 with_unfolding_all exact (
  PE.imp (pe_callB hc hg hm hv ha hn hdb he hpl) fun _ _ _ h => tCB_S hr h)
theorem de_callTy (hc : CallR X (.type T) r) (hr : CallD X.K r g) (hg : Gl X x) (hm : X.mg x = none) (hv : bootBuiltins x = some (.type T))
    (ha : DA X .s (e :: es) fa) (hn : x ≠ "__name__" := by decide) (hdb : (x == ("__debug__" : Str)) = false := by decide)
    (he : starEach (e :: es) X.env = (false, eval e X.env) :: starEach es X.env := by exact star_plain rfl) (hpl : (backTo pos (starEach es X.env)).any (·.1) = false := by exact any_plain rfl) : DE X .t (.Call (.Name x p) (e :: es) [] pos) (app fa g) := by
 with_unfolding_all exact (
  PE.imp (pe_callTy hc hg hm hv ha hn hdb he hpl) fun _ _ _ h => tCB_D hr h)
theorem de_callTyB (hc : CallR X (.type T) r) (hr : CallD X.K r g) (hg : Gl X x) (hm : X.mg x = none) (hv : bootBuiltins x = some (.type T))
    (ha : DA X .b (e :: es) fa) (hn : x ≠ "__name__" := by decide) (hdb : (x == ("__debug__" : Str)) = false := by decide)
    (he : starEach (e :: es) X.env = (false, eval e X.env) :: starEach es X.env := by exact star_plain rfl) (hpl : (backTo pos (starEach es X.env)).any (·.1) = false := by exact any_plain rfl) : DE X .b (.Call (.Name x p) (e :: es) [] pos) (app fa g) := by
 with_unfolding_all exact (
  PE.imp (pe_callTy hc hg hm hv ha hn hdb he hpl) fun _ _ _ h => tCB_B hr h)
end

/-! ### calls of defs -/
/-- a def's promise by a function of data; fr: what it tells is new at its top -/
def spF (K : PySem.W.Frag) (fr : Bool) (n : Nat) (F : List D → Res D) : Sp := fun vs H Q _ => ∃ B ds d, vs.length = n ∧ Reps K B H vs ds ∧ F ds = .ok d ∧ ∀ v H', Same H H' → Rep K (fun a => H a = none ∨ B a) H' v d → (fr = true → NewTop H v) → Q v H'
def callF (n : Nat) (F : List D → Res D) (g : Sl → Res (List D)) : Sl → Res D := fun env => g env >>= fun ds => must (ds.length = n) (F ds)
section
variable {CX : CXT} {k : Nat} {x : Str} {fa : Addr} {fd : FuncData} {ps : List Str} {p : Pos} {n : Nat} {F : List D → Res D} {E : XK} {g : Sl → Res (List D)} {fr : Bool}
/-- of things that slots may hold: something like them -/
theorem de_call (G : FnOk X.prog X.w X.K X.mg X.base CX k fa fd ps (spF X.K fr n F)) (hr : Room k X.A) (hg : Gl X x) (hm : X.mg x = some (.ref fa)) (hk : PySem.W.keepIn X.K (.ref fa) = true) (hb : Binds X.K fd ps []) (hx : Passes CX X E)
    (ha : DA X .s (e :: es) g) (hdb : (x == ("__debug__" : Str)) = false := by decide) (he : starEach (e :: es) X.env = (false, eval e X.env) :: starEach es X.env := by exact star_plain rfl) (hpl : (backTo pos (starEach es X.env)).any (·.1) = false := by exact any_plain rfl) :
    DE X .s (.Call (.Name x p) (e :: es) [] pos) (callF n F g) := by
 with_unfolding_all exact (
  PE.imp (pe_call G hr hg hm hk hb .nil hx ha hdb he hpl) fun σ H Q ⟨GG, H0, env, d, k, ef, q⟩ => by
    obtain ⟨ds, e1, e2⟩ := bind_inv ef
    obtain ⟨hn, e3⟩ := must_inv e2
    refine ⟨GG, H0, env, ds, k, e1, fun vs H1 s1 r1 => ?_⟩
    show spF X.K fr n F (vs ++ []) H1 Q E
    rw [List.append_nil]
    exact ⟨_, ds, d, by rw [r1.length]; exact hn, r1, e3, fun v H2 s2 r2 _ => q v H2 (s1.trans s2) (r2.weak fun c z => z.elim (fun z => k.new c (Same.free s1 z)) fun z => z) trivial⟩)
theorem de_callT (G : FnOk X.prog X.w X.K X.mg X.base CX k fa fd ps (spF X.K true n F)) (hr : Room k X.A) (hg : Gl X x) (hm : X.mg x = some (.ref fa)) (hk : PySem.W.keepIn X.K (.ref fa) = true) (hb : Binds X.K fd ps []) (hx : Passes CX X E)
    (ha : DA X .s (e :: es) g) (hdb : (x == ("__debug__" : Str)) = false := by decide) (he : starEach (e :: es) X.env = (false, eval e X.env) :: starEach es X.env := by exact star_plain rfl) (hpl : (backTo pos (starEach es X.env)).any (·.1) = false := by exact any_plain rfl) :
    DE X .t (.Call (.Name x p) (e :: es) [] pos) (callF n F g) := by
 with_unfolding_all exact (
  PE.imp (pe_call G hr hg hm hk hb .nil hx ha hdb he hpl) fun σ H Q ⟨GG, H0, env, d, k, ef, q⟩ => by
    obtain ⟨ds, e1, e2⟩ := bind_inv ef
    obtain ⟨hn, e3⟩ := must_inv e2
    refine ⟨GG, H0, env, ds, k, e1, fun vs H1 s1 r1 => ?_⟩
    show spF X.K true n F (vs ++ []) H1 Q E
    rw [List.append_nil]
    exact ⟨_, ds, d, by rw [r1.length]; exact hn, r1, e3, fun v H2 s2 r2 nt => q v H2 (s1.trans s2) (r2.weak fun c z => z.elim (fun z => k.new c (Same.free s1 z)) fun z => z) ((nt rfl).grow s1)⟩)
end

/-! ### places -/
def ixD : D → D → Res D
  | .lst ds, .int i => match atI ds i with
    | some d => .ok d
    | none => .stuck
  | .scr ds, .int i => match atI ds i with
    | some d => .ok d
    | none => .stuck
  | .tup ds, .int i => match atI ds i with
    | some d => .ok d
    | none => .stuck
  | .str z, .int i => match atI z.cps.toList i with
    | some c => .ok (.str ⟨#[c]⟩)
    | none => .stuck
  | _, _ => .stuck
theorem atI_rep {K : PySem.W.Frag} {A : Addr → Prop} {H : Hp} {xs : List V} {ds : List D} {i : Int} {d : D} (r : Reps K A H xs ds) (h : atI ds i = some d) : ∃ v, atI xs i = some v ∧ Rep K A H v d := by
  unfold atI at h ⊢
  rw [r.length]
  cases e : ixN ds.length i with
  | none => rw [e] at h; cases h
  | some j => rw [e] at h; exact r.get h
theorem one_len (c : Nat) : (⟨#[c]⟩ : Str).length ≤ sizeLine := by show 1 ≤ sizeLine; decide
theorem og_ix {A : Addr → Prop} {x y : V} {H : Hp} {a b d : D} {Q : VK} (ra : Rep X.K A H x a) (rb : Rep X.K Any H y b) (h : ixD a b = .ok d) (q : ∀ v, Rep X.K A H v d → Q v H) : rIx X.K x y H Q := by
  cases b with
  | int i =>
    cases rb.intE
    cases a with
    | lst ds =>
      unfold ixD at h; dsimp only at h
      cases e : atI ds i with
      | none => rw [e] at h; cases h
      | some d' =>
        rw [e] at h; cases h
        obtain ⟨p, xs, rfl, hq, _, r⟩ := ra.lstE
        obtain ⟨v, e2, r2⟩ := atI_rep r.low e
        exact .inl ⟨p, xs, i, v, rfl, rfl, .of hq, e2, q v r2⟩
    | scr ds =>
      unfold ixD at h; dsimp only at h
      cases e : atI ds i with
      | none => rw [e] at h; cases h
      | some d' =>
        rw [e] at h; cases h
        obtain ⟨p, xs, rfl, hq, r⟩ := ra.scrE
        obtain ⟨v, e2, r2⟩ := atI_rep r e
        exact .inl ⟨p, xs, i, v, rfl, rfl, hq.sql, e2, q v r2⟩
    | tup ds =>
      unfold ixD at h; dsimp only at h
      cases e : atI ds i with
      | none => rw [e] at h; cases h
      | some d' =>
        rw [e] at h; cases h
        obtain ⟨p, xs, rfl, hq, r⟩ := ra.tupE
        obtain ⟨v, e2, r2⟩ := atI_rep r e
        exact .inr (.inl ⟨p, xs, i, v, rfl, rfl, .of hq, e2, q v r2⟩)
    | str z =>
      unfold ixD at h; dsimp only at h
      cases e : atI z.cps.toList i with
      | none => rw [e] at h; cases h
      | some c =>
        rw [e] at h; cases h
        obtain ⟨rfl, hz⟩ := ra.strE
        exact .inr (.inr ⟨z, i, c, rfl, rfl, hz, e, q _ (.str _ (by show 1 ≤ sizeLine; decide))⟩)
    | _ => cases h
  | _ => cases a <;> cases h
/-- a place of a thing: of the thing's own level -/
theorem de_ix (ha : DE X .s a f1) (hb : DE X l2 b f2) (hs : PlainIx b := by intro _ _; rfl) : DE X .s (.Subscript a b pos) (two f1 f2 ixD) := by
 with_unfolding_all exact (
  PE.imp (pe_ix ix_seq ha hb hs) fun σ H Q ⟨G, H0, env, d, k, ef, q⟩ => by
    obtain ⟨a', e1, ef⟩ := bind_inv ef
    obtain ⟨b', e2, e3⟩ := bind_inv ef
    refine ⟨G, H0, env, a', k, e1, fun x H1 s1 r1 _ => ⟨G, H0, env, b', k.grow s1, e2, fun y H2 s2 r2 _ => ?_⟩⟩
    exact og_ix (r1.grow s2) (r2.weak Lv.weak_b) e3 fun v r3 => q v H2 (s1.trans s2) r3 trivial)
/-- a part of a slice -/
@[irreducible] def DO (X : Cx) (e : Option Expr) (f : Sl → Res (Option Int)) : Prop := PO X e (fun σ H Q => ∃ G H0 env i, EnvOk X.K G H0 env σ H ∧ f env = .ok i ∧ ∀ H', Same H H' → Q i H')
theorem PO.imp {e : Option Expr} {t t' : TO} (h : PO X e t) (w : ∀ σ H Q, t' σ H Q → t σ H Q) : PO X e t' := fun pins s σ H Q I q => h pins s σ H Q I (w σ H Q q)
def noneI : Sl → Res (Option Int) := fun _ => .ok none
theorem do_none : DO X none noneI := by
 with_unfolding_all exact (PO.imp po_none fun σ H Q ⟨G, H0, env, i, k, ef, q⟩ => by cases ef; exact q H (Same.refl H))
def asI : D → Res (Option Int)
  | .int i => .ok (some i)
  | _ => .stuck
def someI (f : Sl → Res D) : Sl → Res (Option Int) := fun env => f env >>= asI
theorem do_some (h : DE X l e f) : DO X (some e) (someI f) := by
 with_unfolding_all exact (PO.imp (po_some h) fun σ H Q ⟨G, H0, env, i, k, ef, q⟩ => by
  obtain ⟨d, e1, e2⟩ := bind_inv ef
  cases d with
  | int j => cases e2; exact ⟨G, H0, env, .int j, k, e1, fun v H' s r _ => ⟨j, r.intE, q H' s⟩⟩
  | _ => cases e2)
def cutD (ds : List D) (lo hi : Option Int) : List D := (ds.drop (HT.sIx ds.length 0 lo)).take (HT.sIx ds.length ds.length hi - HT.sIx ds.length 0 lo)
theorem cut_rep {K : PySem.W.Frag} {A : Addr → Prop} {H : Hp} {xs : List V} {ds : List D} {lo hi : Option Int} (r : Reps K A H xs ds) : Reps K A H (cutV xs lo hi) (cutD ds lo hi) := by
  unfold cutV cutD; rw [r.length]; exact (r.drop _).take _
def slice3 (f : Sl → Res D) (fl fh : Sl → Res (Option Int)) (g : D → Option Int → Option Int → Res D) : Sl → Res D := fun env => f env >>= fun a => fl env >>= fun lo => fh env >>= fun hi => g a lo hi
end
end M

set_option Elab.async false
set_option linter.all false
set_option maxRecDepth 100000
set_option maxHeartbeats 4000000
namespace M
open PySem PySem.Spec L2
open PyProof.Rows hiding St

/-! ### slots set -/
section
variable {K : PySem.W.Frag} {G : Addr → Prop} {H0 H H1 H' : Hp} {env env' : Sl} {σ σ' : L2.St} {i : Nat} {d : D} {v : V}
theorem get_set_ne {α : Type} {l : List α} {i j : Nat} {x : α} (h : i ≠ j) : (l.set i x)[j]? = l[j]? := List.getElem?_set_ne h
theorem get_set_eq {α : Type} {l : List α} {i : Nat} {x y : α} (h : (l.set i x)[i]? = some y) : y = x ∧ i < l.length := by
  have hl : i < l.length := by
    have := (List.getElem?_eq_some_iff.mp h).1
    simpa using this
  rw [List.getElem?_set_self hl] at h
  exact ⟨(Option.some.inj h).symm, hl⟩
theorem owned_set {s : Slot} {a : Addr} (h : Owned (env.set i s) (σ.set i (some v)) a) : Owned env σ a ∨ (∃ d, s = .own d ∧ v = .ref a) := by
  obtain ⟨j, d, h1, h2⟩ := h
  by_cases e : i = j
  · subst e
    obtain ⟨q1, _⟩ := get_set_eq h1
    obtain ⟨q2, _⟩ := get_set_eq h2
    exact .inr ⟨d, q1.symm, (Option.some.inj q2).symm⟩
  · rw [get_set_ne e] at h1 h2
    exact .inl ⟨j, d, h1, h2⟩
/-- a slot takes what nobody owns -/
theorem EnvOk.setS (k : EnvOk K G H0 env σ H) (r : Rep K (Sf G env σ) H v d) : EnvOk K G H0 (env.set i (.shr d)) (σ.set i (some v)) H := by
  have w : ∀ a, Sf G env σ a → Sf G (env.set i (.shr d)) (σ.set i (some v)) a := fun a n => ⟨fun o => (by
    rcases owned_set o with z | ⟨d', z, _⟩
    · exact n.1 z
    · cases z), n.2⟩
  refine ⟨by simp [k.len], k.base, k.g0, fun j e h => ?_, fun j e h => ?_, fun j j' e e' a h1 h2 h3 h4 => ?_⟩
  · by_cases z : i = j
    · subst z
      obtain ⟨q, hl⟩ := get_set_eq h
      cases q
      exact ⟨v, List.getElem?_set_self (by rw [k.len]; exact hl), r.weak w⟩
    · rw [get_set_ne z] at h ⊢
      obtain ⟨v', h1, h2⟩ := k.shr j e h
      exact ⟨v', h1, h2.weak w⟩
  · by_cases z : i = j
    · subst z
      obtain ⟨q, hl⟩ := get_set_eq h
      cases q
    · rw [get_set_ne z] at h ⊢
      obtain ⟨v', h1, h0, h2⟩ := k.own j e h
      exact ⟨v', h1, h0, h2.stay (fun _ _ e _ => e) w fun _ e => e⟩
  · have n1 : i ≠ j := fun z => by subst z; obtain ⟨q, _⟩ := get_set_eq h1; cases q
    have n2 : i ≠ j' := fun z => by subst z; obtain ⟨q, _⟩ := get_set_eq h2; cases q
    rw [get_set_ne n1] at h1 h3
    rw [get_set_ne n2] at h2 h4
    exact k.dis j j' e e' a h1 h2 h3 h4
/-- the things that a slot may own -/
def ownable : D → Bool
  | .lst _ => true
  | .dic _ _ => true
  | .dit _ _ => true
  | _ => false
theorem ownable_top {A : Addr → Prop} (r : Rep K A H v d) (h : ownable d = true) : ∃ a, v = .ref a ∧ A a ∧ (∃ o, H a = some o ∧ Mut (some o)) ∧ Top K (fun c => A c ∧ c ≠ a) H a d := by
  cases r with
  | lst e a r => exact ⟨_, rfl, a, ⟨_, e, trivial⟩, .lst e r⟩
  | dic e a k1 k2 r => exact ⟨_, rfl, a, ⟨_, e, trivial⟩, .dic e k1 k2 r⟩
  | dit e a k1 k2 r => exact ⟨_, rfl, a, ⟨_, e, trivial⟩, .dit e k1 k2 r⟩
  | _ => cases h
theorem new_of {a : Addr} (s : Same H H1) (nt : NewTop H (.ref a)) (h : ∃ o, H1 a = some o ∧ Mut (some o)) : H a = none := by
  cases e : H a with
  | none => rfl
  | some o =>
    obtain ⟨o', h1, h2⟩ := h
    rw [s a o e] at h1; cases h1
    exact (nt a rfl o e h2).elim
/-- a slot takes a list that is new -/
theorem EnvOk.setN (k : EnvOk K G H0 env σ H) (s : Same H H1) (r : Rep K (Sf G env σ) H1 v d) (nt : NewTop H v) (hd : ownable d = true) : EnvOk K G H0 (env.set i (.own d)) (σ.set i (some v)) H1 ∧ ∃ a, v = .ref a ∧ H a = none := by
  obtain ⟨a, rfl, ga, mt, top⟩ := ownable_top r hd
  have fa := new_of s nt mt
  refine ⟨?_, a, rfl, fa⟩
  have w : ∀ c, (Sf G env σ c ∧ c ≠ a) → Sf G (env.set i (.own d)) (σ.set i (some (V.ref a))) c := fun c n => ⟨fun o => (by
    rcases owned_set o with z | ⟨d', z, z2⟩
    · exact n.1.1 z
    · cases z2; exact n.2 rfl), n.1.2⟩
  have w2 : ∀ c, (Sf G env σ c ∧ H c ≠ none) → Sf G (env.set i (.own d)) (σ.set i (some (V.ref a))) c := fun c n => w c ⟨n.1, fun e => n.2 (by rw [e]; exact fa)⟩
  have k1 := k.grow s
  refine ⟨by simp [k.len], k1.base, k.g0, fun j e h => ?_, fun j e h => ?_, fun j j' e e' b h1 h2 h3 h4 => ?_⟩
  · by_cases z : i = j
    · subst z
      obtain ⟨q, hl⟩ := get_set_eq h
      cases q
    · rw [get_set_ne z] at h ⊢
      obtain ⟨v', h1, h2⟩ := k.shr j e h
      exact ⟨v', h1, (h2.inDom.grow s).weak w2⟩
  · by_cases z : i = j
    · subst z
      obtain ⟨q, hl⟩ := get_set_eq h
      cases q
      exact ⟨a, List.getElem?_set_self (by rw [k.len]; exact hl), Same.free k.base fa, top.stay (fun _ _ e _ => e) w fun _ e => e⟩
    · rw [get_set_ne z] at h ⊢
      obtain ⟨v', h1, h0, h2⟩ := k.own j e h
      refine ⟨v', h1, h0, ?_⟩
      cases h2 with
      | lst e2 r2 => exact .lst (s _ _ e2) ((r2.inDom.grow s).weak w2)
      | dic e2 k2 k3 r2 => exact .dic (s _ _ e2) k2 k3 ((r2.inDom.grow s).weak w2)
      | dit e2 k2 k3 r2 => exact .dit (s _ _ e2) k2 k3 ((r2.inDom.grow s).weak w2)
  · have new : ∀ (j : Nat) (e : D), env[j]? = some (.own e) → σ[j]? = some (some (.ref a)) → False := fun j e q1 q2 => by
      obtain ⟨u, q⟩ := k.there ⟨j, e, q1, q2⟩
      rw [fa] at q; cases q
    by_cases z1 : i = j
    · subst z1
      by_cases z2 : i = j'
      · exact z2
      · rw [get_set_ne z2] at h2 h4
        obtain ⟨q, _⟩ := get_set_eq h3
        cases q
        exact (new j' e' h2 h4).elim
    · rw [get_set_ne z1] at h1 h3
      by_cases z2 : i = j'
      · subst z2
        obtain ⟨q, _⟩ := get_set_eq h4
        cases q
        exact (new j e h1 h3).elim
      · rw [get_set_ne z2] at h2 h4
        exact k.dis j j' e e' b h1 h2 h3 h4
theorem Frm.set {s : Slot} (sm : Same H H1) (fresh : ∀ a d, s = .own d → v = .ref a → H a = none) : Frm env σ H (env.set i s) (σ.set i (some v)) H1 :=
  ⟨fun b o e _ => sm b o e, fun b o => by
    rcases owned_set o with z | ⟨d', z, z2⟩
    · exact .inl z
    · exact .inr (fresh b d' z z2), fun b e => Same.free sm e⟩
/-- what a slot may hold lives through a statement -/
theorem Frm.sf (f : Frm env σ H env' σ' H') : ∀ a, (Sf G env σ a ∧ H a ≠ none) → Sf G env' σ' a := fun a z => ⟨fun o => (f.more a o).elim z.1.1 z.2, z.1.2⟩
theorem Frm.st (k : EnvOk K G H0 env σ H) (f : Frm env σ H env' σ' H') : Stay (fun a => Sf G env σ a ∧ H a ≠ none) H H' := fun a o e m => f.keep a o e fun ow => (m (k.mutO ow e)).1.1 ow
theorem Frm.rep (k : EnvOk K G H0 env σ H) (f : Frm env σ H env' σ' H') (r : Rep K (Sf G env σ) H v d) : Rep K (Sf G env' σ') H' v d := r.inDom.stay (f.st k) f.sf
theorem Frm.reps (k : EnvOk K G H0 env σ H) (f : Frm env σ H env' σ' H') {vs : List V} {ds : List D} (r : Reps K (Sf G env σ) H vs ds) : Reps K (Sf G env' σ') H' vs ds := r.inDom.stay (f.st k) f.sf
end

/-- the slot that a new value takes -/
def slotN (d : D) : Slot := if ownable d = true then .own d else .shr d
theorem EnvOk.setNew {K : PySem.W.Frag} {G : Addr → Prop} {H0 H H1 : Hp} {env : Sl} {σ : L2.St} {i : Nat} {d : D} {v : V} (k : EnvOk K G H0 env σ H) (s : Same H H1) (r : Rep K (Sf G env σ) H1 v d) (nt : NewTop H v) :
    EnvOk K G H0 (env.set i (slotN d)) (σ.set i (some v)) H1 ∧ Frm env σ H (env.set i (slotN d)) (σ.set i (some v)) H1 := by
  unfold slotN
  by_cases h : ownable d = true
  · rw [if_pos h]
    obtain ⟨z, a', e', fa⟩ := k.setN (i := i) s r nt h
    refine ⟨z, .set s fun a d' _ e => ?_⟩
    rw [e] at e'; cases e'; exact fa
  · rw [if_neg h]
    exact ⟨(k.grow s).setS r, .set s fun _ _ z _ => by cases z⟩

/-! ### statements -/
def nxO : Sl → Res Out := fun env => .ok (.nx env)
def rtN : Sl → Res Out := fun _ => .ok (.rt true .non)
def bkO : Sl → Res Out := fun env => .ok (.bk env)
def ctO : Sl → Res Out := fun env => .ok (.ct env)
def dropO (f : Sl → Res D) : Sl → Res Out := fun env => f env >>= fun _ => .ok (.nx env)
def augI (h : Int → Int → Int) (a b : D) : Res D := match a, b with
  | .int m, .int n => .ok (.int (h m n))
  | _, _ => .stuck
def seqO (g1 g2 : Sl → Res Out) : Sl → Res Out := fun env => g1 env >>= fun o => match o with
  | .nx env' => g2 env'
  | .rt fr d => .ok (.rt fr d)
  | .bk env' => .ok (.bk env')
  | .ct env' => .ok (.ct env')
section
variable {X : Cx} {e c tg : Expr} {st : Stmt} {rest body orelse : List Stmt} {pos : Pos} {l : Lv} {f : Sl → Res D} {g g1 g2 : Sl → Res Out}
theorem dss_nil : DSs X [] nxO := by
 with_unfolding_all exact (PSs.imp pss_nil fun E σ H ⟨G, H0, env, o, k, ef, q⟩ => by
  cases ef
  exact q σ H k (Frm.refl (Same.refl H)))
/-- what is wanted behind a statement, from another's start -/
theorem out_tr {K : PySem.W.Frag} {G : Addr → Prop} {H0 H H' : Hp} {env env' : Sl} {σ σ' : L2.St} {E : Ends} {o : Out} (f : Frm env σ H env' σ' H') (q : Post K G H0 env σ H E o) : Post K G H0 env' σ' H' E o := by
  cases o with
  | nx e => exact fun σ2 H2 k2 f2 => q σ2 H2 k2 (f.trans f2)
  | bk e => exact fun σ2 H2 k2 f2 => q σ2 H2 k2 (f.trans f2)
  | ct e => exact fun σ2 H2 k2 f2 => q σ2 H2 k2 (f.trans f2)
  | rt fr d => exact q
theorem dss_cons (h1 : DS X st g1) (h2 : DSs X rest g2) : DSs X (st :: rest) (seqO g1 g2) := by
 with_unfolding_all exact (PSs.imp (pss_cons h1 h2) fun E σ H ⟨G, H0, env, o, k, ef, q⟩ => by
  obtain ⟨o1, e1, e2⟩ := bind_inv ef
  refine ⟨G, H0, env, o1, k, e1, ?_⟩
  cases o1 with
  | nx env1 => exact fun σ' H' k' f' => ⟨G, H0, env1, o, k', e2, out_tr f' q⟩
  | rt fr d => cases e2; exact q
  | bk e' => cases e2; exact q
  | ct e' => cases e2; exact q)
theorem dss_one (h1 : DS X st g1) : DSs X [st] g1 := by
 with_unfolding_all exact (PSs.imp (pss_one h1) fun E σ H q => q)
/-- return of a new thing -/
def retO (f : Sl → Res D) : Sl → Res Out := fun env => f env >>= fun d => .ok (.rt true d)
theorem ds_ret (h : DE X .t e f) : DS X (.Return (some e) pos) (retO f) := by
 with_unfolding_all exact (PS.imp (ps_ret h) fun E σ H ⟨G, H0, env, o, k, ef, q⟩ => by
  obtain ⟨d, e1, e2⟩ := bind_inv ef
  cases e2
  exact ⟨G, H0, env, d, k, e1, fun v H' s r nt => q v H' (k.base.trans s) (r.weak fun a z => z.2) fun _ => NewTop.grow k.base nt⟩)
/-- return of what a slot may hold -/
def retS (f : Sl → Res D) : Sl → Res Out := fun env => f env >>= fun d => .ok (.rt false d)
theorem ds_retS (h : DE X .s e f) : DS X (.Return (some e) pos) (retS f) := by
 with_unfolding_all exact (PS.imp (ps_ret h) fun E σ H ⟨G, H0, env, o, k, ef, q⟩ => by
  obtain ⟨d, e1, e2⟩ := bind_inv ef
  cases e2
  exact ⟨G, H0, env, d, k, e1, fun v H' s r nt => q v H' (k.base.trans s) (r.weak fun a z => z.2) fun z => by cases z⟩)
/-- return of a slot's own list -/
def rdO (i : Nat) : Sl → Res D := fun env => match env[i]? with
  | some (.own d) => .ok d
  | some (.shr d) => must (d.imm = true) (.ok d)
  | _ => .stuck
theorem ds_retV (i : Nat) {x : Str} {p : Pos} (hN : X.N[i]? = some x := by rfl) (hv : Vis X.env.scope x := by first | exact Or.inl rfl | exact Or.inr (Or.inl rfl) | exact Or.inr (Or.inr rfl)) (hd : (x == ("__debug__" : Str)) = false := by decide)
    (hcd : (x == ("__classdict__" : Str)) = false := by decide) : DS X (.Return (some (.Name x p)) pos) (retO (rdO i)) := by
 with_unfolding_all exact (PS.imp (ps_ret (pe_var hN hv hd hcd)) fun E σ H ⟨G, H0, env, o, k, ef, q⟩ => by
  obtain ⟨d, e1, e2⟩ := bind_inv ef
  cases e2
  unfold rdO at e1
  split at e1
  · rename_i d' hs
    cases e1
    obtain ⟨a, h1, h0, h2⟩ := k.own i d hs
    refine ⟨.ref a, h1, q _ H k.base (h2.rep (fun c z => ⟨z.2, own_ne k hs h1 c z⟩) (k.g0 a h0)) fun _ b e o' q' => ?_⟩
    cases e
    rw [h0] at q'; cases q'
  · rename_i d' hs
    obtain ⟨hm, e3⟩ := must_inv e1
    cases e3
    obtain ⟨v, h1, h2⟩ := k.shr i d hs
    exact ⟨v, h1, q v H k.base (h2.imm hm) fun _ => imm_top k.base h2 hm⟩
  · cases e1)
def ifO (t : Sl → Res Bool) (g1 g2 : Sl → Res Out) : Sl → Res Out := fun env => t env >>= fun b => if b = true then g1 env else g2 env
theorem ds_if {t : Sl → Res Bool} (hc : DT X c t) (h1 : DSs X body g1) (h2 : DSs X orelse g2) : DS X (.If c body orelse pos) (ifO t g1 g2) := by
 with_unfolding_all exact (PS.imp (ps_if hc h1 h2) fun E σ H ⟨G, H0, env, o, k, ef, q⟩ => by
  obtain ⟨b, e1, e2⟩ := bind_inv ef
  refine ⟨G, H0, env, b, k, e1, fun H' s => ?_⟩
  cases b with
  | true => rw [if_pos rfl] at e2 ⊢; exact ⟨G, H0, env, o, k.grow s, e2, out_tr (Frm.refl s) q⟩
  | false => rw [if_neg Bool.false_ne_true] at e2 ⊢; exact ⟨G, H0, env, o, k.grow s, e2, out_tr (Frm.refl s) q⟩)
/-- name = a new thing -/
def setO (i : Nat) (f : Sl → Res D) : Sl → Res Out := fun env => f env >>= fun d => .ok (.nx (env.set i (slotN d)))
theorem ds_set (i : Nat) {x : Str} {pos' : Pos} (hN : X.N.Nodup) (h : DE X .t e f) (hi : X.N[i]? = some x := by rfl) (hx : Loc X.env.scope x := by first | exact Or.inl rfl | exact Or.inr rfl) (hs : swapsWith e (some (.Name x pos')) pos.line X.env = pure false := by rfl)
    (hf : X.fn x = true ∨ X.env.scope.names.lookup x = some .local := by first | exact .inl rfl | exact .inr rfl | assumption) : DS X (.Assign [.Name x pos'] e pos) (setO i f) := by
 with_unfolding_all exact (
  PS.imp (ps_set (i := i) hN hi hx h hs hf) fun E σ H ⟨G, H0, env, o, k, ef, q⟩ => by
    obtain ⟨d, e1, e2⟩ := bind_inv ef
    cases e2
    exact ⟨G, H0, env, d, k, e1, fun v H' s r nt => q _ H' (k.setNew s r nt).1 (k.setNew s r nt).2⟩)
/-- name = what is shared -/
def setOs (i : Nat) (f : Sl → Res D) : Sl → Res Out := fun env => f env >>= fun d => .ok (.nx (env.set i (.shr d)))
theorem ds_setS (i : Nat) {x : Str} {pos' : Pos} (hN : X.N.Nodup) (h : DE X .s e f) (hi : X.N[i]? = some x := by rfl) (hx : Loc X.env.scope x := by first | exact Or.inl rfl | exact Or.inr rfl) (hs : swapsWith e (some (.Name x pos')) pos.line X.env = pure false := by rfl)
    (hf : X.fn x = true ∨ X.env.scope.names.lookup x = some .local := by first | exact .inl rfl | exact .inr rfl | assumption) : DS X (.Assign [.Name x pos'] e pos) (setOs i f) := by
 with_unfolding_all exact (
  PS.imp (ps_set (i := i) hN hi hx h hs hf) fun E σ H ⟨G, H0, env, o, k, ef, q⟩ => by
    obtain ⟨d, e1, e2⟩ := bind_inv ef
    cases e2
    exact ⟨G, H0, env, d, k, e1, fun v H' s r _ => q _ H' ((k.grow s).setS r) (.set s fun _ _ z _ => by cases z)⟩)
end
end M

set_option Elab.async false
set_option linter.all false
set_option maxRecDepth 100000
set_option maxHeartbeats 4000000
namespace M
open PySem PySem.Spec L2
open PyProof.Rows hiding St

/-! ### texts walked sign by sign -/
def Its (x : Str) : It := ⟨fun i _ => i < x.cps.size, fun i H v H' => H' = H ∧ ∃ c, x.cps[i]? = some c ∧ v = .str ⟨#[c]⟩, fun i _ => x.cps.size ≤ i⟩
theorem turn_ascii {P : Program} {w : World} {K : PySem.W.Frag} {tg : Expr} (it : Addr) (x : Str) (t : Tok) : Turn P w K tg (Its x) [it] it (fun i h => h.IsStrIter it "str_ascii_iterator" x t i) where
  mem := by simp
  obj := fun i h st b hb => by
    have e : b = it := by simpa using hb
    subst e
    obtain ⟨o, e, c, d⟩ := st
    exact ⟨o, e, fun v z => by rw [d] at z; cases z⟩
  keep := fun i h h' st k => let ⟨o, ho, r⟩ := st; ⟨o, k it (by simp) o ho, r⟩
  item := by
    intro X hP hw hK hc i pins s σ H E I hf st hg
    subst hP hw hK
    have hi : i < x.cps.size := hg
    obtain ⟨f0, f1, f2, f3, f4, f5⟩ := hf it (by simp)
    refine wpAny_pyNext_ascii_item st (c := x.cps[i]) (by simp [hi]) fun h' st' sb => ?_
    have I1 : Inv X pins σ H { s with heap := h', toks := s.toks + 1 } := I.turned (fun b o hb e => (sb.2 b hb).trans e) f0 f1 f3 f4 f5
    obtain ⟨o, e, c, d⟩ := id st'
    exact ⟨_, rfl, go_of (s := { s with heap := h', toks := s.toks + 1 }) e c d (by decide) ⟨.str ⟨#[x.cps[i]]⟩, H, I1, ⟨_, rfl⟩, ⟨rfl, _, by simp [hi], rfl⟩, st', fun b hb => (hf b hb).1⟩⟩
  done := by
    intro X hP hw hK hc i pins s σ H E I hf st hg
    subst hP hw hK
    have hi : x.cps.size ≤ i := hg
    obtain ⟨f0, f1, f2, f3, f4, f5⟩ := hf it (by simp)
    exact wpAny_pyNext_ascii_end (I.ok.hd hc) st (by simp; exact hi) fun h' eb => ⟨rfl, I.turned (t' := s.toks) (fun b o hb e => eb b o hb e) f0 f1 f3 f4 f5⟩
  self := fun _ _ _ _ _ st h => wpAny_pyIter_striter_ascii st h
theorem turn_wide {P : Program} {w : World} {K : PySem.W.Frag} {tg : Expr} (it : Addr) (x : Str) (t : Tok) : Turn P w K tg (Its x) [it] it (fun i h => h.IsStrIter it "str_iterator" x t i) where
  mem := by simp
  obj := fun i h st b hb => by
    have e : b = it := by simpa using hb
    subst e
    obtain ⟨o, e, c, d⟩ := st
    exact ⟨o, e, fun v z => by rw [d] at z; cases z⟩
  keep := fun i h h' st k => let ⟨o, ho, r⟩ := st; ⟨o, k it (by simp) o ho, r⟩
  item := by
    intro X hP hw hK hc i pins s σ H E I hf st hg
    subst hP hw hK
    have hi : i < x.cps.size := hg
    obtain ⟨f0, f1, f2, f3, f4, f5⟩ := hf it (by simp)
    refine wpAny_pyNext_wide_item st (c := x.cps[i]) (by simp [hi]) fun h' st' sb => ?_
    have I1 : Inv X pins σ H { s with heap := h', toks := s.toks + 1 } := I.turned (fun b o hb e => (sb.2 b hb).trans e) f0 f1 f3 f4 f5
    obtain ⟨o, e, c, d⟩ := id st'
    exact ⟨_, rfl, go_of (s := { s with heap := h', toks := s.toks + 1 }) e c d (by decide) ⟨.str ⟨#[x.cps[i]]⟩, H, I1, ⟨_, rfl⟩, ⟨rfl, _, by simp [hi], rfl⟩, st', fun b hb => (hf b hb).1⟩⟩
  done := by
    intro X hP hw hK hc i pins s σ H E I hf st hg
    subst hP hw hK
    have hi : x.cps.size ≤ i := hg
    obtain ⟨f0, f1, f2, f3, f4, f5⟩ := hf it (by simp)
    exact wpAny_pyNext_wide_end (I.ok.hd hc) st (by simp; exact hi) fun h' eb => ⟨rfl, I.turned (t' := s.toks) (fun b o hb e => eb b o hb e) f0 f1 f3 f4 f5⟩
  self := fun _ _ _ _ _ st h => wpAny_pyIter_striter_wide st h

/-! ### what is walked -/
/-- J walks xs where P holds -/
def Walk (J : It) (xs : List V) (P : Hp → Prop) : Prop := ∀ i H, P H → (i < xs.length → J.go i H) ∧ (i < xs.length → ∀ x H', J.yld i H x H' → H' = H ∧ xs[i]? = some x) ∧ (xs.length ≤ i → J.stop i H)
/-- what an iterator gives: a thing that was there, or a tuple of such things just laid -/
def Yd (K : PySem.W.Frag) (A : Addr → Prop) (H1 H H' : Hp) (x : V) (d : D) : Prop :=
  (H' = H ∧ Rep K A H1 x d) ∨ ∃ p vs es, H p = none ∧ x = .ref p ∧ H' = L2.upd H p (.tup vs) ∧ d = .tup es ∧ Reps K A H1 vs es
def WalkD (K : PySem.W.Frag) (A : Addr → Prop) (H1 : Hp) (J : It) (ds : List D) (P : Hp → Prop) : Prop := ∀ i H, P H → (i < ds.length → J.go i H) ∧ (∀ d, ds[i]? = some d → ∀ x H', J.yld i H x H' → Yd K A H1 H H' x d) ∧ (ds.length ≤ i → J.stop i H)
theorem Walk.toD {K : PySem.W.Frag} {A : Addr → Prop} {H1 : Hp} {J : It} {xs : List V} {ds : List D} {P : Hp → Prop} (rs : Reps K A H1 xs ds) (w : Walk J xs P) : WalkD K A H1 J ds P := fun i H p => by
  have hl := rs.length
  obtain ⟨w1, w2, w3⟩ := w i H p
  refine ⟨fun h => w1 (by omega), fun d hd x H' y => ?_, fun h => w3 (by omega)⟩
  have hi : i < ds.length := (List.getElem?_eq_some_iff.mp hd).1
  obtain ⟨e, hx⟩ := w2 (by omega) x H' y
  obtain ⟨d', hd', r⟩ := rs.get' hx
  rw [hd] at hd'; cases hd'
  exact .inl ⟨e, r⟩
def tI (K : PySem.W.Frag) (f : Sl → Res (List D)) : TI := fun σ H R => ∃ G H0 env ds, EnvOk K G H0 env σ H ∧ f env = .ok ds ∧
  ∀ J H1 P, Same H H1 → WalkD K (Sf G env σ) H1 J ds P → P H1 → (∀ env' σ' H', Frm env σ H1 env' σ' H' → P H') → R J H1
@[irreducible] def DI (X : Cx) (tg e : Expr) (f : Sl → Res (List D)) : Prop := PI X tg e (tI X.K f)
def signs (z : Str) : List D := z.cps.toList.map fun c => .str ⟨#[c]⟩
def iterD : D → Res (List D)
  | .lst ds => .ok ds
  | .scr ds => .ok ds
  | .tup ds => .ok ds
  | .str z => .ok (signs z)
  | _ => .stuck
def signV (z : Str) : List V := z.cps.toList.map fun c => .str ⟨#[c]⟩
theorem signs_rep {K : PySem.W.Frag} {A : Addr → Prop} {H : Hp} (z : Str) : Reps K A H (signV z) (signs z) := by
  unfold signV signs
  generalize z.cps.toList = l
  induction l with
  | nil => exact .nil
  | cons c r ih => exact .cons (.str _ (one_len c)) ih
section
variable {X : Cx} {tg e : Expr} {f : Sl → Res D} {l : Lv}
def itF (f : Sl → Res D) : Sl → Res (List D) := fun env => f env >>= iterD
theorem di_seq (h : DE X .s e f) : DI X tg e (itF f) := by
 with_unfolding_all exact (by
  intro pins s σ H R I ⟨G, H0, env, ds, k, ef, q⟩
  obtain ⟨d, e1, e2⟩ := bind_inv ef
  refine thn (h pins s σ H (fun v H1 => Same H H1 ∧ Rep X.K (Sf G env σ) H1 v d) I ⟨G, H0, env, d, k, e1, fun v H' s r _ => ⟨s, r⟩⟩) fun v s1 ⟨x, H1, I1, r1, sm, rep⟩ => ?_
  have k1 := k.grow sm
  cases d with
  | lst ds' =>
    cases e2
    obtain ⟨a, xs, rfl, ha, na, rs⟩ := rep.lstE
    cases r1
    obtain ⟨its, rv, p, hz⟩ := I1.list (.of ha)
    refine wpAny_pyIter_list p.isList ?_
    refine ⟨s1.heap.objs.size, [s1.heap.objs.size], _, _, H1, rfl, I1.kept (t' := s1.toks) fun b o e => Heap.get?_push_of_some _ e, turn_list a _, ⟨_, Heap.get?_push_size _ rfl, rfl, rfl⟩, fun b hb => ?_, ?_⟩
    · have e : b = s1.heap.objs.size := by simpa using hb
      subst e
      exact I1.fpOk (Nat.le_refl _) (I1.hok.fresh (Nat.le_refl _))
    · refine q _ H1 (fun H => H a = some (.lst xs)) sm (Walk.toD rs.low fun i H' p => ?_) ha (fun env' σ' H' fr => fr.keep a _ ha na.1)
      exact ⟨fun hi => ⟨xs, xs[i], .of p, by simp [hi]⟩, fun _ x H' y => ⟨y.1, y.2 xs (.of p)⟩, fun hi => ⟨xs, .of p, hi⟩⟩
  | scr ds' =>
    cases e2
    obtain ⟨a, xs, rfl, ha, rs⟩ := rep.scrE
    cases r1
    obtain ⟨its, rv, p, hz⟩ := I1.list ha.sql
    refine wpAny_pyIter_list p.isList ?_
    refine ⟨s1.heap.objs.size, [s1.heap.objs.size], _, _, H1, rfl, I1.kept (t' := s1.toks) fun b o e => Heap.get?_push_of_some _ e, turn_list a _, ⟨_, Heap.get?_push_size _ rfl, rfl, rfl⟩, fun b hb => ?_, ?_⟩
    · have e : b = s1.heap.objs.size := by simpa using hb
      subst e
      exact I1.fpOk (Nat.le_refl _) (I1.hok.fresh (Nat.le_refl _))
    · refine q _ H1 (fun H => LsK X.K H a xs) sm (Walk.toD rs fun i H' p => ?_) ha (fun env' σ' H' fr => ?_)
      · exact ⟨fun hi => ⟨xs, xs[i], p.sql, by simp [hi]⟩, fun _ x H' y => ⟨y.1, y.2 xs p.sql⟩, fun hi => ⟨xs, p.sql, hi⟩⟩
      · rcases ha with ⟨o, eo⟩ | z
        · exact .inl ⟨o, fr.keep a _ eo fun ow => (k1.mutO ow eo).elim⟩
        · exact .inr z
  | tup ds' =>
    cases e2
    obtain ⟨a, xs, rfl, ha, rs⟩ := rep.tupE
    cases r1
    obtain ⟨its, rv, p, hz⟩ := I1.tuple (.of ha)
    refine wpAny_pyIter_tuple (show s1.heap.IsTuple a its.toArray from p) ?_
    refine ⟨s1.heap.objs.size, [s1.heap.objs.size], _, _, H1, rfl, I1.kept (t' := s1.toks) fun b o e => Heap.get?_push_of_some _ e, turn_tuple a _, ⟨_, Heap.get?_push_size _ rfl, rfl, rfl⟩, fun b hb => ?_, ?_⟩
    · have e : b = s1.heap.objs.size := by simpa using hb
      subst e
      exact I1.fpOk (Nat.le_refl _) (I1.hok.fresh (Nat.le_refl _))
    · refine q _ H1 (fun H => H a = some (.tup xs)) sm (Walk.toD rs fun i H' p => ?_) ha (fun env' σ' H' fr => fr.keep a _ ha fun ow => (k1.mutO ow ha).elim)
      exact ⟨fun hi => ⟨xs, xs[i], .of p, by simp [hi]⟩, fun _ x H' y => ⟨y.1, y.2 xs (.of p)⟩, fun hi => ⟨xs, .of p, hi⟩⟩
  | str z =>
    cases e2
    obtain ⟨rfl, hz⟩ := rep.strE
    obtain ⟨t, rfl⟩ := r1
    have fin : ∀ (J : It) , J = Its z → ∃ (xs : List V) (P : Hp → Prop), Reps X.K (Sf G env σ) H1 xs (signs z) ∧ Walk J xs P ∧ P H1 ∧ ∀ env' σ' H', Frm env σ H1 env' σ' H' → P H' := by
      rintro J rfl
      refine ⟨signV z, fun _ => True, signs_rep z, fun i H' _ => ?_, trivial, fun _ _ _ _ => trivial⟩
      have hl : (signV z).length = z.cps.size := by simp [signV]
      refine ⟨fun hi => by rw [hl] at hi; exact hi, fun hi x H2 y => ?_, fun hi => by rw [hl] at hi; exact hi⟩
      obtain ⟨y1, c, y2, y3⟩ := y
      refine ⟨y1, ?_⟩
      subst y3
      simp [signV, y2]
    obtain ⟨xs, P, h1, h2, h3, h4⟩ := fin (Its z) rfl
    cases hall : z.cps.all (· < 128) with
    | true =>
      refine wpAny_pyIter_ascii hall ?_
      refine ⟨s1.heap.objs.size, [s1.heap.objs.size], _, _, H1, rfl, I1.kept (t' := s1.toks) fun b o e => Heap.get?_push_of_some _ e, turn_ascii _ z t, ⟨_, Heap.get?_push_size _ rfl, rfl, rfl⟩, fun b hb => ?_, q _ H1 P sm (Walk.toD h1 h2) h3 h4⟩
      have e : b = s1.heap.objs.size := by simpa using hb
      subst e
      exact I1.fpOk (Nat.le_refl _) (I1.hok.fresh (Nat.le_refl _))
    | false =>
      refine wpAny_pyIter_wide hall ?_
      refine ⟨s1.heap.objs.size, [s1.heap.objs.size], _, _, H1, rfl, I1.kept (t' := s1.toks) fun b o e => Heap.get?_push_of_some _ e, turn_wide _ z t, ⟨_, Heap.get?_push_size _ rfl, rfl, rfl⟩, fun b hb => ?_, q _ H1 P sm (Walk.toD h1 h2) h3 h4⟩
      have e : b = s1.heap.objs.size := by simpa using hb
      subst e
      exact I1.fpOk (Nat.le_refl _) (I1.hok.fresh (Nat.le_refl _))
  | _ => cases e2)
def intsD (lo : Int) (n : Nat) : List D := (List.range n).map fun (i : Nat) => .int (lo + (i : Int))
def intsV (lo : Int) (n : Nat) : List V := (List.range n).map fun (i : Nat) => .int (lo + (i : Int))
theorem intsD_rep {K : PySem.W.Frag} {A : Addr → Prop} {H : Hp} (lo : Int) (n : Nat) : Reps K A H (intsV lo n) (intsD lo n) := by
  unfold intsV intsD
  generalize List.range n = l
  induction l with
  | nil => exact .nil
  | cons c r ih => exact .cons (.int _) ih
theorem walk_range (lo : Int) (n : Nat) : Walk (Itr lo n) (intsV lo n) (fun _ => True) := fun i H _ => by
  have hl : (intsV lo n).length = n := by simp [intsV]
  refine ⟨fun hi => by rw [hl] at hi; exact hi, fun hi x H2 y => ?_, fun hi => by rw [hl] at hi; exact hi⟩
  obtain ⟨y1, y2⟩ := y
  refine ⟨y1, ?_⟩
  subst y2
  rw [hl] at hi
  simp [intsV, hi]

def rng1 : List D → Res (List D)
  | [.int j] => must (-(2 ^ 62) ≤ j ∧ j < 2 ^ 62) (.ok (intsD 0 j.toNat))
  | _ => .stuck
theorem Reps.one {K : PySem.W.Frag} {A : Addr → Prop} {H : Hp} {vs : List V} {d : D} (r : Reps K A H vs [d]) : ∃ v, vs = [v] ∧ Rep K A H v d := by
  cases r with
  | cons h t => cases t; exact ⟨_, rfl, h⟩
theorem Reps.two {K : PySem.W.Frag} {A : Addr → Prop} {H : Hp} {vs : List V} {d d' : D} (r : Reps K A H vs [d, d']) : ∃ v v', vs = [v, v'] ∧ Rep K A H v d ∧ Rep K A H v' d' := by
  cases r with
  | cons h t =>
    obtain ⟨v', rfl, h'⟩ := t.one
    exact ⟨_, _, rfl, h, h'⟩
theorem PI.imp {t t' : TI} (h : PI X tg e t) (w : ∀ σ H Q, t' σ H Q → t σ H Q) : PI X tg e t' := fun pins s σ H Q I q => h pins s σ H Q I (w σ H Q q)
def rngF (fa : Sl → Res (List D)) : Sl → Res (List D) := fun env => fa env >>= rng1
theorem di_range1 {a : Expr} {p pos : Pos} {fa : Sl → Res (List D)} (hg : Gl X "range") (hm : X.mg "range" = none) (ha : DA X l [a] fa) (hs : starEach [a] X.env = [(false, eval a X.env)] := by rfl) : DI X tg (.Call (.Name "range" p) [a] [] pos) (rngF fa) := by
 with_unfolding_all exact (
  PI.imp (pi_range1 hg hm ha hs) fun σ H R ⟨G, H0, env, ds, k, ef, q⟩ => by
    obtain ⟨as, e1, e2⟩ := bind_inv ef
    refine ⟨G, H0, env, as, k, e1, fun vs H1 s1 r1 => ?_⟩
    unfold rng1 at e2
    split at e2
    · obtain ⟨⟨h1, h2⟩, e3⟩ := must_inv e2
      cases e3
      obtain ⟨v, rfl, r⟩ := r1.one
      cases r.intE
      exact ⟨_, rfl, h1, h2, q _ H1 _ s1 (Walk.toD (intsD_rep 0 _) (walk_range 0 _)) trivial fun _ _ _ _ => trivial⟩
    · cases e2)
def rng2 : List D → Res (List D)
  | [.int i, .int j] => must ((-(2 ^ 62) ≤ i ∧ i < 2 ^ 62) ∧ -(2 ^ 62) ≤ j ∧ j < 2 ^ 62) (.ok (intsD i (j - i).toNat))
  | _ => .stuck
def rng2F (fa : Sl → Res (List D)) : Sl → Res (List D) := fun env => fa env >>= rng2
theorem di_range2 {a b : Expr} {p pos : Pos} {fa : Sl → Res (List D)} (hg : Gl X "range") (hm : X.mg "range" = none) (ha : DA X l [a, b] fa) (hs : starEach [a, b] X.env = [(false, eval a X.env), (false, eval b X.env)] := by rfl) (hs2 : starEach [b] X.env = [(false, eval b X.env)] := by rfl) :
    DI X tg (.Call (.Name "range" p) [a, b] [] pos) (rng2F fa) := by
 with_unfolding_all exact (
  PI.imp (pi_range2 hg hm ha hs hs2) fun σ H R ⟨G, H0, env, ds, k, ef, q⟩ => by
    obtain ⟨as, e1, e2⟩ := bind_inv ef
    refine ⟨G, H0, env, as, k, e1, fun vs H1 s1 r1 => ?_⟩
    unfold rng2 at e2
    split at e2
    · obtain ⟨⟨⟨h1, h2⟩, h3, h4⟩, e3⟩ := must_inv e2
      cases e3
      obtain ⟨v, v', rfl, r, r'⟩ := r1.two
      cases r.intE
      cases r'.intE
      exact ⟨_, _, rfl, ⟨h1, h2, h3, h4⟩, q _ H1 _ s1 (Walk.toD (intsD_rep _ _) (walk_range _ _)) trivial fun _ _ _ _ => trivial⟩
    · cases e2)

/-! ### targets -/
def tG (K : PySem.W.Frag) (t : D → Sl → Res Sl) : TG := fun v σ H Q => ∃ G H0 env d env', EnvOk K G H0 env σ H ∧ Rep K (Sf G env σ) H v d ∧ t d env = .ok env' ∧ ∀ σ', EnvOk K G H0 env' σ' H → Frm env σ H env' σ' H → Q σ' H
@[irreducible] def DG (X : Cx) (tg : Expr) (t : D → Sl → Res Sl) : Prop := PG X tg (tG X.K t)
theorem PG.imp {t t' : TG} (h : PG X tg t) (w : ∀ v σ H Q, t' v σ H Q → t v σ H Q) : PG X tg t' := fun pins s σ H v u Q I r q => h pins s σ H v u Q I r (w v σ H Q q)
def gN (i : Nat) : D → Sl → Res Sl := fun d env => .ok (env.set i (.shr d))
theorem dg_name (i : Nat) {x : Str} {pos : Pos} (hN : X.N.Nodup) (hi : X.N[i]? = some x := by rfl) (hx : Loc X.env.scope x := by first | exact Or.inl rfl | exact Or.inr rfl)
    (hf : X.fn x = true ∨ X.env.scope.names.lookup x = some .local := by first | exact .inl rfl | exact .inr rfl | assumption) : DG X (.Name x pos) (gN i) := by
 with_unfolding_all exact (
  PG.imp (pg_name hN hi hx hf) fun v σ H Q ⟨G, H0, env, d, env', k, r, e, q⟩ => by
    cases e
    exact q _ (k.setS r) (.set (Same.refl H) fun _ _ z _ => by cases z))
/-- a, b -/
def g2 (t u : D → Sl → Res Sl) : D → Sl → Res Sl := fun d env => match d with
  | .tup [x, y] => t x env >>= fun env' => u y env'
  | _ => .stuck
theorem dg_two {a b : Expr} {k : Nat} {pos : Pos} {t u : D → Sl → Res Sl} (hc : X.calm = true) (h1 : DG X a t) (h2 : DG X b u)
    (hs : (assignEach [a, b] X.env).map (·.2) = assign a X.env :: (assignEach [b] X.env).map (·.2) := by rfl) (hs2 : (assignEach [b] X.env).map (·.2) = assign b X.env :: (assignEach [] X.env).map (·.2) := by rfl)
    (hn : (assignEach [a, b] X.env).length = 2 := by rfl) (hst : (assignEach [a, b] X.env).findIdx? (·.1) = none := by rfl) : DG X (.Tuple [a, b] k pos) (g2 t u) := by
 with_unfolding_all exact (
  PG.imp (pg_tup (n := 2) hc (pgs_cons h1 (pgs_cons h2 pgs_nil hs2) hs) hn hst) fun v σ H Q ⟨G, H0, env, d, env', k, r, e, q⟩ => by
    unfold g2 at e
    split at e
    · obtain ⟨env1, e1, e2⟩ := bind_inv e
      obtain ⟨a, xs, rfl, ha, rs⟩ := r.tupE
      obtain ⟨v1, v2, rfl, r1, r2⟩ := rs.two
      refine ⟨a, _, rfl, .of ha, rfl, v1, [v2], rfl, G, H0, env, _, env1, k, r1, e1, fun σ1 k1 f1 => ⟨v2, [], rfl, G, H0, env1, _, env', k1, f1.rep k r2, e2, fun σ2 k2 f2 => ⟨rfl, q σ2 k2 (f1.trans f2)⟩⟩⟩
    · cases e)
/-- target = what is shared or new -/
def asgO (f : Sl → Res D) (t : D → Sl → Res Sl) : Sl → Res Out := fun env => f env >>= fun d => t d env >>= fun env' => .ok (.nx env')
theorem ds_asg {pos : Pos} {t : D → Sl → Res Sl} (he : DE X .s e f) (hg : DG X tg t) (hs : swapsWithSole [tg] e pos.line X.env = pure false := by rfl) (hw : swappedStores [tg] e X.env = pure none := by rfl)
    (h1 : (assignEach [tg] X.env).map (·.2) = [assign tg X.env] := by rfl) : DS X (.Assign [tg] e pos) (asgO f t) := by
 with_unfolding_all exact (
  PS.imp (ps_asg he hg hs hw h1) fun E σ H ⟨G, H0, env, o, k, ef, q⟩ => by
    obtain ⟨d, e1, e2⟩ := bind_inv ef
    obtain ⟨env', e3, e4⟩ := bind_inv e2
    cases e4
    exact ⟨G, H0, env, d, k, e1, fun v H' s r _ => ⟨G, H0, env, d, env', k.grow s, r, e3, fun σ' k' f' => q σ' H' k' (f'.grow s)⟩⟩)

/-! ### for -/
def forD (body : D → Sl → Res Out) : List D → Sl → Res Out
  | [], env => .ok (.nx env)
  | d :: ds, env => body d env >>= fun o => match o with
    | .nx env' => forD body ds env'
    | .ct env' => forD body ds env'
    | .bk env' => .ok (.nx env')
    | .rt fr d => .ok (.rt fr d)
def turnD (t : D → Sl → Res Sl) (g : Sl → Res Out) : D → Sl → Res Out := fun d env => t d env >>= g
def forO (f : Sl → Res (List D)) (t : D → Sl → Res Sl) (g : Sl → Res Out) : Sl → Res Out := fun env => f env >>= fun ds => forD (turnD t g) ds env
theorem ds_for {pos : Pos} {body : List Stmt} {fi : Sl → Res (List D)} {t : D → Sl → Res Sl} {g : Sl → Res Out} (hp : PassesOwn (model X.prog X.w) X.A X.env X.xe) (hc : X.calm = true) (hi : DI X tg e fi) (hg : DG X tg t) (hb : DSs X body g)
    (hs : ∀ x, foldedSetIterable e X.env x = pure x := by intro _; rfl) : DS X (.For tg e body [] pos) (forO fi t g) := by
 with_unfolding_all exact (
  PS.imp (ps_for hp hc hi hg hb hs) fun E σ H ⟨G, H0, env, o, k, ef, q⟩ => by
    obtain ⟨ds, e1, e2⟩ := bind_inv ef
    refine ⟨G, H0, env, ds, k, e1, fun J H1 P sm wk p0 pst => ?_⟩
    have k1 := k.grow sm
    have q1 : Post X.K G H0 env σ H1 E o := out_tr (Frm.refl sm) q
    refine ⟨fun i m σ' H' => m = ds.length - i ∧ i ≤ ds.length ∧ ∃ env', EnvOk X.K G H0 env' σ' H' ∧ Frm env σ H1 env' σ' H' ∧ forD (turnD t g) (ds.drop i) env' = .ok o, ⟨ds.length, by simp, Nat.zero_le _, env, k1, Frm.refl (Same.refl H1), by simpa using e2⟩, ?_⟩
    rintro i m σ' H' ⟨rfl, hi, env', k', f', e'⟩
    obtain ⟨w1, w2, w3⟩ := wk i H' (pst env' σ' H' f')
    by_cases hd : i < ds.length
    · refine .inr ⟨w1 hd, ?_⟩
      rw [List.drop_eq_getElem_cons hd] at e'
      obtain ⟨o1, e3, e4⟩ := bind_inv e'
      obtain ⟨env1, e5, e6⟩ := bind_inv e3
      refine ⟨fun σ2 H2 => ds.length - (i + 1) = ds.length - (i + 1) ∧ i + 1 ≤ ds.length ∧ ∃ env2, EnvOk X.K G H0 env2 σ2 H2 ∧ Frm env σ H1 env2 σ2 H2 ∧ forD (turnD t g) (ds.drop (i + 1)) env2 = .ok o, fun σ2 H2 z => ⟨ds.length - (i + 1), by omega, z⟩, fun x H2 y => ?_⟩
      obtain ⟨sm2, rd⟩ : Same H' H2 ∧ Rep X.K (Sf G env' σ') H2 x ds[i] := by
        rcases w2 _ (List.getElem?_eq_getElem hd) x H2 y with ⟨rfl, rd⟩ | ⟨p, vs, es, hp, rfl, rfl, ed, rds⟩
        · exact ⟨Same.refl _, f'.rep k1 rd⟩
        · refine ⟨Same.upd hp, ?_⟩
          rw [ed]
          exact .tup upd_same ((f'.reps k1 rds).grow (Same.upd hp))
      refine ⟨G, H0, env', ds[i], env1, k'.grow sm2, rd, e5, fun σ1 kk1 ff1 => ⟨G, H0, env1, o1, kk1, e6, ?_⟩⟩
      have fr1 := (f'.trans (Frm.refl sm2)).trans ff1
      cases o1 with
      | nx env2 => exact fun σ2 H3 kk2 ff2 => ⟨rfl, hd, env2, kk2, fr1.trans ff2, e4⟩
      | ct env2 => exact fun σ2 H3 kk2 ff2 => ⟨rfl, hd, env2, kk2, fr1.trans ff2, e4⟩
      | bk env2 => cases e4; exact fun σ2 H3 kk2 ff2 => q1 σ2 H3 kk2 (fr1.trans ff2)
      | rt fr dd => cases e4; exact q1
    · have he : i = ds.length := by omega
      refine .inl ⟨w3 (by omega), ?_⟩
      rw [List.drop_eq_nil_of_le (by omega)] at e'
      cases e'
      exact q1 σ' H' k' f')

/-! ### while: by at most n turns -/
def whileD (n : Nat) (t : Sl → Res Bool) (g : Sl → Res Out) : Sl → Res Out := fun env => match n with
  | 0 => .stuck
  | n + 1 => t env >>= fun b => if b = true then g env >>= fun o => match o with
      | .nx env' => whileD n t g env'
      | .ct env' => whileD n t g env'
      | .bk env' => .ok (.nx env')
      | .rt fr d => .ok (.rt fr d)
    else .ok (.nx env)
end

/-! ### a slot's list is no longer changed -/
def frz (i : Nat) (env : Sl) : Sl := match env[i]? with
  | some (.own d) => env.set i (.shr d)
  | _ => env
theorem owned_frz {i : Nat} {env : Sl} {σ : L2.St} {a : Addr} (h : Owned (frz i env) σ a) : Owned env σ a := by
  unfold frz at h
  split at h
  · rename_i d hd
    obtain ⟨j, e, h1, h2⟩ := h
    by_cases z : i = j
    · subst z
      obtain ⟨q, _⟩ := get_set_eq h1
      cases q
    · rw [get_set_ne z] at h1
      exact ⟨j, e, h1, h2⟩
  · exact h
theorem EnvOk.frz {K : PySem.W.Frag} {G : Addr → Prop} {H0 H : Hp} {env : Sl} {σ : L2.St} (i : Nat) (k : EnvOk K G H0 env σ H) : EnvOk K G H0 (frz i env) σ H := by
  have w : ∀ a, Sf G env σ a → Sf G (M.frz i env) σ a := fun a n => ⟨fun o => n.1 (owned_frz o), n.2⟩
  cases hi : env[i]? with
  | none => have e : M.frz i env = env := by unfold M.frz; rw [hi]
            rw [e]; exact k
  | some s =>
    cases s with
    | un => have e : M.frz i env = env := by unfold M.frz; rw [hi]
            rw [e]; exact k
    | shr d => have e : M.frz i env = env := by unfold M.frz; rw [hi]
               rw [e]; exact k
    | own d =>
      have e : M.frz i env = env.set i (.shr d) := by unfold M.frz; rw [hi]
      obtain ⟨a, h1, h0, h2⟩ := k.own i d hi
      have na : NotO (M.frz i env) σ a := by
        rintro ⟨j, d', q1, q2⟩
        rw [e] at q1
        by_cases z : i = j
        · subst z
          obtain ⟨q, _⟩ := get_set_eq q1
          cases q
        · rw [get_set_ne z] at q1
          exact z (k.dis i j d d' a hi q1 h1 q2)
      rw [e] at w na ⊢
      refine ⟨by simp [k.len], k.base, k.g0, fun j d' h => ?_, fun j d' h => ?_, fun j j' d1 d2 b q1 q2 q3 q4 => ?_⟩
      · by_cases z : i = j
        · subst z
          obtain ⟨q, hl⟩ := get_set_eq h
          cases q
          exact ⟨_, h1, h2.rep (fun c z => ⟨w c z, own_ne k hi h1 c z⟩) ⟨na, k.g0 a h0⟩⟩
        · rw [get_set_ne z] at h
          obtain ⟨v', g1, g2⟩ := k.shr j d' h
          exact ⟨v', g1, g2.weak w⟩
      · by_cases z : i = j
        · subst z
          obtain ⟨q, hl⟩ := get_set_eq h
          cases q
        · rw [get_set_ne z] at h
          obtain ⟨v', g1, g0, g2⟩ := k.own j d' h
          exact ⟨v', g1, g0, g2.stay (fun _ _ e _ => e) w fun _ e => e⟩
      · have n1 : i ≠ j := fun z => by subst z; obtain ⟨q, _⟩ := get_set_eq q1; cases q
        have n2 : i ≠ j' := fun z => by subst z; obtain ⟨q, _⟩ := get_set_eq q2; cases q
        rw [get_set_ne n1] at q1
        rw [get_set_ne n2] at q2
        exact k.dis j j' d1 d2 b q1 q2 q3 q4
def frzO (i : Nat) (g : Sl → Res Out) : Sl → Res Out := fun env => g (frz i env)
theorem ds_frz (i : Nat) {X : Cx} {st : Stmt} {g : Sl → Res Out} (h : DS X st g) : DS X st (frzO i g) := by
 with_unfolding_all exact (PS.imp h fun E σ H ⟨G, H0, env, o, k, ef, q⟩ => by
  refine ⟨G, H0, frz i env, o, k.frz i, ef, ?_⟩
  have f : Frm env σ H (frz i env) σ H := ⟨fun _ _ e _ => e, fun b o => .inl (owned_frz o), fun _ e => e⟩
  exact out_tr f q)
end M

set_option Elab.async false
set_option linter.all false
set_option maxRecDepth 100000
set_option maxHeartbeats 4000000
namespace PySem.AutoSeq1
open PySem Builtin
end PySem.AutoSeq1
namespace M
open PySem PySem.Spec L2
open PyProof.Rows hiding St

theorem imms_iff : ∀ {ds : List D}, D.imms ds = true ↔ ∀ d ∈ ds, d.imm = true
  | [] => by simp [D.imms]
  | d :: ds => by simp [D.imms, imms_iff (ds := ds)]
/-! ### a slot's own list is changed -/
section
variable {X : Cx}
def rExtendT : V → List V → Hp → VK → Prop := fun x vs H Q => ∃ l b xs zs, x = .ref l ∧ vs = [.ref b] ∧ H l = some (.lst xs) ∧ H b = some (.tup zs) ∧ xs.length + zs.length ≤ sizeLine ∧ Q .non (upd H l (.lst (xs ++ zs)))
theorem owned_same {env : Sl} {σ : L2.St} {i : Nat} {d d' : D} {a : Addr} (hi : env[i]? = some (.own d)) : Owned (env.set i (.own d')) σ a ↔ Owned env σ a := by
  have hl : i < env.length := (List.getElem?_eq_some_iff.mp hi).1
  constructor
  · rintro ⟨j, e, h1, h2⟩
    by_cases z : i = j
    · subst z; exact ⟨i, d, hi, h2⟩
    · rw [get_set_ne z] at h1; exact ⟨j, e, h1, h2⟩
  · rintro ⟨j, e, h1, h2⟩
    by_cases z : i = j
    · subst z; exact ⟨i, d', List.getElem?_set_self hl, h2⟩
    · exact ⟨j, e, by rw [get_set_ne z]; exact h1, h2⟩
/-- the list that the slot i owns is written anew -/
theorem EnvOk.write {K : PySem.W.Frag} {G : Addr → Prop} {H0 H : Hp} {env : Sl} {σ : L2.St} {i : Nat} {ds ds' : List D} {a : Addr} {xs xs' : List V} (k : EnvOk K G H0 env σ H) (hi : env[i]? = some (.own (.lst ds))) (ha : σ[i]? = some (some (.ref a))) (hx : H a = some (.lst xs))
    (r : Reps K (Sf G env σ) H xs' ds') : EnvOk K G H0 (env.set i (.own (.lst ds'))) σ (upd H a (.lst xs')) ∧ Frm env σ H (env.set i (.own (.lst ds'))) σ (upd H a (.lst xs')) := by
  have hl : i < env.length := (List.getElem?_eq_some_iff.mp hi).1
  have ow : Owned env σ a := ⟨i, _, hi, ha⟩
  have st : Stay (Sf G env σ) H (upd H a (.lst xs')) := fun c o e m => by
    rw [upd_ne ?_]
    · exact e
    · rintro rfl
      rw [hx] at e; cases e
      exact (m trivial).1 ow
  have w : ∀ c, Sf G env σ c → Sf G (env.set i (.own (.lst ds'))) σ c := fun c n => ⟨fun o => n.1 ((owned_same hi).mp o), n.2⟩
  refine ⟨⟨by simp [k.len], fun c o e => ?_, k.g0, fun j d' h => ?_, fun j d' h => ?_, fun j j' d1 d2 b q1 q2 q3 q4 => ?_⟩, ⟨fun c o e n => ?_, fun c o => .inl ((owned_same hi).mp o), fun c e => ?_⟩⟩
  · have hc : c ≠ a := by
      rintro rfl
      obtain ⟨b, h1, h0, _⟩ := k.own i _ hi
      rw [ha] at h1; cases h1
      rw [h0] at e; cases e
    rw [upd_ne hc]
    exact k.base c o e
  · by_cases z : i = j
    · subst z
      obtain ⟨q, _⟩ := get_set_eq h
      cases q
    · rw [get_set_ne z] at h
      obtain ⟨v, h1, h2⟩ := k.shr j d' h
      exact ⟨v, h1, h2.stay st w⟩
  · by_cases z : i = j
    · subst z
      obtain ⟨q, _⟩ := get_set_eq h
      cases q
      obtain ⟨b, h1, h0, _⟩ := k.own i _ hi
      rw [ha] at h1; cases h1
      exact ⟨a, ha, h0, .lst upd_same (r.stay st w)⟩
    · rw [get_set_ne z] at h
      obtain ⟨b, h1, h0, h2⟩ := k.own j d' h
      have hb : b ≠ a := by
        rintro rfl
        exact z (k.dis i j _ _ b hi h ha h1)
      exact ⟨b, h1, h0, h2.stay st w fun o e => by rw [upd_ne hb]; exact e⟩
  · have real : ∀ (j : Nat) (d1 : D), (env.set i (.own (.lst ds')))[j]? = some (.own d1) → ∃ d0 : D, env[j]? = some (.own d0) := fun j d1 q => by
      by_cases z : i = j
      · subst z; exact ⟨_, hi⟩
      · rw [get_set_ne z] at q; exact ⟨_, q⟩
    obtain ⟨e1, z1⟩ := real j d1 q1
    obtain ⟨e2, z2⟩ := real j' d2 q2
    exact k.dis j j' e1 e2 b z1 z2 q3 q4
  · have hc : c ≠ a := by
      rintro rfl
      exact n ow
    rw [upd_ne hc]; exact e
  · by_cases hc : c = a
    · subst hc; rw [upd_same] at e; cases e
    · rw [upd_ne hc] at e; exact e
theorem own_list {K : PySem.W.Frag} {G : Addr → Prop} {H0 H : Hp} {env : Sl} {σ : L2.St} {i : Nat} {ds : List D} (k : EnvOk K G H0 env σ H) (hi : env[i]? = some (.own (.lst ds))) : ∃ a xs, σ[i]? = some (some (.ref a)) ∧ H a = some (.lst xs) ∧ Reps K (Sf G env σ) H xs ds := by
  obtain ⟨a, h1, h0, h2⟩ := k.own i _ hi
  cases h2 with
  | lst e r => exact ⟨a, _, h1, e, r⟩

variable {e : Expr} {f : Sl → Res D} {l : Lv} {pos cpos apos p : Pos} {x : Str}
/-- the own list of slot i -/
def ownL (i : Nat) (env : Sl) : Res (List D) := match env[i]? with
  | some (.own (.lst ds)) => .ok ds
  | _ => .stuck
theorem ownL_inv {i : Nat} {env : Sl} {ds : List D} (h : ownL i env = .ok ds) : env[i]? = some (.own (.lst ds)) := by
  unfold ownL at h
  split at h
  · cases h; assumption
  · cases h
def appendO (i : Nat) (f : Sl → Res D) : Sl → Res Out := fun env => ownL i env >>= fun ds => f env >>= fun d => must (ds.length < sizeLine) (.ok (.nx (env.set i (.own (.lst (ds ++ [d]))))))
theorem ds_append (i : Nat) (he : DE X .s e f) (hN : X.N[i]? = some x := by rfl) (hv : Vis X.env.scope x := by first | exact Or.inl rfl | exact Or.inr (Or.inl rfl) | exact Or.inr (Or.inr rfl))
    (hd : (x == ("__debug__" : Str)) = false := by decide) (hcd : (x == ("__classdict__" : Str)) = false := by decide)
    (hbase : attributeBase (.Name x p) "append" X.env (eval (.Name x p) X.env) = eval (.Name x p) X.env := by rfl)
    (hfew : ((backTo cpos (starEach [e] X.env)).all (fun x => !x.1) && (backToKw cpos (keywordEach [] X.env)).all (fun x => x.1.isSome)
      && decide ([e].length + ([] : List Keyword).length + (if ([] : List Keyword).isEmpty then 0 else 1) < 30)) = true := by exact few_plain rfl rfl)
    (hline : (apos.endLine == cpos.line) = true := by rfl) (hs : starEach [e] X.env = (false, eval e X.env) :: starEach [] X.env := by exact star_plain rfl) (hplain : (backTo cpos (starEach [] X.env)).any (·.1) = false := by exact any_plain rfl)
    (hsw : swapsWith (.Call (.Attribute (.Name x p) "append" apos) [e] [] cpos) none pos.line X.env = pure false := by rfl) :
    DS X (.Expr (.Call (.Attribute (.Name x p) "append" apos) [e] [] cpos) pos) (appendO i f) := by
 with_unfolding_all exact (
  PS.imp (ps_expr (pe_bm PySem.F.plainAttrs_list PySem.F.slot_list_append PySem.F.type_list_append mt_append (pe_var (i := i) hN hv hd hcd) (pa_cons he pa_nil hs) hbase hfew hline hs hplain) hsw) fun E σ H ⟨G, H0, env, o, k, ef, q⟩ => by
    obtain ⟨ds, e1, e2⟩ := bind_inv ef
    obtain ⟨d, e3, e4⟩ := bind_inv e2
    obtain ⟨hz, e5⟩ := must_inv e4
    cases e5
    have hi := ownL_inv e1
    obtain ⟨a, xs, ha, hx, rs⟩ := own_list k hi
    refine ⟨.ref a, ha, .inl ⟨rfl, xs, .of hx⟩, G, H0, env, d, k, e3, fun v H1 s1 r1 _ => ?_⟩
    have hx1 := s1 _ _ hx
    refine ⟨a, xs, v, rfl, rfl, hx1, by rw [rs.length]; exact hz, ?_⟩
    have W := (k.grow s1).write hi ha hx1 (xs' := xs ++ [v]) (ds' := ds ++ [d]) ((rs.grow s1).append (.cons r1 .nil))
    exact q σ _ W.1 (W.2.grow s1))
def extendO (i : Nat) (f : Sl → Res D) : Sl → Res Out := fun env => ownL i env >>= fun ds => f env >>= fun d => match d with
  | .lst es => must (ds.length + es.length ≤ sizeLine) (.ok (.nx (env.set i (.own (.lst (ds ++ es))))))
  | .tup es => must (ds.length + es.length ≤ sizeLine) (.ok (.nx (env.set i (.own (.lst (ds ++ es))))))
  | _ => .stuck
/-- target = xs.pop() -/
def popO (i : Nat) (t : D → Sl → Res Sl) : Sl → Res Out := fun env => ownL i env >>= fun ds => match ds.getLast? with
  | some d => t d (env.set i (.own (.lst ds.dropLast))) >>= fun env' => .ok (.nx env')
  | none => .stuck
def clearO (i : Nat) : Sl → Res Out := fun env => ownL i env >>= fun _ => .ok (.nx (env.set i (.own (.lst []))))
end
end M

set_option Elab.async false
set_option linter.all false
set_option maxRecDepth 100000
set_option maxHeartbeats 4000000
namespace M
open PySem PySem.Spec L2
open PyProof.Rows hiding St

/-! ### a list comprehension -/
/-- the loop of a comprehension, a target of any kind -/
theorem compLoop_any {prog : Program} {w : World} {A : Around} {R : Result → Shared → Prop} {s : Shared} {elt target iter : Expr} {ifs : List Expr} {scope : Scope} {pos : Pos} {it acc : Value} {env : Env} (I : Nat → Shared → Prop)
    (turn : ∀ n s, I n s → wpAny (model prog w) A (pyNext it) (fun r s₁ => match r with
      | none => R (.ok .next) s₁
      | some v => wpAny (model prog w) A (letOwnedTupleGo target it v) (fun _ s₁' => wpAny (model prog w) A (assign target env v) (fun _ s₂ =>
          wpAny (model prog w) A (forIn ifs true fun c r => if r = true then do let ok ← isTrue c env (eval c env); pure (ForInStep.yield ok) else pure (ForInStep.yield r)) (fun ok s₃ =>
            if ok = true then wpAny (model prog w) A (eval elt env) (fun x s₄ =>
              wpAny (model prog w) A (call (.builtin "list.append") [acc, x]) (fun _ s₅ => ∃ m, m < n ∧ I m s₅) (fun _ _ => False) s₄) (fun _ _ => False) s₃
            else ∃ m, m < n ∧ I m s₃) (fun _ _ => False) s₂) (fun _ _ => False) s₁') (fun _ _ => False) s₁) (fun _ _ => False) s)
    (n : Nat) (h : I n s) : codeAny (model prog w) A (.compLoop (.ListComp elt [⟨target, iter, ifs, 0⟩] scope pos) 0 it acc env) R s := by
  refine codeAny_loop rfl I (fun n s hI => ?_) n h
  show wpAny _ A ((compTurn (.ListComp elt [⟨target, iter, ifs, 0⟩] scope pos) 0 it acc env).onRaise (fun x => do noteFrame x env; theTreesLotGoes x)) _ _ s
  refine wpAny_noted ?_
  rw [compTurn_list]
  refine wpAny_bind (wpAny_standAt (wpAny_bind (wpAny_mono (turn n s hI) (fun r s₁ h₁ => ?_) fun _ _ h' => h'.elim)))
  cases r with
  | none => exact wpAny_pure h₁
  | some v =>
    refine wpAny_bind (wpAny_mono h₁ (fun _ s₁' h₁' => ?_) fun _ _ h' => h'.elim)
    refine wpAny_bind (wpAny_mono h₁' (fun _ s₂ h₂ => wpAny_bind (wpAny_mono h₂ (fun ok s₃ h₃ => ?_) fun _ _ h' => h'.elim)) fun _ _ h' => h'.elim)
    cases ok with
    | false => exact wpAny_pure ⟨rfl, h₃⟩
    | true =>
      exact wpAny_bind (wpAny_bind (wpAny_mono h₃ (fun x s₄ h₄ => wpAny_bind (wpAny_mono h₄ (fun _ s₅ h₅ => wpAny_pure (wpAny_pure ⟨rfl, h₅⟩)) fun _ _ h' => h'.elim)) fun _ _ h' => h'.elim))

/-- the context of a comprehension's block -/
def cxComp (X : Cx) (N : List Str) (scope : Scope) (cl : List (Str × Addr)) (C : Addr) (s : Shared) (H : Hp) (fp : List Addr) : Cx where
  prog := X.prog
  w := X.w
  K := X.K
  mg := X.mg
  base := X.base
  A := X.A
  N := N
  s₀ := s
  H₀ := H
  env := compEnvC scope cl C X.env
  outer := X.stack
  stack := X.stack
  ex := fp
  fn := fun _ => false
  calm := true
  pn := []
  xe := fun _ _ => False

/-- the tests of a comprehension -/
@[irreducible] def DTs (X : Cx) (ifs : List Expr) (c : Sl → Res Bool) : Prop :=
  ∀ (pins : List (Addr × Obj)) (s : Shared) (σ : L2.St) (H : Hp) (Q : Bool → Hp → Prop), Inv X pins σ H s → tT X.K c σ H Q →
    wpAny (model X.prog X.w) X.A (forIn ifs true fun c r => if r = true then do let ok ← isTrue c X.env (eval c X.env); pure (ForInStep.yield ok) else pure (ForInStep.yield r)) (TP X pins σ Q) X.xe s
def trueB : Sl → Res Bool := fun _ => .ok true
theorem dts_nil {X : Cx} : DTs X [] trueB := by
 with_unfolding_all exact (fun pins s σ H Q I ⟨G, H0, env, b, k, ef, q⟩ => by
  cases ef
  exact wpAny_tests_nil ⟨H, I, q H (Same.refl H)⟩)
def compD (n : Nat) (t : D → Sl → Res Sl) (c : Sl → Res Bool) (fe : Sl → Res D) : List D → Sl → Res Sl
  | [], env => .ok env
  | d :: ds, env => t d env >>= fun env1 => c env1 >>= fun b => if b = true
      then fe env1 >>= fun v => ownL n env1 >>= fun acc => must (acc.length < sizeLine) (compD n t c fe ds (env1.set n (.own (.lst (acc ++ [v])))))
      else compD n t c fe ds env1
def capS (im : Bool) (env : Sl) (j : Nat) : Slot := match env[j]? with
  | some (.shr d) => .shr d
  | some (.own d) => if im = true then .shr d else .un
  | _ => .un
def compE (im : Bool) (m : Nat) (js : List Nat) (env : Sl) : Sl := List.replicate m .un ++ js.map (capS im env) ++ [.own (.lst [])]
/-- im: the slots' own lists are seen, and what is made can't change -/
def compO (im : Bool) (m : Nat) (js : List Nat) (fi : Sl → Res (List D)) (t : D → Sl → Res Sl) (c : Sl → Res Bool) (fe : Sl → Res D) : Sl → Res D := fun env =>
  fi env >>= fun ds => compD (m + js.length) t c fe ds (compE im m js env) >>= fun env' => ownL (m + js.length) env' >>= fun acc => must (im = true → D.imms acc = true) (.ok (.lst acc))
def compσ (m : Nat) (js : List Nat) (σ : L2.St) (a : Addr) : L2.St := List.replicate m none ++ js.map (fun j => (σ[j]?).join) ++ [some (.ref a)]

theorem relabel_mem {env : Env} : ∀ {names : List (Str × NameKind)} {x : Str} {k : NameKind},
    (names.map fun (n, k) => if (k == NameKind.free && env.scope.kind == .function && env.kindOf n == some .cell) then (n, NameKind.cell) else (n, k)).lookup x = some k → ∃ k', (x, k') ∈ names ∧ (k = k' ∨ k' = .free)
  | [], _, _, h => by simp at h
  | (n, k') :: r, x, k, h => by
    have h' : List.lookup x ((if (k' == NameKind.free && env.scope.kind == .function && env.kindOf n == some .cell) = true then (n, NameKind.cell) else (n, k')) :: (r.map fun (n, k) => if (k == NameKind.free && env.scope.kind == .function && env.kindOf n == some .cell) then (n, NameKind.cell) else (n, k))) = some k := h
    by_cases hc : (k' == NameKind.free && env.scope.kind == .function && env.kindOf n == some .cell) = true
    · rw [if_pos hc] at h'
      simp only [List.lookup_cons] at h'
      cases hx : x == n with
      | true =>
        rw [hx] at h'
        have e : x = n := by simpa using hx
        subst e
        refine ⟨k', List.mem_cons_self, .inr ?_⟩
        simp only [Bool.and_eq_true, beq_iff_eq] at hc
        exact hc.1.1
      | false =>
        rw [hx] at h'
        obtain ⟨k2, h1, h2⟩ := relabel_mem h'
        exact ⟨k2, List.mem_cons_of_mem _ h1, h2⟩
    · rw [if_neg hc] at h'
      simp only [List.lookup_cons] at h'
      cases hx : x == n with
      | true =>
        rw [hx] at h'
        have e : x = n := by simpa using hx
        subst e
        cases h'
        exact ⟨_, List.mem_cons_self, .inl rfl⟩
      | false =>
        rw [hx] at h'
        obtain ⟨k2, h1, h2⟩ := relabel_mem h'
        exact ⟨k2, List.mem_cons_of_mem _ h1, h2⟩

/-- what is asked of a comprehension's scope; N: its names, m targets, then the names of the slots js, then one that is none -/
structure CompSc (X : Cx) (scope : Scope) (cl : List (Str × Addr)) (N : List Str) (m : Nat) (js : List Nat) : Prop where
  clos : closureFor scope X.env = pure cl
  kind : scope.kind = .function
  names : ∀ x ∈ scope.names, x.2 = .local → scope.names.lookup x.1 = some .local
  nocell : ∀ y ∈ scope.names, y.2 ≠ .cell
  cls : ∀ x c, cl.lookup x = some c → X.env.cells.lookup x = some c
  free : ∀ y ∈ scope.names, y.2 = .free → ∃ c, cl.lookup y.1 = some c
  nd : N.Nodup
  len : N.length = m + js.length + 1
  cap : ∀ (k j : Nat), js[k]? = some j → ∃ y, N[m + k]? = some y ∧ X.N[j]? = some y ∧ (X.env.scope.names.lookup y = some .cell ∨ X.env.scope.names.lookup y = some .free) ∧ scope.names.lookup y = some .free
  last : ∀ y, N[m + js.length]? = some y → ∀ p ∈ scope.names, p.1 ≠ y

section
variable {X : Cx} {tg iter elt : Expr} {ifs : List Expr} {scope : Scope} {cl : List (Str × Addr)} {N : List Str} {m : Nat} {js : List Nat} {pos : Pos} {im : Bool}
  {fi : Sl → Res (List D)} {t : D → Sl → Res Sl} {c : Sl → Res Bool} {fe : Sl → Res D}

theorem comp_ok {pins : List (Addr × Obj)} {σ : L2.St} {H : Hp} {s : Shared} {C : Addr} {fp : List Addr} (S : CompSc X scope cl N m js) (hc : X.calm = true) (I : Inv X pins σ H s) (hC : s.heap.objs.size ≤ C) (hf : ∀ b ∈ fp, FpOk X pins H b) (hfp : ∀ b ∈ fp, b < s.heap.objs.size) :
    (cxComp X N scope cl C s H fp).Ok where
  mod := I.ok.mod
  kind := S.kind
  glob := I.ok.glob
  blt := I.ok.blt
  above := hC
  inj := fun x y c h1 h2 => I.ok.inj x y c (S.cls x c h1) (S.cls y c h2)
  has := fun x h => by
    have mem : ∃ k', (x, k') ∈ scope.names ∧ k' = .free := by
      rcases h with h | h
      · obtain ⟨k', h1, h2⟩ := relabel_mem (env := X.env) (names := scope.names) h
        rcases h2 with z | z
        · exact absurd z.symm (S.nocell _ h1)
        · exact ⟨k', h1, z⟩
      · obtain ⟨k', h1, h2⟩ := relabel_mem (env := X.env) (names := scope.names) h
        rcases h2 with z | z
        · exact ⟨k', h1, z.symm⟩
        · exact ⟨k', h1, z⟩
    obtain ⟨k', h1, h2⟩ := mem
    exact S.free _ h1 h2
  cab := fun x c h => by cases h
  hd := fun _ => I.ok.hd hc
  frames := I.ok.frames
  stk := .inl rfl
  exf := fun b hb => ⟨fun z => absurd (Nat.lt_of_lt_of_le (hfp b hb) (by rw [z]; exact hC)) (Nat.lt_irrefl _), fun x c h => (hf b hb).2.2.2.2.1 x c (S.cls x c h)⟩
  bs := I.bs
  bsz := Nat.le_trans I.ok.bsz I.sz
  noex := fun b o e hb => by
    rcases (hf b hb).2.2.2.1 with z | z
    · exact I.ok.noex b o e z
    · exact absurd (Nat.lt_of_lt_of_le (Heap.lt_size e) (Nat.le_trans I.ok.bsz z)) (Nat.lt_irrefl _)
  exfs := fun b hb z => by
    rcases List.mem_cons.mp (I.stkSub b z) with q | q
    · exact (hf b hb).2.1 q
    · exact (hf b hb).2.2.1 q
  funs := I.stack
  frf := I.stkFree

theorem cap_own {env : Sl} {j : Nat} {d : D} (h : capS im env j = .own d) : False := by
  unfold capS at h
  split at h
  · cases h
  · split at h <;> cases h
  · cases h
theorem comp_owned {env : Sl} {σ : L2.St} {a b : Addr} (h : Owned (compE im m js env) (compσ m js σ a) b) : b = a := by
  obtain ⟨i, d, h, h2⟩ := h
  have hi : i = m + js.length := by
    unfold compE at h
    by_cases h1 : i < m
    · rw [List.append_assoc, List.getElem?_append_left (by simpa using h1), List.getElem?_replicate] at h
      split at h <;> cases h
    · rw [List.append_assoc, List.getElem?_append_right (by simpa using h1)] at h
      simp only [List.length_replicate] at h
      by_cases h2 : i - m < js.length
      · rw [List.getElem?_append_left (by simpa using h2), List.getElem?_map] at h
        cases e : js[i - m]? with
        | none => rw [e] at h; cases h
        | some j =>
          rw [e] at h
          have h' : capS im env j = .own d := Option.some.inj h
          exact (cap_own h').elim
      · rw [List.getElem?_append_right (by simpa using h2)] at h
        simp only [List.length_map] at h
        by_cases h3 : i - m - js.length = 0
        · omega
        · rw [List.getElem?_eq_none (by simp; omega)] at h; cases h
  subst hi
  have at_n : (compσ m js σ a)[m + js.length]? = some (some (.ref a)) := by
    unfold compσ
    rw [List.append_assoc, List.getElem?_append_right (by simp), List.getElem?_append_right (by simp)]
    simp
  rw [at_n] at h2; cases h2; rfl
/-- what the block may hold -/
abbrev Gc (im : Bool) (G : Addr → Prop) (env : Sl) (σ : L2.St) : Addr → Prop := fun c => G c ∧ (im = false → ¬ Owned env σ c)
theorem env_comp {K : PySem.W.Frag} {G : Addr → Prop} {H0 H : Hp} {env : Sl} {σ : L2.St} {a : Addr} (k : EnvOk K G H0 env σ H) (ha : H a = none) :
    EnvOk K (Gc im G env σ) H (compE im m js env) (compσ m js σ a) (upd H a (.lst [])) := by
  have own1 : ∀ (i : Nat) (d : D), (compE im m js env)[i]? = some (.own d) → i = m + js.length ∧ d = .lst [] := fun i d h => by
    unfold compE at h
    by_cases h1 : i < m
    · rw [List.append_assoc, List.getElem?_append_left (by simpa using h1), List.getElem?_replicate] at h
      split at h <;> cases h
    · rw [List.append_assoc, List.getElem?_append_right (by simpa using h1)] at h
      simp only [List.length_replicate] at h
      by_cases h2 : i - m < js.length
      · rw [List.getElem?_append_left (by simpa using h2), List.getElem?_map] at h
        cases e : js[i - m]? with
        | none => rw [e] at h; cases h
        | some j =>
          rw [e] at h
          have h' : capS im env j = .own d := Option.some.inj h
          exact (cap_own h').elim
      · rw [List.getElem?_append_right (by simpa using h2)] at h
        simp only [List.length_map] at h
        by_cases h3 : i - m - js.length = 0
        · rw [h3] at h
          cases h
          exact ⟨by omega, rfl⟩
        · rw [List.getElem?_eq_none (by simp; omega)] at h; cases h
  have at_n : (compσ m js σ a)[m + js.length]? = some (some (.ref a)) := by
    unfold compσ
    rw [List.append_assoc, List.getElem?_append_right (by simp), List.getElem?_append_right (by simp)]
    simp
  have owned : ∀ b, Owned (compE im m js env) (compσ m js σ a) b → b = a := fun b ⟨i, d, h1, h2⟩ => by
    obtain ⟨rfl, rfl⟩ := own1 i d h1
    rw [at_n] at h2; cases h2; rfl
  have sm : Same H (upd H a (.lst [])) := Same.upd ha
  refine ⟨by simp [compE, compσ], sm, fun c z => ⟨(k.new c z).2, fun _ => (k.new c z).1⟩, fun i d h => ?_, fun i d h => ?_, fun i j d e b h1 h2 h3 h4 => (own1 i d h1).1.trans (own1 j e h2).1.symm⟩
  · unfold compE at h
    by_cases h1 : i < m
    · rw [List.append_assoc, List.getElem?_append_left (by simpa using h1), List.getElem?_replicate] at h
      split at h <;> cases h
    · rw [List.append_assoc, List.getElem?_append_right (by simpa using h1)] at h
      simp only [List.length_replicate] at h
      by_cases h2 : i - m < js.length
      · rw [List.getElem?_append_left (by simpa using h2), List.getElem?_map] at h
        cases e : js[i - m]? with
        | none => rw [e] at h; cases h
        | some j =>
          rw [e] at h
          have h' : capS im env j = .shr d := Option.some.inj h
          have hσ : (compσ m js σ a)[i]? = some ((σ[j]?).join) := by
            unfold compσ
            rw [List.append_assoc, List.getElem?_append_right (by simpa using h1)]
            simp only [List.length_replicate]
            rw [List.getElem?_append_left (by simpa using h2), List.getElem?_map, e]
            rfl
          have fin : ∀ v, σ[j]? = some (some v) → Rep K (Gc im G env σ) H v d → ∃ v, (compσ m js σ a)[i]? = some (some v) ∧ Rep K (Sf (Gc im G env σ) (compE im m js env) (compσ m js σ a)) (upd H a (.lst [])) v d := fun v e1 r => by
            refine ⟨v, by rw [hσ, e1]; rfl, (r.inDom.grow sm).weak fun b z => ⟨fun o => ?_, z.1⟩⟩
            rw [owned b o] at z
            exact z.2 ha
          unfold capS at h'
          split at h'
          · rename_i d' hd; cases h'
            obtain ⟨v, h3, h4⟩ := k.shr j d hd
            exact fin v h3 (h4.weak fun c z => ⟨z.2, fun _ => z.1⟩)
          · rename_i d' hd
            split at h'
            · rename_i hi'
              cases h'
              obtain ⟨v, h3, h0, h4⟩ := k.own j d hd
              exact fin _ h3 (h4.rep (fun c z => ⟨⟨z.2, fun _ => z.1⟩, own_ne k hd h3 c z⟩) ⟨k.g0 _ h0, fun z => by rw [hi'] at z; cases z⟩)
            · cases h'
          · cases h'
      · rw [List.getElem?_append_right (by simpa using h2)] at h
        simp only [List.length_map] at h
        by_cases h3 : i - m - js.length = 0
        · rw [h3] at h
          cases h
        · rw [List.getElem?_eq_none (by simp; omega)] at h; cases h
  · obtain ⟨rfl, rfl⟩ := own1 i d h
    exact ⟨a, at_n, ha, .lst upd_same .nil⟩

theorem comp_core (use : Option (Value → Sem Unit)) (Q' : Value → Shared → Prop) (im : Bool) (N : List Str) (m : Nat) (js : List Nat) (S : CompSc X scope cl N m js) (hc : X.calm = true) (hi : PI X tg iter (tI X.K fi))
    (hb : ∀ (C : Addr) (s : Shared) (H : Hp) (fp : List Addr), PG (cxComp X N scope cl C s H fp) tg (tG X.K t) ∧ DTs (cxComp X N scope cl C s H fp) ifs c ∧ PE (cxComp X N scope cl C s H fp) elt (tE X.K .s fe))
    (hs : ∀ x, foldedSetIterable iter X.env x = pure x) {pins : List (Addr × Obj)} {s : Shared} {σ : L2.St} {H : Hp} {G : Addr → Prop} {H0 : Hp} {env : Sl} {d : D} (I : Inv X pins σ H s) (k : EnvOk X.K G H0 env σ H) (ef : compO im m js fi t c fe env = .ok d)
    (hend : ∀ (a C : Addr) (s' : Shared) (H' : Hp) (mm : Str → Option Value) (r : Flow), s'.heap.Ns C mm → (∀ h', Heap.SameBut C s'.heap h' → Inv X pins σ H' { s' with heap := h' }) → FpOk X pins H' C → Same H H' → Rep X.K (Sf G env σ) H' (.ref a) d → NewTop H (.ref a) → compPost (model X.prog X.w) X.A X.xe use Q' (.ref a) C (.ok r) s') :
    wpAny (model X.prog X.w) X.A (comprehension (.ListComp elt [⟨tg, iter, ifs, 0⟩] scope pos) scope X.env (firstIterPos [⟨tg, iter, ifs, 0⟩] pos) (newList []) (firstAsync [⟨tg, iter, ifs, 0⟩]) (firstIter [⟨tg, iter, ifs, 0⟩] X.env) use) Q' X.xe s := by
 with_unfolding_all exact (by
  obtain ⟨ds, e1, ef⟩ := bind_inv ef
  obtain ⟨envF, e2, ef⟩ := bind_inv ef
  obtain ⟨accF, e3, e4⟩ := bind_inv ef
  obtain ⟨himF, e4⟩ := must_inv e4
  cases e4
  refine wpAny_comprehension_free (use := use) rfl hs S.clos S.kind S.names ?_
  refine thn (hi pins s σ H (fun J H1 => ∃ P, Same H H1 ∧ WalkD X.K (Sf G env σ) H1 J ds P ∧ P H1 ∧ ∀ env' σ' H', Frm env σ H1 env' σ' H' → P H') I ⟨G, H0, env, ds, k, e1, fun J H1 P a b c' d' => ⟨P, a, b, c', d'⟩⟩) fun v s1 h1 => thn h1 fun itv s2 h2 => ?_
  obtain ⟨it, fp, tn, J, H2, rfl, I2, T, st2, f2, P, sm, wk, p0, pst⟩ := h2
  have k2 := k.grow sm
  -- the accumulator, the frame
  refine wpAny_newObj_type (wpAny_newFunctionEnv S.nocell (by intro y hy; simp at hy) (fun h₁ hns₁ hsb₁ => ?_) S.kind)
  dsimp only at hns₁ hsb₁ ⊢
  have hfr : H2 s2.heap.objs.size = none := I2.hok.fresh (Nat.le_refl _)
  let a := s2.heap.objs.size
  have ha : H2 a = none := hfr
  have I3 : Inv X pins σ (upd H2 a (.lst [])) { s2 with heap := s2.heap.push { cls := .type "list", dict := none, data := .seq ([] : List Value).toArray } } := I2.lnew (t' := s2.toks) (its := []) .nil (Nat.zero_le _)
  let s3 : Shared := { s2 with heap := s2.heap.push { cls := .type "list", dict := none, data := .seq ([] : List Value).toArray } }
  let C := s3.heap.objs.size
  have f3 : ∀ b ∈ fp, FpOk X pins (upd H2 a (.lst [])) b := fun b hb' => by
    obtain ⟨z0, z⟩ := f2 b hb'
    refine ⟨?_, z⟩
    have hb2 : b ≠ a := by
      obtain ⟨o, ho, _⟩ := T.obj 0 _ st2 b hb'
      exact Nat.ne_of_lt (Heap.lt_size ho)
    rw [upd_ne hb2]; exact z0
  have hfp : ∀ b ∈ fp, b < s3.heap.objs.size := fun b hb' => by
    obtain ⟨o, ho, _⟩ := T.obj 0 _ st2 b hb'
    refine Nat.lt_of_lt_of_le (Heap.lt_size ho) ?_
    show s2.heap.objs.size ≤ (s2.heap.push { cls := .type "list", dict := none, data := .seq ([] : List Value).toArray }).objs.size
    rw [Heap.size_push]; exact Nat.le_succ _
  have XO := comp_ok (C := C) S hc I3 (Nat.le_refl _) f3 hfp
  obtain ⟨DGt, DTc, DEe⟩ := hb C s3 (upd H2 a (.lst [])) fp
  have old : ∀ b o, s3.heap.get? b = some o → h₁.get? b = some o := fun b o e => hsb₁.extBut b o (Nat.ne_of_lt (Heap.lt_size e)) (Heap.get?_push_of_some _ e)
  have I4 : Inv (cxComp X N scope cl C s3 (upd H2 a (.lst [])) fp) [] (compσ m js σ a) (upd H2 a (.lst [])) { s2 with heap := h₁, toks := s2.toks + ([] : List (Str × Value)).length } := by
    refine ⟨XO, rfl, I3.bare, Un.kept old, ⟨_, hns₁, fun i y v' h1 h2 h3 => ?_⟩, fun y c' h => ?_, I3.hok.fresh (Nat.le_refl _), fun y c' h => I3.freeC y c' (S.cls y c' h), fun p hp => absurd hp (by simp [cxComp]), I3.hok.kept old, ?_⟩
    · -- a captured name
      have hN1 : N[i]? = some y := h1
      unfold compσ at h2
      by_cases q1 : i < m
      · rw [List.append_assoc, List.getElem?_append_left (by simpa using q1), List.getElem?_replicate] at h2
        split at h2 <;> cases h2
      · rw [List.append_assoc, List.getElem?_append_right (by simpa using q1)] at h2
        simp only [List.length_replicate] at h2
        by_cases q2 : i - m < js.length
        · rw [List.getElem?_append_left (by simpa using q2), List.getElem?_map] at h2
          cases e : js[i - m]? with
          | none => rw [e] at h2; cases h2
          | some j =>
            rw [e] at h2
            have h2' : (σ[j]?).join = some v' := Option.some.inj h2
            have hj : σ[j]? = some (some v') := by
              cases z : σ[j]? with
              | none => rw [z] at h2'; cases h2'
              | some w' => rw [z] at h2'; simp at h2'; rw [h2']
            obtain ⟨y', g1, g2, g3, g4⟩ := S.cap (i - m) j e
            have ey : y' = y := by
              rw [show m + (i - m) = i by omega, hN1] at g1
              exact (Option.some.inj g1).symm
            subst ey
            obtain ⟨mm, hn, hl⟩ := I3.loc
            have vis : Vis X.env.scope y' := by
              rcases g3 with z | z
              · exact .inr (.inl z)
              · exact .inr (.inr z)
            obtain ⟨u, ru, lk⟩ := hl j y' v' g2 hj vis
            refine ⟨u, ru, .inr ⟨?_, ?_⟩⟩
            · rcases h3 with z | z
              · exfalso
                obtain ⟨k', m1, m2⟩ := relabel_mem (env := X.env) (names := scope.names) z
                have lk2 := S.names _ m1
                rcases m2 with w' | w'
                · subst w'
                  have := lk2 rfl
                  rw [g4] at this; cases this
                · subst w'
                  -- relabel gives cell or free, never local
                  have : ∀ {names : List (Str × NameKind)}, names.lookup y' = some .free → (names.map fun (n, k) => if (k == NameKind.free && X.env.scope.kind == .function && X.env.kindOf n == some .cell) then (n, NameKind.cell) else (n, k)).lookup y' ≠ some .local := by
                    intro names
                    induction names with
                    | nil => intro h; cases h
                    | cons p r ih =>
                      obtain ⟨n, kk⟩ := p
                      intro h h'
                      have h'' : List.lookup y' ((if (kk == NameKind.free && X.env.scope.kind == .function && X.env.kindOf n == some .cell) = true then (n, NameKind.cell) else (n, kk)) :: (r.map fun (n, k) => if (k == NameKind.free && X.env.scope.kind == .function && X.env.kindOf n == some .cell) then (n, NameKind.cell) else (n, k))) = some .local := h'
                      simp only [List.lookup_cons] at h
                      cases hx : y' == n with
                      | true =>
                        rw [hx] at h
                        cases h
                        split at h'' <;> simp [List.lookup_cons, hx] at h''
                      | false =>
                        rw [hx] at h
                        split at h'' <;> (simp only [List.lookup_cons, hx] at h''; exact ih h h'')
                  exact this g4 z
              · exact z
            · rcases lk with ⟨kk, _⟩ | ⟨kk, c', hc', cell'⟩
              · exfalso
                have kk' : X.env.scope.names.lookup y' = some .local := kk
                rcases g3 with z | z <;> (rw [z] at kk'; cases kk')
              · obtain ⟨c2, hc2⟩ := S.free (y', .free) (PySem.mem_of_lookup g4) rfl
                have : c2 = c' := by
                  have := S.cls _ _ hc2
                  rw [hc'] at this
                  exact (Option.some.inj this).symm
                subst this
                obtain ⟨o, ho, hd⟩ := cell'
                exact ⟨c2, hc2, o, old _ _ ho, hd⟩
        · exfalso
          have hi' : i = m + js.length := by
            have hl : i < N.length := (List.getElem?_eq_some_iff.mp hN1).1
            rw [S.len] at hl
            omega
          subst hi'
          have no := S.last y hN1
          rcases h3 with z | z | z <;>
          · obtain ⟨k', m1, _⟩ := relabel_mem (env := X.env) (names := scope.names) z
            exact no _ m1 rfl
    · obtain ⟨v', o, ho, hd⟩ := I3.cell y c' (S.cls y c' h)
      exact ⟨v', o, old _ _ ho, hd⟩
    · show (compσ m js σ a).length = N.length
      rw [S.len]; simp [compσ]; omega
  have kC : EnvOk X.K (Gc im G env σ) H2 (compE im m js env) (compσ m js σ a) (upd H2 a (.lst [])) := env_comp k2 ha
  have fC : ∀ b ∈ fp, FpOk (cxComp X N scope cl C s3 (upd H2 a (.lst [])) fp) [] (upd H2 a (.lst [])) b := fun b hb' => by
    obtain ⟨z0, z1, z2, z3, z4, z5⟩ := f3 b hb'
    exact ⟨z0, (XO.exf b hb').1, XO.exfs b hb', .inl hb', (XO.exf b hb').2, fun p hp => absurd hp (by simp [cxComp])⟩
  have stC : tn 0 h₁ := T.keep 0 _ _ st2 fun b hb' o e => old b o (Heap.get?_push_of_some _ e)
  -- the loop
  have loop : codeAny (model X.prog X.w) X.A (.compLoop (.ListComp elt [⟨tg, iter, ifs, 0⟩] scope pos) 0 (.ref it) (.ref a) (compEnvC scope cl C X.env))
      (compPost (model X.prog X.w) X.A X.xe use Q' (.ref a) C) { s2 with heap := h₁, toks := s2.toks + ([] : List (Str × Value)).length } := by
    refine compLoop_any (fun n s' => ∃ i σ' H' env', n = ds.length + 1 - i ∧ i ≤ ds.length ∧ Inv (cxComp X N scope cl C s3 (upd H2 a (.lst [])) fp) [] σ' H' s' ∧ tn i s'.heap ∧ (∀ b ∈ fp, H' b = none) ∧ (∀ b, Owned env' σ' b → b = a) ∧
        EnvOk X.K (Gc im G env σ) H2 env' σ' H' ∧ Frm (compE im m js env) (compσ m js σ a) (upd H2 a (.lst [])) env' σ' H' ∧ compD (m + js.length) t c fe (ds.drop i) env' = .ok envF) ?_ (ds.length + 1)
      ⟨0, _, _, _, rfl, Nat.zero_le _, I4, stC, fun b hb' => (fC b hb').1, ?_, kC, Frm.refl (Same.refl _), by simpa using e2⟩
    · rintro n s' ⟨i, σ', H', env', rfl, hi', Ic, st, fr, hs', kc, fc, ec⟩
      have hP : P H' := pst env σ H' (Frm.refl kc.base)
      obtain ⟨w1, w2, w3⟩ := wk i H' hP
      have fpk : ∀ {H' : Hp}, (∀ b ∈ fp, H' b = none) → ∀ b ∈ fp, FpOk (cxComp X N scope cl C s3 (upd H2 a (.lst [])) fp) [] H' b := fun hn b hb' => ⟨hn b hb', (fC b hb').2⟩
      by_cases hlt : i < ds.length
      · have hd : i < ds.length := by omega
        rw [List.drop_eq_getElem_cons hd] at ec
        obtain ⟨env1, e5, ec⟩ := bind_inv ec
        obtain ⟨b, e6, ec⟩ := bind_inv ec
        refine thn (T.item (cxComp X N scope cl C s3 (upd H2 a (.lst [])) fp) rfl rfl rfl rfl i [] s' σ' H' (fun _ _ => False) Ic (fpk fr) st (w1 hlt)) fun r s4 ⟨u, hr, h4⟩ => ?_
        subst hr
        refine thn h4 fun _ s5 ⟨x, H5, I5, r5, y5, st5, fr5⟩ => ?_
        have wkA : ∀ b, (Sf G env σ b ∧ H2 b ≠ none) → Sf (Gc im G env σ) env' σ' b := fun b z => ⟨fun o => (by
          rw [hs' b o] at z
          exact z.2 ha), z.1.2, fun _ => z.1.1⟩
        obtain ⟨sm5, rd'⟩ : Same H' H5 ∧ Rep X.K (Sf (Gc im G env σ) env' σ') H5 x ds[i] := by
          rcases w2 _ (List.getElem?_eq_getElem hd) x H5 y5 with ⟨rfl, rd⟩ | ⟨p, vs, es, hp, rfl, rfl, ed, rds⟩
          · exact ⟨Same.refl _, (rd.inDom.grow kc.base).weak wkA⟩
          · refine ⟨Same.upd hp, ?_⟩
            rw [ed]
            exact .tup upd_same (((rds.inDom.grow kc.base).weak wkA).grow (Same.upd hp))
        have kc5 := kc.grow sm5
        have I5' := I5.pinned (fpk fr5) (T.obj _ _ st5)
        refine thn (DGt _ s5 σ' H5 x u (fun σ1 Hn => Hn = H5 ∧ EnvOk X.K (Gc im G env σ) H2 env1 σ1 H5 ∧ Frm env' σ' H5 env1 σ1 H5) I5' r5 ⟨_, H2, env', ds[i], env1, kc5, rd', e5, fun σ1 k1 f1 => ⟨rfl, k1, f1⟩⟩) fun _ s6 ⟨σ6, H6, I6, z6, k6, ff6⟩ => ?_
        subst z6
        have ow6 : ∀ b, Owned env1 σ6 b → b = a := fun b o => by
          rcases ff6.more b o with z | z
          · exact hs' b z
          · obtain ⟨uu, hu⟩ := k6.there o
            rw [z] at hu; cases hu
        refine thn (DTc _ s6 σ6 H6 (fun b' Hn => b' = b ∧ Same H6 Hn) I6 ⟨_, H2, env1, b, k6, e6, fun Hn sn => ⟨rfl, sn⟩⟩) fun ok s7 ⟨H7, I7, z7, sm7⟩ => ?_
        subst z7
        have k7 := k6.grow sm7
        have fr7 := ((fc.trans (Frm.refl sm5)).trans ff6).trans (Frm.refl sm7)
        have out : ∀ {s8 : Shared} {σ8 : L2.St} {H8 : Hp} {env8 : Sl}, Inv (cxComp X N scope cl C s3 (upd H2 a (.lst [])) fp) ([] ++ pinsAt fp s5.heap) σ8 H8 s8 → (∀ b, Owned env8 σ8 b → b = a) → EnvOk X.K (Gc im G env σ) H2 env8 σ8 H8 →
            Frm (compE im m js env) (compσ m js σ a) (upd H2 a (.lst [])) env8 σ8 H8 → compD (m + js.length) t c fe (ds.drop (i + 1)) env8 = .ok envF →
            ∃ mm, mm < ds.length + 1 - i ∧ ∃ i σ' H' env', mm = ds.length + 1 - i ∧ i ≤ ds.length ∧ Inv (cxComp X N scope cl C s3 (upd H2 a (.lst [])) fp) [] σ' H' s8 ∧ tn i s8.heap ∧ (∀ b ∈ fp, H' b = none) ∧ (∀ b, Owned env' σ' b → b = a) ∧
              EnvOk X.K (Gc im G env σ) H2 env' σ' H' ∧ Frm (compE im m js env) (compσ m js σ a) (upd H2 a (.lst [])) env' σ' H' ∧ compD (m + js.length) t c fe (ds.drop i) env' = .ok envF := by
          intro s8 σ8 H8 env8 I8 ow8 k8 f8 e8
          refine ⟨ds.length + 1 - (i + 1), by omega, i + 1, σ8, H8, env8, rfl, hlt, I8.unpinned, T.keep _ _ _ st5 fun b hb' o e => (I8.pin (b, o) (List.mem_append_right _ (List.mem_append_right _ (mem_pinsAt hb' e)))).1, fun b hb' => ?_, ow8, k8, f8, e8⟩
          obtain ⟨o, e, _⟩ := T.obj _ _ st5 b hb'
          exact (I8.pin (b, o) (List.mem_append_right _ (List.mem_append_right _ (mem_pinsAt hb' e)))).2.1
        cases ok with
        | false =>
          rw [if_neg Bool.false_ne_true] at ec ⊢
          exact out I7 ow6 k7 fr7 ec
        | true =>
          rw [if_pos rfl] at ec ⊢
          obtain ⟨vd, e7, ec⟩ := bind_inv ec
          obtain ⟨acc, e8, ec⟩ := bind_inv ec
          obtain ⟨hz, ec⟩ := must_inv ec
          refine thn (DEe _ s7 σ6 H7 (fun y Hn => Same H7 Hn ∧ Rep X.K (Sf (Gc im G env σ) env1 σ6) Hn y vd) I7 ⟨_, H2, env1, vd, k7, e7, fun y Hn sn rn _ => ⟨sn, rn⟩⟩) fun yv s8 ⟨y, H8, I8, ry, sm8, rep8⟩ => ?_
          have k8 := k7.grow sm8
          have hi8 := ownL_inv e8
          obtain ⟨a8, xs8, ha8, hx8, rs8⟩ := own_list k8 hi8
          have ea : a8 = a := ow6 a8 ⟨_, _, hi8, ha8⟩
          subst ea
          have W := k8.write hi8 ha8 hx8 (xs' := xs8 ++ [y]) (ds' := acc ++ [vd]) (rs8.append (.cons rep8 .nil))
          refine thn (mt_append (X := cxComp X N scope cl C s3 (upd H2 a (.lst [])) fp) _ s8 σ6 H8 (.ref a) [y] (.ref a) [yv] (fun _ Hn => Hn = upd H8 a (.lst (xs8 ++ [y]))) I8 rfl (.cons ry .nil)
            ⟨a, xs8, y, rfl, rfl, hx8, by rw [rs8.length]; exact hz, rfl⟩) fun _ s9 ⟨_, H9, I9, _, z9⟩ => ?_
          subst z9
          exact out I9 (fun b o => ow6 b ((owned_same hi8).mp o)) W.1 ((fr7.trans (Frm.refl sm8)).trans W.2) ec
      · have he : i = ds.length := by omega
        rw [List.drop_eq_nil_of_le (by omega)] at ec
        cases ec
        refine thn (T.done (cxComp X N scope cl C s3 (upd H2 a (.lst [])) fp) rfl rfl rfl rfl i [] s' σ' H' (fun _ _ => False) Ic (fpk fr) st (w3 (by omega))) fun r s4 ⟨hr, I5⟩ => ?_
        subst hr
        have hiF := ownL_inv e3
        obtain ⟨aF, xsF, haF, hxF, rsF⟩ := own_list kc hiF
        have ea : aF = a := hs' aF ⟨_, _, hiF, haF⟩
        subst ea
        obtain ⟨mm, hn, _⟩ := I5.loc
        refine hend a C s4 H' mm _ hn (fun h' hsb => ?_) (I3.fpOk (Nat.le_refl _) I5.free) (sm.trans kc.base) (.lst hxF (k.new a (Same.free sm ha)) ?_) (new_top sm ha)
        rotate_left
        · cases him : im with
          | true => exact rsF.imm (himF him)
          | false => exact rsF.weak fun c z => ⟨⟨z.2.2 him, z.2.1⟩, own_ne kc hiF haF c z⟩
        have nC : ∀ b o, H' b = some o → b ≠ C := fun b o e z => by
          have := I5.free
          rw [z] at e
          have e' : H' C = none := this
          rw [e] at e'; cases e'
        have B := I5.base
        have ltC : ∀ b o, s3.heap.get? b = some o → b ≠ C := fun b o e => Nat.ne_of_lt (Heap.lt_size e)
        have U : Un (frs X.stack) fp (upd H2 a (.lst [])) H' s3.heap h' := ⟨fun b o e n hb' hx' => (hsb.2 b (ltC b o e)).trans (B.keep b o e n hb' hx'),
          fun b o e n hb' hx' => let ⟨sl, z⟩ := B.slot b o e n hb' hx'; ⟨sl, (hsb.2 b (ltC b o e)).trans z⟩, B.free,
          fun b o e hx' => let ⟨o', z⟩ := B.there b o e hx'; ⟨o', (hsb.2 b (ltC b o e)).trans z⟩, B.tups, B.frzs, B.tbls⟩
        refine Inv.call' (ch := fp) I3 I5.os U (fun b o e => (I5.hok b o e).stay (fun c' u hc' qq => (hsb.2 c' ?_).trans qq) (fun _ z => z) fun _ _ z => z) I5.bare (fun b hb' => ?_)
        · rcases hc' with z | z
          · rw [z]; exact nC b o e
          · exact nC c' _ z
        · obtain ⟨z0, z1, z2, z3, z4, z5⟩ := f3 b hb'
          exact ⟨z3, z1, z4, z5⟩
    · exact fun b o => comp_owned o
  exact codeAny_compStart_list loop (T.self _ 0 _ _ _ stC loop))

theorem de_comp (im : Bool) (N : List Str) (m : Nat) (js : List Nat) (S : CompSc X scope cl N m js) (hc : X.calm = true) (hi : DI X tg iter fi)
    (hb : ∀ (C : Addr) (s : Shared) (H : Hp) (fp : List Addr), DG (cxComp X N scope cl C s H fp) tg t ∧ DTs (cxComp X N scope cl C s H fp) ifs c ∧ DE (cxComp X N scope cl C s H fp) .s elt fe)
    (hs : ∀ x, foldedSetIterable iter X.env x = pure x := by intro _; rfl) :
    DE X .t (.ListComp elt [⟨tg, iter, ifs, 0⟩] scope pos) (compO im m js fi t c fe) := by
 with_unfolding_all exact (by
  intro pins s σ H Q I ⟨G, H0, env, d, k, ef, q⟩
  rw [eval_ListComp]
  exact comp_core none (EP X pins σ Q) im N m js S hc hi hb hs I k ef fun a C s' H' mm r hn hinv hfp sm rep nt => ⟨mm, hn, fun h' hsb => ⟨.ref a, H', hinv h' hsb, rfl, q _ H' sm rep nt⟩⟩)
/-- x = [.. for ..], stored ahead of the block's end -/
theorem ds_compG (sl : D → Slot) (i : Nat) {x : Str} {p ps : Pos} (hW : ∀ {G : Addr → Prop} {H0 H H1 : Hp} {env : Sl} {σ : L2.St} {v : V} {d : D}, EnvOk X.K G H0 env σ H → Same H H1 → Rep X.K (Sf G env σ) H1 v d → NewTop H v → EnvOk X.K G H0 (env.set i (sl d)) (σ.set i (some v)) H1 ∧ Frm env σ H (env.set i (sl d)) (σ.set i (some v)) H1) (hN : X.N.Nodup) (im : Bool) (N : List Str) (m : Nat) (js : List Nat) (S : CompSc X scope cl N m js) (hc : X.calm = true) (hi : DI X tg iter fi)
    (hb : ∀ (C : Addr) (s : Shared) (H : Hp) (fp : List Addr), DG (cxComp X N scope cl C s H fp) tg t ∧ DTs (cxComp X N scope cl C s H fp) ifs c ∧ DE (cxComp X N scope cl C s H fp) .s elt fe)
    (hxi : X.N[i]? = some x) (hx : Loc X.env.scope x) (hf : X.fn x = true ∨ X.env.scope.names.lookup x = some .local)
    (hsw : swapsWith (.ListComp elt [⟨tg, iter, ifs, 0⟩] scope pos) (some (.Name x p)) ps.line X.env = pure true) (hs : ∀ x, foldedSetIterable iter X.env x = pure x) :
    DS X (.Assign [.Name x p] (.ListComp elt [⟨tg, iter, ifs, 0⟩] scope pos) ps) (fun env => compO im m js fi t c fe env >>= fun d => .ok (.nx (env.set i (sl d)))) := by
 with_unfolding_all exact (by
  intro pins s σ H E I ⟨G, H0, env, o, k, ef, q⟩
  obtain ⟨d, e1, e2⟩ := bind_inv ef
  cases e2
  rw [exec_Assign_Name_used _ _ _ _ hsw]
  refine wpAny_bind (wpAny_standAt (wpAny_bind ?_))
  show wpAny _ _ (do let _ ← comprehension (.ListComp elt [⟨tg, iter, ifs, 0⟩] scope pos) scope X.env (firstIterPos [⟨tg, iter, ifs, 0⟩] pos) (newList []) (firstAsync [⟨tg, iter, ifs, 0⟩]) (firstIter [⟨tg, iter, ifs, 0⟩] X.env) (some (assign (.Name x p) X.env))) _ _ s
  refine wpAny_bind (thn (comp_core (some (assign (.Name x p) X.env)) (fun _ s' => SP X pins E .next s') im N m js S hc hi hb hs I k e1 fun a C s' H' mm r hn hinv hfp sm rep nt => ?_) fun _ s' hq => wpAny_pure (wpAny_pure hq))
  have I' : Inv X pins σ H' s' := hinv s'.heap ⟨rfl, fun _ _ => rfl⟩
  obtain ⟨W1, W2⟩ := hW k sm rep nt
  obtain ⟨f0, f1, f2, f3, f4, f5⟩ := hfp
  show wpAny _ _ (assign (.Name x p) X.env (.ref a)) _ _ _
  refine wpAny_assign_Name (store_ok2 I' hN hxi hx (show RelV (.ref a) (.ref a) from rfl) (fun s2 I2 hsb => ?_) hf)
  obtain ⟨b, hsb, hbb⟩ := hsb
  have hCb : C ≠ b := by
    rcases hbb with z | z
    · rw [z]; exact f1
    · exact fun e => f4 _ _ z e.symm
  refine ⟨mm, hn.sameBut hsb hCb, fun h' hs' => ⟨_, H', ?_, q _ _ W1 W2⟩⟩
  exact I2.turned (it := C) (t' := s2.toks) (fun b o hb e => (hs'.2 b hb).trans e) f0 f1 f3 f4 f5)
theorem ds_comp (i : Nat) {x : Str} {p ps : Pos} (hN : X.N.Nodup) (im : Bool) (N : List Str) (m : Nat) (js : List Nat) (S : CompSc X scope cl N m js) (hc : X.calm = true) (hi : DI X tg iter fi)
    (hb : ∀ (C : Addr) (s : Shared) (H : Hp) (fp : List Addr), DG (cxComp X N scope cl C s H fp) tg t ∧ DTs (cxComp X N scope cl C s H fp) ifs c ∧ DE (cxComp X N scope cl C s H fp) .s elt fe)
    (hxi : X.N[i]? = some x := by rfl) (hx : Loc X.env.scope x := by first | exact Or.inl rfl | exact Or.inr rfl) (hf : X.fn x = true ∨ X.env.scope.names.lookup x = some .local := by first | exact .inl rfl | exact .inr rfl | assumption)
    (hsw : swapsWith (.ListComp elt [⟨tg, iter, ifs, 0⟩] scope pos) (some (.Name x p)) ps.line X.env = pure true := by rfl) (hs : ∀ x, foldedSetIterable iter X.env x = pure x := by intro _; rfl) :
    DS X (.Assign [.Name x p] (.ListComp elt [⟨tg, iter, ifs, 0⟩] scope pos) ps) (setO i (compO im m js fi t c fe)) :=
  ds_compG slotN i (fun k s r nt => k.setNew s r nt) hN im N m js S hc hi hb hxi hx hf hsw hs
theorem ds_compS (i : Nat) {x : Str} {p ps : Pos} (hN : X.N.Nodup) (im : Bool) (N : List Str) (m : Nat) (js : List Nat) (S : CompSc X scope cl N m js) (hc : X.calm = true) (hi : DI X tg iter fi)
    (hb : ∀ (C : Addr) (s : Shared) (H : Hp) (fp : List Addr), DG (cxComp X N scope cl C s H fp) tg t ∧ DTs (cxComp X N scope cl C s H fp) ifs c ∧ DE (cxComp X N scope cl C s H fp) .s elt fe)
    (hxi : X.N[i]? = some x := by rfl) (hx : Loc X.env.scope x := by first | exact Or.inl rfl | exact Or.inr rfl) (hf : X.fn x = true ∨ X.env.scope.names.lookup x = some .local := by first | exact .inl rfl | exact .inr rfl | assumption)
    (hsw : swapsWith (.ListComp elt [⟨tg, iter, ifs, 0⟩] scope pos) (some (.Name x p)) ps.line X.env = pure true := by rfl) (hs : ∀ x, foldedSetIterable iter X.env x = pure x := by intro _; rfl) :
    DS X (.Assign [.Name x p] (.ListComp elt [⟨tg, iter, ifs, 0⟩] scope pos) ps) (setOs i (compO im m js fi t c fe)) :=
  ds_compG .shr i (fun k s r nt => ⟨(k.grow s).setS r, .set s fun _ _ z _ => by cases z⟩) hN im N m js S hc hi hb hxi hx hf hsw hs
end
end M

set_option Elab.async false
set_option linter.all false
set_option maxRecDepth 100000
set_option maxHeartbeats 4000000
namespace M
open PySem PySem.Spec L2
open PyProof.Rows hiding St

/-! ### a def -/
def startE (n : Nat) (ds : List D) : Sl := ds.map .shr ++ List.replicate (n - ds.length) .un
theorem env_start {K : PySem.W.Frag} {B : Addr → Prop} {N : List Str} {vs : List V} {ds : List D} {H : Hp} (r : Reps K B H vs ds) : EnvOk K (fun a => H a = none ∨ B a) H (startE N.length ds) (start N vs) H := by
  have hl := r.length
  have no : ∀ (i : Nat) (d : D), (startE N.length ds)[i]? ≠ some (.own d) := fun i d h => by
    unfold startE at h
    by_cases q : i < ds.length
    · rw [List.getElem?_append_left (by simpa using q), List.getElem?_map] at h
      cases e : ds[i]? with
      | none => rw [e] at h; cases h
      | some x => rw [e] at h; cases h
    · rw [List.getElem?_append_right (by simpa using q), List.getElem?_replicate] at h
      split at h <;> cases h
  refine ⟨by simp [L2.start, startE, hl], Same.refl H, fun _ z => .inl z, fun i d h => ?_, fun i d h => (no i d h).elim, fun i j d e a h => (no i d h).elim⟩
  unfold startE at h
  by_cases q : i < ds.length
  · rw [List.getElem?_append_left (by simpa using q), List.getElem?_map] at h
    cases e : ds[i]? with
    | none => rw [e] at h; cases h
    | some x =>
      rw [e] at h
      cases h
      obtain ⟨v, h1, h2⟩ := r.get e
      refine ⟨v, ?_, h2.weak fun a z => ⟨fun o => ?_, .inr z⟩⟩
      · unfold L2.start
        rw [List.getElem?_append_left (by simp; omega), List.getElem?_map, h1]
        rfl
      · obtain ⟨i', d', z, _⟩ := o
        exact no i' d' z
  · rw [List.getElem?_append_right (by simpa using q), List.getElem?_replicate] at h
    split at h <;> cases h
section
variable {P : Program} {w : World} {K : PySem.W.Frag} {mg : Str → Option Value} {base : Heap}
/-- a body comes to what F tells -/
def Meets (fr : Bool) (n : Nat) (g : Sl → Res Out) (ds : List D) (d : D) : Prop := (∃ fr', g (startE n ds) = .ok (.rt fr' d) ∧ (fr = true → fr' = true)) ∨ (d = .non ∧ ∃ env', g (startE n ds) = .ok (.nx env'))
theorem fn_ok {x qual : Str} {st : Stmt} {f : Addr} {fd : FuncData} {N ps : List Str} {k : Nat} {fr : Bool} {F : List D → Res D} {g : Sl → Res Out} (Fu : Fun K x qual st f fd) (S : FnScope N ps (defScope st))
    (hb : ∀ (cdv : Value) (A : Around) (outer : List Env) (s : Shared) (H : Hp) (E : XK), Room k (A.deeper (envOfC qual (defScope st) s.heap.objs.size f cdv)) → DSs (cxOf CX0 P w K mg base N qual (defScope st) f cdv A outer s H E).nox (defBody st) g)
    (hF : ∀ ds d, ds.length = ps.length → F ds = .ok d → Meets fr N.length g ds d) :
    FnOk P w K mg base CX0 (k + 1) f fd ps (spF K fr ps.length F) := by
 with_unfolding_all exact (by
  refine Fu.ok S (fun vs H Q E ⟨B, ds, d, hl, _⟩ => hl) (fun cdv A outer s H vs Q E hr h => ?_)
  obtain ⟨B, ds, d, hl, r, e, q⟩ := h
  refine ⟨_, hb cdv A outer s H E hr, ?_⟩
  have kk := env_start (N := N) r
  rcases hF ds d (by rw [← r.length]; exact hl) e with ⟨fr', z, hf⟩ | ⟨rfl, env', z⟩
  · exact ⟨_, H, _, _, kk, z, fun v H' s r nt => q v H' s r fun hh => nt (hf hh)⟩
  · exact ⟨_, H, _, _, kk, z, fun σ' H' k' f' => q .non H' k'.base .non fun _ a e => by cases e⟩)
end

/-! ### the law -/
open PySem.W in
theorem bits_of {ns : List Int} (h : WData.layableAll [WData.list (ns.map WData.int)] = true) : ∀ n ∈ ns, Builtin.Int.intBits n ≤ 2 ^ 20 := fun n hn => by
  have h1 := layableW_arg h _ List.mem_cons_self
  have h2 := layableW_item h1 (.int n) (List.mem_map.mpr ⟨n, hn, rfl⟩)
  have h3 := (layableW_iff.mp h2).2.2
  simpa only [WData.weight, Builtin.Int.intBits] using h3
open PySem.W PySem.Calls Att in
theorem attach_bits {l : OpenLaw} {n : Nat} {q : Program} {loose : List Str} {XP : (Str → Option Value) → Heap → Prop} {YP : World → Heap → Prop} {d : DefRec}
    (hn : l.most = some n) (hdf : d.params.defaults = [])
    (call : ∀ (w : World) (s₀ s₁ : Shared) (mg mb : Str → Option Value) (fa : Addr) (o : Obj) (pm cd doc : Value) (a : Addr) (vs : List Value) (ns : List Int),
      Ground q loose [] XP w s₀ mg mb s₁.heap → YP w s₁.heap →
      s₁.heap.get? fa = some o → o.data = .func (docDef d.name d.params d.body d.scope pm cd doc) → s₁.heap.CodeRec cd d.name → mg d.name = some (.ref fa) →
      s₁.heap.get? a = some { cls := .type "list", data := .seq vs.toArray } → IntsAre vs ns → ns.length ≤ n → (∀ n ∈ ns, Builtin.Int.intBits n ≤ 2 ^ 20) → s₁.gens = #[] →
      codeAny (model l.prog w) callerA (.call (.ref fa) ⟨[.ref a], []⟩) (fun r s' => r = .ok (.ret (.bool true)) ∧ OldK s₁.heap s'.heap ∧ s'.os = s₁.os ∧ AllBare s'.gens) s₁) :
    WalkO q loose XP YP l.row.toRowW d [] (fun f vs => PySem.call f vs) := by
  intro w s₀ s₁ mg mb G Y fa o pm cd doc dV kV ho hd hcd hD hmg hg args vals as hpre hlay hrd hwl hlo
  obtain rfl : dV = .none := Dflts.none hD hdf
  obtain rfl : kV = .none := Dflts.noKw hD
  obtain ⟨a, vs, ns, rfl, rfl, hobj, hints, hlen⟩ := script_of hn hpre hwl
  refine enter_call (codeAny_mono (call w s₀ s₁ mg mb fa o pm cd doc a vs ns G Y ho (fd_plain hd) hcd hmg hobj hints hlen (bits_of hlay) hg) fun r s' hq => ?_)
  obtain ⟨rfl, h2, h3, h4⟩ := hq
  exact ⟨.inl ⟨.bool true, .bool true, [], rfl, fun _ => rfl, .bool true, post_true l _, fun _ => ⟨List.Pairwise.nil, fun _ hm => (nomatch hm)⟩⟩, h2, h3, h4⟩
theorem only_lsk {K : PySem.W.Frag} {H : Hp} {a : Addr} {xs : List V} (hO : Only H) (h : SqL K H a xs) : LsK K H a xs := by
  rcases h with (h | h) | h
  · rcases hO a with z | ⟨o, ys, z⟩
    · rw [z] at h; cases h
    · rw [z] at h; cases h
  · exact .inl h
  · exact .inr h
theorem ints_rep {K : PySem.W.Frag} {A : Addr → Prop} {H : Hp} : ∀ ns : List Int, Reps K A H (ns.map V.int) (ns.map D.int)
  | [] => .nil
  | n :: r => .cons (.int n) (ints_rep r)
/-- the goal that k_head leaves: from the law's function of data -/
theorem walk_law {l : PySem.W.OpenLaw} {n k : Nat} {q : Program} {loose : List Str} {XP : (Str → Option Value) → Heap → Prop} {YP : World → Heap → Prop} {d : DefRec} {K : Params → PySem.W.Frag} {F : List D → Res D} {x : Str}
    (hn : l.most = some n) (hn2 : n ≤ sizeLine) (hdf : d.params.defaults = []) (hr : Room k callerA)
    (hY : ∀ (w : World) (h : Heap), YP w h → (K w.params).In h)
    (hF : ∀ (w : World) (mg : Str → Option Value) (fa : Addr) (h : Heap), (K w.params).In h → h.Ns mainGlobals mg → mg d.name = some (.ref fa) →
      ∃ fd : FuncData, (∀ (s : Shared) (u : Value), BindsTo s fd ⟨[u], []⟩ [(x, u)]) ∧
        ∀ base : Heap, (K w.params).In base → base.Ns mainGlobals mg → FnOk l.prog w (K w.params) mg base CX0 k fa fd [x] (spF (K w.params) true 1 F))
    (ht : ∀ ns : List Int, ns.length ≤ n → (∀ i ∈ ns, Builtin.Int.intBits i ≤ 2 ^ 20) → F [.scr (ns.map D.int)] = .ok (.bl true)) :
    PySem.W.WalkO q loose XP YP l.row.toRowW d [] (fun f vs => PySem.call f vs) := by
  refine attach_bits hn hdf fun w s₀ s₁ mg mb fa o pm cd doc a vs ns G Y ho hd hcd hmg hobj hints hlen hbits hg => ?_
  have KX := hY w _ Y
  obtain ⟨fd, hb, hFn⟩ := hF w mg fa _ KX G.T.g hmg
  refine law_call KX G.T.g G.T.b G.T.builtins G.T.nolimit hg hobj hints (Nat.le_trans hlen hn2) hr hFn hb (fun H hO hS => ?_) fun H e s' h => h
  exact ⟨Any, _, _, rfl, .cons (.lsk (only_lsk hO hS) (ints_rep ns)) .nil, ht ns hlen hbits, fun v H' _ r _ => r.blE⟩
end M

set_option Elab.async false
set_option linter.all false
set_option maxRecDepth 100000
set_option maxHeartbeats 4000000
namespace M
open PySem PySem.Spec L2
open PyProof.Rows hiding St

section
variable {X : Cx} {K : PySem.W.Frag}
/-! ### ints -/
def iOp (C : Int → Int → Prop) [∀ i j, Decidable (C i j)] (g : Int → Int → D) : D → D → Res D
  | .int i, .int j => must (C i j) (.ok (g i j))
  | _, _ => .stuck
theorem iOp_inv {C : Int → Int → Prop} [∀ i j, Decidable (C i j)] {g : Int → Int → D} {a b d : D} (h : iOp C g a b = .ok d) : ∃ i j, a = .int i ∧ b = .int j ∧ C i j ∧ d = g i j := by
  unfold iOp at h
  split at h
  · obtain ⟨h1, h2⟩ := must_inv h
    cases h2
    exact ⟨_, _, rfl, rfl, h1, rfl⟩
  · cases h
theorem od_I {C C' : Int → Int → Prop} [∀ i j, Decidable (C i j)] {h : Int → Int → V} {g : Int → Int → D} (w : ∀ i j, C i j → C' i j) (r : ∀ i j, Sc K (h i j) (g i j)) : OpS K (rI C' h) (iOp C g) := by
  intro x y H a b d Q ra rb e q
  obtain ⟨i, j, rfl, rfl, hc, rfl⟩ := iOp_inv e
  exact ⟨i, j, ra.intE, rb.intE, w i j hc, q _ (r i j)⟩
abbrev TrueC : Int → Int → Prop := fun _ _ => True
instance : ∀ i j, Decidable (TrueC i j) := fun _ _ => inferInstanceAs (Decidable True)
theorem od_I0 {h : Int → Int → V} {g : Int → Int → D} (r : ∀ i j, Sc K (h i j) (g i j)) : OpS K (rI0 h) (iOp TrueC g) := by
  intro x y H a b d Q ra rb e q
  obtain ⟨i, j, rfl, rfl, hc, rfl⟩ := iOp_inv e
  exact ⟨i, j, ra.intE, rb.intE, q _ (r i j)⟩
theorem sc_top {v : V} {d : D} {H : Hp} (h : Sc K v d) : NewTop H v := fun a e => absurd e (h.2 a)

def addD : D → D → Res D
  | .int i, .int j => .ok (.int (i + j))
  | .str i, .str j => must (i.length + j.length ≤ sizeLine) (.ok (.str (i ++ j)))
  | .lst a, .lst b => must (a.length + b.length ≤ sizeLine) (.ok (.lst (a ++ b)))
  | .tup a, .tup b => must (a.isEmpty = false ∧ a.length + b.length ≤ sizeLine) (.ok (.tup (a ++ b)))
  | _, _ => .stuck
theorem op_addD : OpR X (binaryOp .Add) (fun x y H Q => rI0 (fun i j => .int (i + j)) x y H Q ∨ (∃ i j, x = .str i ∧ y = .str j ∧ i.length + j.length ≤ sizeLine ∧ Q (.str (i ++ j)) H) ∨ rCat x y H Q ∨ rCatT X.K x y H Q) :=
  op_add.or (op_add_str.or (op_cat.or op_catT))
theorem Reps.len_app {A : Addr → Prop} {H : Hp} {xs ys : List V} {a b : List D} (r : Reps K A H xs a) (s : Reps K A H ys b) (h : a.length + b.length ≤ sizeLine) : xs.length + ys.length ≤ sizeLine := by rw [r.length, s.length]; exact h
theorem orA {A : Addr → Prop} {H : Hp} : ∀ c, A c → (H c = none ∨ A c) := fun _ z => .inr z
theorem od_add : OpD K (fun x y H Q => rI0 (fun i j => .int (i + j)) x y H Q ∨ (∃ i j, x = .str i ∧ y = .str j ∧ i.length + j.length ≤ sizeLine ∧ Q (.str (i ++ j)) H) ∨ rCat x y H Q ∨ rCatT K x y H Q) addD := by
  intro A x y H a b d Q ra rb e q
  unfold addD at e
  split at e
  · cases e
    exact .inl ⟨_, _, ra.intE, rb.intE, q _ H (Same.refl H) (.int _) (sc_top (sc_int (K := K) _))⟩
  · obtain ⟨h1, h2⟩ := must_inv e
    cases h2
    have hl : ∀ i j : Str, i.length + j.length ≤ sizeLine → (i ++ j).length ≤ sizeLine := fun i j h => by rw [strLen_append]; exact h
    exact .inr (.inl ⟨_, _, ra.strE.1, rb.strE.1, h1, q _ H (Same.refl H) (.str _ (hl _ _ h1)) (sc_top (sc_str (K := K) _ (hl _ _ h1)))⟩)
  · obtain ⟨h3, h4⟩ := must_inv e
    cases h4
    obtain ⟨l, xs, rfl, hl, _, rx⟩ := ra.lstE
    obtain ⟨l', ys, rfl, hl', _, ry⟩ := rb.lstE
    refine .inr (.inr (.inl ⟨l, l', xs, ys, rfl, rfl, hl, hl', rx.low.len_app ry.low h3, fun p hp => q _ _ (Same.upd hp) ?_ (new_top (Same.refl H) hp)⟩))
    exact .lst upd_same (.inl hp) (((rx.low.append ry.low).laid hp).weak fun c z => ⟨.inr z.1, z.2⟩)
  · obtain ⟨⟨h3, h4⟩, h5⟩ := must_inv e
    cases h5
    obtain ⟨l, xs, rfl, hl, rx⟩ := ra.tupE
    obtain ⟨l', ys, rfl, hl', ry⟩ := rb.tupE
    refine .inr (.inr (.inr ⟨l, l', xs, ys, rfl, rfl, .of hl, .of hl', fun z => ?_, rx.len_app ry h4, fun z => ?_, fun z p hp => q _ _ (Same.upd hp) ?_ (new_top (Same.refl H) hp)⟩))
    · subst z; cases rx; cases h3
    · subst z
      cases ry
      rw [List.append_nil] at q
      refine q _ H (Same.refl H) (.tup hl (rx.weak orA)) fun a e o q' m => ?_
      cases e; rw [hl] at q'; cases q'; exact m
    · exact .tup upd_same (((rx.append ry).weak orA).grow (Same.upd hp))
  · cases e
theorem od_sub : OpS K (rI0 fun i j => .int (i - j)) (iOp TrueC fun i j => .int (i - j)) := od_I0 fun i j => sc_int _
abbrev MulC : Int → Int → Prop := fun i j => Builtin.Int.intBits i + Builtin.Int.intBits j ≤ 134217728
theorem op_mulB : OpR X (binaryOp .Mult) (rI MulC fun i j => .int (i * j)) := opI fun _ _ _ _ _ _ _ hc q => mul_int q (IntMulOk.of_le (Nat.le_refl _) (Nat.le_refl _) hc)
theorem od_mul : OpS K (rI MulC fun i j => .int (i * j)) (iOp MulC fun i j => .int (i * j)) := od_I (fun _ _ h => h) fun i j => sc_int _
abbrev DivC : Int → Int → Prop := fun _ j => 0 < j ∧ j < 1073741824
theorem od_fdiv : OpS K (rI CDiv fun i j => .int (i / j)) (iOp DivC fun i j => .int (i / j)) := od_I (fun _ _ h => h) fun i j => sc_int _
abbrev PosC : Int → Int → Prop := fun _ j => 0 < j
theorem od_mod : OpS K (rI (fun _ j => 0 < j) fun i j => .int (i % j)) (iOp PosC fun i j => .int (i % j)) := od_I (fun _ _ h => h) fun i j => sc_int _
abbrev PowC : Int → Int → Prop := fun i j => 0 ≤ j ∧ j ≤ 1000000 ∧ i.natAbs < 2 ^ 64
theorem od_pow : OpS K (rI CPow fun i j => .int (i ^ j.toNat)) (iOp PowC fun i j => .int (i ^ j.toNat)) := od_I (fun _ _ h => h) fun i j => sc_int _
theorem od_lt : OpS K (rI0 fun i j => .bl (decide (i < j))) (iOp TrueC fun i j => .bl (decide (i < j))) := od_I0 fun i j => sc_bl _
theorem od_gt : OpS K (rI0 fun i j => .bl (decide (j < i))) (iOp TrueC fun i j => .bl (decide (j < i))) := od_I0 fun i j => sc_bl _
/-! ### in, of texts -/
def inS (i j : Str) : Bool := !(Builtin.Str.occurrences j i 0 j.length 1).isEmpty
def inD : D → D → Res D
  | .str i, .str j => .ok (.bl (inS i j))
  | _, _ => .stuck
def ninD : D → D → Res D
  | .str i, .str j => .ok (.bl (!inS i j))
  | _, _ => .stuck
/-! ### is None -/
def D.isNon : D → Bool
  | .non => true
  | _ => false
def isN : D → D → Res D
  | a, .non => .ok (.bl a.isNon)
  | _, _ => .stuck
/-! ### len, tuple, list, min, max -/
def lenD : List D → Res D
  | [.lst ds] => .ok (.int ds.length)
  | [.scr ds] => .ok (.int ds.length)
  | [.tup ds] => .ok (.int ds.length)
  | [.str z] => .ok (.int z.length)
  | _ => .stuck
theorem call_lenA : CallR X (.builtin "len") (fun xs H Q => (∃ p ys, xs = [.ref p] ∧ (SqL X.K H p ys ∨ SqT X.K H p ys) ∧ Q (.int ys.length) H) ∨ (∃ z, xs = [.str z] ∧ z.length ≤ sizeLine ∧ Q (.int z.length) H)) := call_len_seq.or call_len_str
theorem cd_len : CallS K (fun xs H Q => (∃ p ys, xs = [.ref p] ∧ (SqL K H p ys ∨ SqT K H p ys) ∧ Q (.int ys.length) H) ∨ (∃ z, xs = [.str z] ∧ z.length ≤ sizeLine ∧ Q (.int z.length) H)) lenD := by
  intro xs H ds d Q r e q
  unfold lenD at e
  split at e
  · cases e
    obtain ⟨v, rfl, r1⟩ := r.one
    obtain ⟨p, ys, rfl, hp, _, ry⟩ := r1.lstE
    exact .inl ⟨p, ys, rfl, .inl (.of hp), by rw [ry.length]; exact q _ (sc_int _)⟩
  · cases e
    obtain ⟨v, rfl, r1⟩ := r.one
    obtain ⟨p, ys, rfl, hp, ry⟩ := r1.scrE
    exact .inl ⟨p, ys, rfl, .inl hp.sql, by rw [ry.length]; exact q _ (sc_int _)⟩
  · cases e
    obtain ⟨v, rfl, r1⟩ := r.one
    obtain ⟨p, ys, rfl, hp, ry⟩ := r1.tupE
    exact .inl ⟨p, ys, rfl, .inr (.of hp), by rw [ry.length]; exact q _ (sc_int _)⟩
  · cases e
    obtain ⟨v, rfl, r1⟩ := r.one
    obtain ⟨rfl, hz⟩ := r1.strE
    exact .inr ⟨_, rfl, hz, q _ (sc_int _)⟩
  · cases e
def tupleD : List D → Res D
  | [.lst ds] => (.ok (.tup ds))
  | [.tup ds] => (.ok (.tup ds))
  | _ => .stuck
theorem tup_top {H : Hp} {p : Addr} {xs : List V} (h : H p = some (.tup xs)) : NewTop H (.ref p) := fun a e o q m => by
  cases e; rw [h] at q; cases q; exact m
theorem cd_tuple : CallD K (fun xs H Q => ∃ p ys, xs = [.ref p] ∧ ((SqL K H p ys ∧ ∀ l, H l = none → Q (.ref l) (upd H l (.tup ys))) ∨ (SqT K H p ys ∧ Q (.ref p) H))) tupleD := by
  intro A xs H ds d Q r e q
  unfold tupleD at e
  split at e
  · cases e
    obtain ⟨v, rfl, r1⟩ := r.one
    obtain ⟨p, ys, rfl, hp, _, ry⟩ := r1.lstE
    exact ⟨p, ys, rfl, .inl ⟨.of hp, fun l hl => q _ _ (Same.upd hl) (.tup upd_same ((ry.low.weak orA).grow (Same.upd hl))) (new_top (Same.refl H) hl)⟩⟩
  · cases e
    obtain ⟨v, rfl, r1⟩ := r.one
    obtain ⟨p, ys, rfl, hp, ry⟩ := r1.tupE
    exact ⟨p, ys, rfl, .inr ⟨.of hp, q _ H (Same.refl H) (.tup hp (ry.weak orA)) (tup_top hp)⟩⟩
  · cases e
def listD : List D → Res D
  | [.lst ds] => (.ok (.lst ds))
  | [.tup ds] => (.ok (.lst ds))
  | _ => .stuck
def minD : List D → Res D
  | [.int i, .int j] => .ok (.int (if j < i then j else i))
  | _ => .stuck
theorem cd_min : CallS K (fun xs H Q => ∃ i j, xs = [.int i, .int j] ∧ Q (.int (if j < i then j else i)) H) minD := by
  intro xs H ds d Q r e q
  unfold minD at e
  split at e
  · cases e
    obtain ⟨v, v', rfl, r1, r2⟩ := r.two
    cases r1.intE
    cases r2.intE
    exact ⟨_, _, rfl, q _ (sc_int _)⟩
  · cases e
def maxD : List D → Res D
  | [.int i, .int j] => .ok (.int (if j > i then j else i))
  | _ => .stuck
theorem cd_max : CallS K (fun xs H Q => ∃ i j, xs = [.int i, .int j] ∧ Q (.int (if j > i then j else i)) H) maxD := by
  intro xs H ds d Q r e q
  unfold maxD at e
  split at e
  · cases e
    obtain ⟨v, v', rfl, r1, r2⟩ := r.two
    cases r1.intE
    cases r2.intE
    exact ⟨_, _, rfl, q _ (sc_int _)⟩
  · cases e

/-! ### isinstance -/
def tyN : D → Option String
  | .non => some "NoneType"
  | .bl _ => some "bool"
  | .int _ => some "int"
  | .str _ => some "str"
  | .tup _ => some "tuple"
  | .lst _ => some "list"
  | .scr _ => none
  | .dic _ _ => some "dict"
  | .dit _ _ => some "dict"
theorem ty_of {A : Addr → Prop} {H : Hp} {v : V} {d : D} {n : String} (r : Rep K A H v d) (h : tyN d = some n) : TyOf K H v (.type n) := by
  cases r with
  | non => cases h; exact .non
  | bl b => cases h; exact .bl b
  | int i => cases h; exact .int i
  | str x _ => cases h; exact .str x
  | tup e _ => cases h; exact .tup e
  | lst e _ _ => cases h; exact .lst e
  | lsk _ _ => cases h
  | dic e _ _ _ _ => cases h; exact .dK e
  | dit e _ _ _ _ => cases h; exact .dT e
/-- of a class's name: which kinds of ours are of it -/
def isTy (T n : String) : Bool := n == T || (T == "int" && n == "bool")
def IsTy (T : String) : Prop := ∀ (K : PySem.W.Frag) (n : String), n ∈ ["NoneType", "bool", "int", "str", "tuple", "list", "dict"] → PySem.W.kitOne K (.type n) (.type T) = some (isTy T n)
theorem ty_mem {d : D} {n : String} (h : tyN d = some n) : n ∈ ["NoneType", "bool", "int", "str", "tuple", "list", "dict"] := by
  cases d <;> first | (cases h; done) | (cases h; decide)
theorem isTy_of {T : String} (h : ∀ (K : PySem.W.Frag), PySem.W.kitOne K (.type "NoneType") (.type T) = some (isTy T "NoneType") ∧ PySem.W.kitOne K (.type "bool") (.type T) = some (isTy T "bool") ∧ PySem.W.kitOne K (.type "int") (.type T) = some (isTy T "int") ∧
    PySem.W.kitOne K (.type "str") (.type T) = some (isTy T "str") ∧ PySem.W.kitOne K (.type "tuple") (.type T) = some (isTy T "tuple") ∧ PySem.W.kitOne K (.type "list") (.type T) = some (isTy T "list") ∧ PySem.W.kitOne K (.type "dict") (.type T) = some (isTy T "dict")) : IsTy T := by
  intro K n hn
  obtain ⟨h1, h2, h3, h4, h5, h6, h7⟩ := h K
  simp only [List.mem_cons, List.not_mem_nil, or_false] at hn
  rcases hn with rfl | rfl | rfl | rfl | rfl | rfl | rfl <;> assumption
theorem isTy_bool : IsTy "bool" := isTy_of fun K => ⟨rfl, rfl, rfl, rfl, rfl, rfl, rfl⟩
theorem isTy_tuple : IsTy "tuple" := isTy_of fun K => ⟨rfl, rfl, rfl, rfl, rfl, rfl, rfl⟩
def isiD (T : String) (d : D) : Res D := match tyN d with
  | some n => .ok (.bl (isTy T n))
  | none => .stuck
theorem call_isi (T : String) (h : IsTy T) : CallR X (.builtin "isinstance") (fun xs H Q => ∃ x d, xs = [x, .ty T] ∧ Rep X.K Any H x d ∧ ∃ b, isiD T d = .ok (.bl b) ∧ Q (.bl b) H) := by
  intro pins s σ H xs us Q I r ⟨x, d, ex, rp, b, e, q⟩
  subst ex
  obtain ⟨u, w', rfl, r1, r2⟩ := vals2 r
  cases (show w' = Value.type T from r2)
  unfold isiD at e
  split at e
  · rename_i n hn
    cases e
    refine isinst_ok I r1 (ty_of rp hn) (h X.K n (ty_mem hn)) fun tk => ⟨.bl _, H, I.tok tk, rfl, q⟩
  · cases e
def isiF (T : String) (f : Sl → Res D) : Sl → Res D := fun env => f env >>= isiD T
theorem de_isi (T : String) (Ty : Str) {l l' : Lv} {e : Expr} {f : Sl → Res D} {p p2 pos : Pos} (ht : IsTy T) (he : DE X l e f) (hg : Gl X "isinstance") (hm : X.mg "isinstance" = none) (hg2 : Gl X Ty) (hm2 : X.mg Ty = none) (hv : bootBuiltins Ty = some (.type T))
    (hn : Ty ≠ "__name__" := by decide) (hd : (Ty == ("__debug__" : Str)) = false := by decide) (hs : starEach [e, .Name Ty p2] X.env = (false, eval e X.env) :: starEach [.Name Ty p2] X.env := by exact star_plain rfl)
    (hs2 : starEach [.Name Ty p2] X.env = (false, eval (.Name Ty p2) X.env) :: starEach [] X.env := by exact star_plain rfl) (hpl : (backTo pos (starEach [.Name Ty p2] X.env)).any (·.1) = false := by exact any_plain rfl) :
    DE X l' (.Call (.Name "isinstance" p) [e, .Name Ty p2] [] pos) (isiF T f) := by
 with_unfolding_all exact (
  PE.imp (pe_callB (call_isi T ht) hg hm boot_isinstance (pa_cons he (pa_cons (pe_bltn (v := .ty T) hg2 hm2 hv rfl hn hd) pa_nil hs2) hs) (by decide) (by decide) hs hpl) fun σ H Q ⟨G, H0, env, d, k, ef, q⟩ => by
    obtain ⟨a, e1, e2⟩ := bind_inv ef
    refine ⟨G, H0, env, a, k, e1, fun v H' s r _ => ?_⟩
    have hb : ∃ b, d = .bl b := by
      unfold isiD at e2
      split at e2
      · cases e2; exact ⟨_, rfl⟩
      · cases e2
    obtain ⟨b, rfl⟩ := hb
    exact ⟨v, a, rfl, r.weak Lv.weak_b, b, e2, q _ H' s (.bl b) (sc_bl (K := X.K) b).T⟩)

/-! ### all of a list of bools -/
def bools : List D → Option (List Bool)
  | [] => some []
  | .bl b :: r => (bools r).map (b :: ·)
  | _ => none
def allD : List D → Res D
  | [.lst ds] => match bools ds with
    | some bs => .ok (.bl (bs.all id))
    | none => .stuck
  | _ => .stuck
end
end M

set_option Elab.async false
set_option linter.all false
set_option maxRecDepth 100000
set_option maxHeartbeats 4000000
namespace M
open PySem PySem.Spec L2
open PyProof.Rows hiding St
open PySem.SeqAt (EqAt RcAt RcNeAt)

mutual
theorem D.ind {P : D → Prop} (h0 : P .non) (h1 : ∀ b, P (.bl b)) (h2 : ∀ i, P (.int i)) (h3 : ∀ x, P (.str x)) (h4 : ∀ ds, (∀ d ∈ ds, P d) → P (.tup ds)) (h5 : ∀ ds, (∀ d ∈ ds, P d) → P (.lst ds))
    (h6 : ∀ ds, (∀ d ∈ ds, P d) → P (.scr ds)) (h7 : (∀ ks ds, (∀ d ∈ ds, P d) → P (.dic ks ds)) ∧ ∀ ks ds, (∀ d ∈ ds, P d) → P (.dit ks ds)) : ∀ d, P d
  | .non => h0
  | .bl b => h1 b
  | .int i => h2 i
  | .str x => h3 x
  | .tup ds => h4 ds (D.inds h0 h1 h2 h3 h4 h5 h6 h7 ds)
  | .lst ds => h5 ds (D.inds h0 h1 h2 h3 h4 h5 h6 h7 ds)
  | .scr ds => h6 ds (D.inds h0 h1 h2 h3 h4 h5 h6 h7 ds)
  | .dic ks ds => h7.1 ks ds (D.inds h0 h1 h2 h3 h4 h5 h6 h7 ds)
  | .dit ks ds => h7.2 ks ds (D.inds h0 h1 h2 h3 h4 h5 h6 h7 ds)
theorem D.inds {P : D → Prop} (h0 : P .non) (h1 : ∀ b, P (.bl b)) (h2 : ∀ i, P (.int i)) (h3 : ∀ x, P (.str x)) (h4 : ∀ ds, (∀ d ∈ ds, P d) → P (.tup ds)) (h5 : ∀ ds, (∀ d ∈ ds, P d) → P (.lst ds))
    (h6 : ∀ ds, (∀ d ∈ ds, P d) → P (.scr ds)) (h7 : (∀ ks ds, (∀ d ∈ ds, P d) → P (.dic ks ds)) ∧ ∀ ks ds, (∀ d ∈ ds, P d) → P (.dit ks ds)) : ∀ ds : List D, ∀ d ∈ ds, P d
  | [], _, h => by cases h
  | x :: r, d, h => by
    have p := D.ind h0 h1 h2 h3 h4 h5 h6 h7 x
    have q := D.inds h0 h1 h2 h3 h4 h5 h6 h7 r
    rcases List.mem_cons.mp h with z | z
    · rw [z]; exact p
    · exact q d z
end
mutual
/-- levels of lists and tuples in it -/
def D.dep : D → Nat
  | .tup ds => D.deps ds + 1
  | .lst ds => D.deps ds + 1
  | _ => 0
def D.deps : List D → Nat
  | [] => 0
  | d :: ds => max (D.dep d) (D.deps ds)
end
mutual
/-- what == is told of here -/
def D.eqb : D → Bool
  | .scr _ => false
  | .dic _ _ => false
  | .dit _ _ => false
  | .tup ds => D.eqbs ds
  | .lst ds => D.eqbs ds
  | _ => true
def D.eqbs : List D → Bool
  | [] => true
  | d :: ds => D.eqb d && D.eqbs ds
end
mutual
def eqD : D → D → Bool
  | .non, .non => true
  | .bl a, .bl b => a == b
  | .bl a, .int j => (if a then 1 else 0) == j
  | .int i, .bl b => i == (if b then 1 else 0)
  | .int i, .int j => i == j
  | .str x, .str y => x == y
  | .tup a, .tup b => eqDs a b
  | .lst a, .lst b => eqDs a b
  | _, _ => false
def eqDs : List D → List D → Bool
  | [], [] => true
  | a :: as, b :: bs => eqD a b && eqDs as bs
  | _, _ => false
end
theorem deps_mem : ∀ {ds : List D} {d : D}, d ∈ ds → D.dep d ≤ D.deps ds
  | x :: r, d, h => by
    simp only [D.deps]
    rcases List.mem_cons.mp h with rfl | h
    · omega
    · have := deps_mem h; omega
theorem eqbs_mem : ∀ {ds : List D} {d : D}, D.eqbs ds = true → d ∈ ds → D.eqb d = true
  | x :: r, d, hb, h => by
    simp only [D.eqbs, Bool.and_eq_true] at hb
    rcases List.mem_cons.mp h with rfl | h
    · exact hb.1
    · exact eqbs_mem hb.2 h
theorem eqDs_refl_of : ∀ {ds : List D}, (∀ d ∈ ds, D.eqb d = true → eqD d d = true) → D.eqbs ds = true → eqDs ds ds = true
  | [], _, _ => by simp [eqDs]
  | d :: ds, h, hb => by
    simp only [D.eqbs, Bool.and_eq_true] at hb
    simp only [eqDs, Bool.and_eq_true]
    exact ⟨h d List.mem_cons_self hb.1, eqDs_refl_of (fun x hx => h x (List.mem_cons_of_mem _ hx)) hb.2⟩
theorem eqD_refl (d : D) : D.eqb d = true → eqD d d = true := by
  refine D.ind (P := fun d => D.eqb d = true → eqD d d = true) ?_ ?_ ?_ ?_ ?_ ?_ ?_ ?_ d
  · intro _; simp [eqD]
  · intro b _; simp [eqD]
  · intro i _; simp [eqD]
  · intro x _; simp [eqD]
  · intro ds ih hb; simp only [eqD]; exact eqDs_refl_of ih (by simpa only [D.eqb] using hb)
  · intro ds ih hb; simp only [eqD]; exact eqDs_refl_of ih (by simpa only [D.eqb] using hb)
  · intro ds ih hb; simp [D.eqb] at hb
  · exact ⟨by intro ks ds ih hb; simp [D.eqb] at hb, by intro ks ds ih hb; simp [D.eqb] at hb⟩
section
variable {K : PySem.W.Frag} {H : Hp}
theorem Reps.inj_of : ∀ {A A' : Addr → Prop} {vs : List V} {ds ds' : List D}, (∀ d ∈ ds, ∀ (A A' : Addr → Prop) v d', D.eqb d = true → D.eqb d' = true → Rep K A H v d → Rep K A' H v d' → d = d') → D.eqbs ds = true → D.eqbs ds' = true → Reps K A H vs ds → Reps K A' H vs ds' → ds = ds'
  | _, _, _, _, _, _, _, _, .nil, .nil => rfl
  | _, _, _, _, _, h, hb, hb', .cons r t, .cons r' t' => by
    simp only [D.eqbs, Bool.and_eq_true] at hb hb'
    rw [h _ List.mem_cons_self _ _ _ _ hb.1 hb'.1 r r', Reps.inj_of (fun d hd => h d (List.mem_cons_of_mem _ hd)) hb.2 hb'.2 t t']
/-- a value stands for one datum (no script in it) -/
theorem Rep.inj (d : D) : ∀ (A A' : Addr → Prop) v d', D.eqb d = true → D.eqb d' = true → Rep K A H v d → Rep K A' H v d' → d = d' := by
  refine D.ind (P := fun d => ∀ (A A' : Addr → Prop) v d', D.eqb d = true → D.eqb d' = true → Rep K A H v d → Rep K A' H v d' → d = d') ?_ ?_ ?_ ?_ ?_ ?_ ?_ ?_ d
  · intro A A' v d' _ _ r r'; cases r.nonE; cases r'; rfl
  · intro b A A' v d' _ _ r r'; cases r.blE; cases r'; rfl
  · intro b A A' v d' _ _ r r'; cases r.intE; cases r'; rfl
  · intro b A A' v d' _ _ r r'; cases r.strE.1; cases r'; rfl
  · intro ds ih A A' v d' hb hd' r r'
    obtain ⟨a, xs, rfl, ha, rs⟩ := r.tupE
    have hb' : D.eqbs ds = true := by simpa only [D.eqb] using hb
    cases r' with
    | tup e rs' =>
      rw [ha] at e; cases e
      rw [Reps.inj_of ih hb' (by simpa only [D.eqb] using hd') rs rs']
    | lst e _ _ => rw [ha] at e; cases e
    | lsk e _ => simp [D.eqb] at hd'
    | dic e _ _ _ _ => rw [ha] at e; cases e
    | dit e _ _ _ _ => rw [ha] at e; cases e
  · intro ds ih A A' v d' hb hd' r r'
    obtain ⟨a, xs, rfl, ha, _, rs⟩ := r.lstE
    have hb' : D.eqbs ds = true := by simpa only [D.eqb] using hb
    cases r' with
    | tup e rs' => rw [ha] at e; cases e
    | lst e _ rs' =>
      rw [ha] at e; cases e
      rw [Reps.inj_of ih hb' (by simpa only [D.eqb] using hd') rs rs']
    | lsk e _ => simp [D.eqb] at hd'
    | dic e _ _ _ _ => rw [ha] at e; cases e
    | dit e _ _ _ _ => rw [ha] at e; cases e
  · intro ds ih A A' v d' hb; simp [D.eqb] at hb
  · exact ⟨by intro ks ds ih A A' v d' hb; simp [D.eqb] at hb, by intro ks ds ih A A' v d' hb; simp [D.eqb] at hb⟩
end
/-- the answers place by place -/
def eqAtJ (a b : List D) (j : Nat) : Bool := match a[j]?, b[j]? with
  | some x, some y => eqD x y
  | _, _ => true
theorem eqDs_range : ∀ (a b : List D), a.length = b.length → eqDs a b = (List.range a.length).all (eqAtJ a b)
  | [], [], _ => by simp [eqDs]
  | x :: a, y :: b, h => by
    have hl : a.length = b.length := by simpa using h
    rw [List.length_cons, List.range_succ_eq_map, List.all_cons, List.all_map]
    simp only [eqDs]
    rw [eqDs_range a b hl]
    congr 1
theorem eqDs_len : ∀ (a b : List D), a.length ≠ b.length → eqDs a b = false
  | [], [], h => absurd rfl h
  | [], y :: b, _ => by simp [eqDs]
  | x :: a, [], _ => by simp [eqDs]
  | x :: a, y :: b, h => by
    simp only [eqDs]
    rw [eqDs_len a b (by simpa using h), Bool.and_false]
theorem eqDs_tup (a b : List D) : eqDs a b = ((List.range (min a.length b.length)).all (eqAtJ a b) && a.length == b.length) := by
  by_cases h : a.length = b.length
  · rw [eqDs_range a b h, h]; simp
  · rw [eqDs_len a b h]; simp [h]

section
variable {X : Cx} {pins : List (Addr × Obj)} {σ : L2.St} {H : Hp} {s : Shared}
/-- the two values compared, as objects -/
inductive Cm (X : Cx) (H : Hp) (s : Shared) : Value → D → Prop where
  | non : Cm X H s .none .non
  | bl (b : Bool) : Cm X H s (.bool b) (.bl b)
  | int (i : Int) (t : Tok) : Cm X H s (.int i t) (.int i)
  | str (x : Str) (t : Tok) : Cm X H s (.str x t) (.str x)
  | tup {a : Addr} {xs : List V} {its : List Value} {ds : List D} : H a = some (.tup xs) → s.heap.IsTuple a its.toArray → Vals xs its → Reps X.K Any H xs ds → Cm X H s (.ref a) (.tup ds)
  | lst {a : Addr} {xs : List V} {its : List Value} {ds : List D} : H a = some (.lst xs) → s.heap.IsList a its.toArray → Vals xs its → Reps X.K Any H xs ds → Cm X H s (.ref a) (.lst ds)
theorem cm_of (I : Inv X pins σ H s) {v : V} {u : Value} {d : D} (r : Rep X.K Any H v d) (ru : RelV v u) (hb : D.eqb d = true) : Cm X H s u d := by
  cases r with
  | non => cases ru; exact .non
  | bl b => cases ru; exact .bl b
  | int i => obtain ⟨t, rfl⟩ := ru; exact .int i t
  | str x _ => obtain ⟨t, rfl⟩ := ru; exact .str x t
  | tup e rs =>
    cases ru
    obtain ⟨its, rv, p, hz⟩ := I.tuple (.of e)
    exact .tup e p rv rs
  | lst e _ rs =>
    cases ru
    obtain ⟨its, rv, p, hz⟩ := I.list (.of e)
    exact .lst e p.isList rv rs.low
  | lsk _ _ => simp [D.eqb] at hb
  | dic _ _ _ _ _ => simp [D.eqb] at hb
  | dit _ _ _ _ _ => simp [D.eqb] at hb
theorem elems {A : Around} {xs ys : List V} {its its2 : List Value} {a b : List D} (ra : Reps X.K Any H xs a) (rb : Reps X.K Any H ys b) (va : Vals xs its) (vb : Vals ys its2)
    (ih : ∀ d ∈ a, ∀ (v v' : V) (u u' : Value) (d' : D), Rep X.K Any H v d → RelV v u → Rep X.K Any H v' d' → RelV v' u' → D.eqb d = true → D.eqb d' = true → EqAt A.in1 s u u' (eqD d d')) (ha : D.eqbs a = true) (hb : D.eqbs b = true) :
    ∀ j (h1 : j < its.toArray.size) (h2 : j < its2.toArray.size), EqAt A.in1 s its.toArray[j] its2.toArray[j] (eqAtJ a b j) := by
  intro j h1 h2
  have l1 := va.length
  have l2 := vb.length
  have l3 := ra.length
  have l4 := rb.length
  have j1 : j < a.length := by simp at h1; omega
  have j2 : j < b.length := by simp at h2; omega
  obtain ⟨v, e1, r1⟩ := ra.get (List.getElem?_eq_getElem j1)
  obtain ⟨v', e2, r2⟩ := rb.get (List.getElem?_eq_getElem j2)
  obtain ⟨u, e3, r3⟩ := va.get e1
  obtain ⟨u', e4, r4⟩ := vb.get e2
  have g1 : its.toArray[j] = u := by
    have := List.getElem?_eq_some_iff.mp e3
    obtain ⟨_, q⟩ := this
    simpa using q
  have g2 : its2.toArray[j] = u' := by
    have := List.getElem?_eq_some_iff.mp e4
    obtain ⟨_, q⟩ := this
    simpa using q
  rw [g1, g2]
  have e : eqAtJ a b j = eqD a[j] b[j] := by unfold eqAtJ; rw [List.getElem?_eq_getElem j1, List.getElem?_eq_getElem j2]
  rw [e]
  exact ih _ (List.getElem_mem j1) v v' u u' _ r1 r3 r2 r4 (eqbs_mem ha (List.getElem_mem j1)) (eqbs_mem hb (List.getElem_mem j2))
/-- == within -/
theorem eqAt_all (I : Inv X pins σ H s) (d : D) : ∀ (A : Around) (v v' : V) (u u' : Value) (d' : D), A.units + d.dep < cLine → Rep X.K Any H v d → RelV v u → Rep X.K Any H v' d' → RelV v' u' → D.eqb d = true → D.eqb d' = true → EqAt A s u u' (eqD d d') := by
  refine D.ind (P := fun d => ∀ (A : Around) (v v' : V) (u u' : Value) (d' : D), A.units + d.dep < cLine → Rep X.K Any H v d → RelV v u → Rep X.K Any H v' d' → RelV v' u' → D.eqb d = true → D.eqb d' = true → EqAt A s u u' (eqD d d')) ?_ ?_ ?_ ?_ ?_ ?_ ?_ ?_ d
  · intro A v v' u u' d' hu r ru r' ru' hb hb'
    cases cm_of I r ru hb
    have hu' : A.units < cLine := by simp only [D.dep] at hu; omega
    cases cm_of I r' ru' hb' <;> simp only [eqD]
    · exact EqAt.same _
    · exact EqAt.none_bool _
    · exact EqAt.none_int _ _
    · exact EqAt.none_str _ _
    · exact EqAt.none_tuple (by assumption) hu'
    · exact EqAt.none_list (by assumption) hu'
  · intro b A v v' u u' d' hu r ru r' ru' hb hb'
    cases cm_of I r ru hb
    have hu' : A.units < cLine := by simp only [D.dep] at hu; omega
    cases cm_of I r' ru' hb' <;> simp only [eqD]
    · exact EqAt.bool_none _
    · exact EqAt.bool_bool _ _
    · exact EqAt.bool_int _ _ _
    · exact EqAt.bool_str _ _ _
    · exact EqAt.bool_tuple _ (by assumption) hu'
    · exact EqAt.bool_list _ (by assumption) hu'
  · intro i A v v' u u' d' hu r ru r' ru' hb hb'
    cases cm_of I r ru hb
    have hu' : A.units < cLine := by simp only [D.dep] at hu; omega
    cases cm_of I r' ru' hb' <;> simp only [eqD]
    · exact EqAt.int_none _ _
    · exact EqAt.int_bool _ _ _
    · exact EqAt.int_int _ _ _ _
    · exact EqAt.int_str _ _ _ _
    · exact EqAt.int_tuple _ _ (by assumption) hu'
    · exact EqAt.int_list _ _ (by assumption) hu'
  · intro x A v v' u u' d' hu r ru r' ru' hb hb'
    cases cm_of I r ru hb
    have hu' : A.units < cLine := by simp only [D.dep] at hu; omega
    cases cm_of I r' ru' hb' <;> simp only [eqD]
    · exact EqAt.str_none _ _
    · exact EqAt.str_bool _ _ _
    · exact EqAt.str_int _ _ _ _
    · exact EqAt.str_str _ _ _ _
    · exact EqAt.str_tuple _ _ (by assumption) hu'
    · exact EqAt.str_list _ _ (by assumption) hu'
  · intro ds ih A v v' u u' d' hu r ru r' ru' hb hb'
    have hu' : A.units < cLine := by simp only [D.dep] at hu; omega
    have c1 := cm_of I r ru hb
    have c2 := cm_of I r' ru' hb'
    cases c1 with
    | tup e p rv rs =>
      cases c2 with
      | non => simp only [eqD]; exact EqAt.tuple_none p hu'
      | bl b => simp only [eqD]; exact EqAt.tuple_bool _ p hu'
      | int i t => simp only [eqD]; exact EqAt.tuple_int _ _ p hu'
      | str x t => simp only [eqD]; exact EqAt.tuple_str _ _ p hu'
      | lst e2 p2 rv2 rs2 => simp only [eqD]; exact EqAt.tuple_list p p2 hu'
      | @tup a2 xs2 its2 ds2 e2 p2 rv2 rs2 =>
        rename_i a1 xs1 its1
        by_cases z : a1 = a2
        · subst z
          have ed : D.tup ds = D.tup ds2 := Rep.inj _ Any Any _ _ hb hb' (Rep.tup e rs) (Rep.tup e2 rs2)
          rw [← ed, eqD_refl _ hb]
          exact EqAt.same _
        · have q := RcAt.tuples (A := A) (s := s) p p2 hu' (elems (A := A) rs rs2 rv rv2 (fun d hd v v' u u' d' g1 g2 g3 g4 g5 g6 => ih d hd A.in1 v v' u u' d' (by
            have := deps_mem hd
            simp only [D.dep] at hu
            show A.units + 1 + d.dep < cLine
            omega) g1 g2 g3 g4 g5 g6) (by simpa only [D.eqb] using hb) (by simpa only [D.eqb] using hb'))
          have n1 : its1.toArray.size = ds.length := by rw [List.size_toArray, ← rv.length, rs.length]
          have n2 : its2.toArray.size = ds2.length := by rw [List.size_toArray, ← rv2.length, rs2.length]
          rw [n1, n2, ← eqDs_tup] at q
          simp only [eqD]
          exact EqAt.of_refs z q
  · intro ds ih A v v' u u' d' hu r ru r' ru' hb hb'
    have hu' : A.units < cLine := by simp only [D.dep] at hu; omega
    have c1 := cm_of I r ru hb
    have c2 := cm_of I r' ru' hb'
    cases c1 with
    | lst e p rv rs =>
      cases c2 with
      | non => simp only [eqD]; exact EqAt.list_none p hu'
      | bl b => simp only [eqD]; exact EqAt.list_bool _ p hu'
      | int i t => simp only [eqD]; exact EqAt.list_int _ _ p hu'
      | str x t => simp only [eqD]; exact EqAt.list_str _ _ p hu'
      | tup e2 p2 rv2 rs2 => simp only [eqD]; exact EqAt.list_tuple p p2 hu'
      | @lst a2 xs2 its2 ds2 e2 p2 rv2 rs2 =>
        rename_i a1 xs1 its1
        have n1 : its1.toArray.size = ds.length := by rw [List.size_toArray, ← rv.length, rs.length]
        have n2 : its2.toArray.size = ds2.length := by rw [List.size_toArray, ← rv2.length, rs2.length]
        by_cases z : a1 = a2
        · subst z
          have ed : D.lst ds = D.lst ds2 := by
            rw [e] at e2; cases e2
            rw [Reps.inj_of (fun d _ A A' v d' => Rep.inj d A A' v d') (by simpa only [D.eqb] using hb) (by simpa only [D.eqb] using hb') rs rs2]
          rw [← ed, eqD_refl _ hb]
          exact EqAt.same _
        · simp only [eqD]
          by_cases hl : ds.length = ds2.length
          · have q := RcAt.lists (A := A) (s := s) p p2 (by rw [n1, n2]; exact hl) hu' (elems (A := A) rs rs2 rv rv2 (fun d hd v v' u u' d' g1 g2 g3 g4 g5 g6 => ih d hd A.in1 v v' u u' d' (by
              have := deps_mem hd
              simp only [D.dep] at hu
              show A.units + 1 + d.dep < cLine
              omega) g1 g2 g3 g4 g5 g6) (by simpa only [D.eqb] using hb) (by simpa only [D.eqb] using hb'))
            rw [n1, ← eqDs_range ds ds2 hl] at q
            exact EqAt.of_refs z q
          · rw [eqDs_len ds ds2 hl]
            exact EqAt.of_refs z (RcAt.lists_lengths p p2 (by rw [n1, n2]; simp [hl]) hu')
  · intro ds ih A v v' u u' d' hu r ru r' ru' hb; simp [D.eqb] at hb
  · exact ⟨by intro ks ds ih A v v' u u' d' hu r ru r' ru' hb; simp [D.eqb] at hb, by intro ks ds ih A v v' u u' d' hu r ru r' ru' hb; simp [D.eqb] at hb⟩
/-- ==, != as operators -/
theorem rcAt_all (I : Inv X pins σ H s) {A : Around} {v v' : V} {u u' : Value} {d d' : D} (hu : A.units + d.dep < cLine) (r : Rep X.K Any H v d) (ru : RelV v u) (r' : Rep X.K Any H v' d') (ru' : RelV v' u') (hb : D.eqb d = true) (hb' : D.eqb d' = true) :
    RcAt A s u u' (eqD d d') ∧ RcNeAt A s u u' (!eqD d d') := by
  have hu' : A.units < cLine := by omega
  have c1 := cm_of I r ru hb
  have c2 := cm_of I r' ru' hb'
  cases c1 with
  | non =>
    cases c2 <;> simp only [eqD, Bool.not_true, Bool.not_false]
    · exact ⟨RcAt.none_none, RcNeAt.none_none⟩
    · exact ⟨RcAt.none_bool _, RcNeAt.none_bool _⟩
    · exact ⟨RcAt.none_int _ _, RcNeAt.none_int _ _⟩
    · exact ⟨RcAt.none_str _ _, RcNeAt.none_str _ _⟩
    · exact ⟨RcAt.none_tuple (by assumption) hu', RcNeAt.none_tuple (by assumption) hu'⟩
    · exact ⟨RcAt.none_list (by assumption) hu', RcNeAt.none_list (by assumption) hu'⟩
  | bl b =>
    cases c2 <;> simp only [eqD, Bool.not_true, Bool.not_false]
    · exact ⟨RcAt.bool_none _, RcNeAt.bool_none _⟩
    · exact ⟨RcAt.bool_bool _ _, RcNeAt.bool_bool _ _⟩
    · exact ⟨RcAt.bool_int _ _ _, RcNeAt.bool_int _ _ _⟩
    · exact ⟨RcAt.bool_str _ _ _, RcNeAt.bool_str _ _ _⟩
    · exact ⟨RcAt.bool_tuple _ (by assumption) hu', RcNeAt.bool_tuple _ (by assumption) hu'⟩
    · exact ⟨RcAt.bool_list _ (by assumption) hu', RcNeAt.bool_list _ (by assumption) hu'⟩
  | int i t =>
    cases c2 <;> simp only [eqD, Bool.not_true, Bool.not_false]
    · exact ⟨RcAt.int_none _ _, RcNeAt.int_none _ _⟩
    · exact ⟨RcAt.int_bool _ _ _, RcNeAt.int_bool _ _ _⟩
    · exact ⟨RcAt.int_int _ _ _ _, RcNeAt.int_int _ _ _ _⟩
    · exact ⟨RcAt.int_str _ _ _ _, RcNeAt.int_str _ _ _ _⟩
    · exact ⟨RcAt.int_tuple _ _ (by assumption) hu', RcNeAt.int_tuple _ _ (by assumption) hu'⟩
    · exact ⟨RcAt.int_list _ _ (by assumption) hu', RcNeAt.int_list _ _ (by assumption) hu'⟩
  | str x t =>
    cases c2 <;> simp only [eqD, Bool.not_true, Bool.not_false]
    · exact ⟨RcAt.str_none _ _, RcNeAt.str_none _ _⟩
    · exact ⟨RcAt.str_bool _ _ _, RcNeAt.str_bool _ _ _⟩
    · exact ⟨RcAt.str_int _ _ _ _, RcNeAt.str_int _ _ _ _⟩
    · exact ⟨RcAt.str_str _ _ _ _, RcNeAt.str_str _ _ _ _⟩
    · exact ⟨RcAt.str_tuple _ _ (by assumption) hu', RcNeAt.str_tuple _ _ (by assumption) hu'⟩
    · exact ⟨RcAt.str_list _ _ (by assumption) hu', RcNeAt.str_list _ _ (by assumption) hu'⟩
  | @tup a1 xs1 its1 ds e p rv rs =>
    cases c2 with
    | non => simp only [eqD, Bool.not_false]; exact ⟨RcAt.tuple_none p hu', RcNeAt.tuple_none p hu'⟩
    | bl b => simp only [eqD, Bool.not_false]; exact ⟨RcAt.tuple_bool _ p hu', RcNeAt.tuple_bool _ p hu'⟩
    | int i t => simp only [eqD, Bool.not_false]; exact ⟨RcAt.tuple_int _ _ p hu', RcNeAt.tuple_int _ _ p hu'⟩
    | str x t => simp only [eqD, Bool.not_false]; exact ⟨RcAt.tuple_str _ _ p hu', RcNeAt.tuple_str _ _ p hu'⟩
    | lst e2 p2 rv2 rs2 => simp only [eqD, Bool.not_false]; exact ⟨RcAt.tuple_list p p2 hu', RcNeAt.tuple_list p p2 hu'⟩
    | @tup a2 xs2 its2 ds2 e2 p2 rv2 rs2 =>
      have n1 : its1.toArray.size = ds.length := by rw [List.size_toArray, ← rv.length, rs.length]
      have n2 : its2.toArray.size = ds2.length := by rw [List.size_toArray, ← rv2.length, rs2.length]
      have el := elems (A := A) (s := s) rs rs2 rv rv2 (fun d hd v v' u u' d' g1 g2 g3 g4 g5 g6 => eqAt_all I d A.in1 v v' u u' d' (by
        have := deps_mem hd
        simp only [D.dep] at hu
        show A.units + 1 + d.dep < cLine
        omega) g1 g2 g3 g4 g5 g6) (by simpa only [D.eqb] using hb) (by simpa only [D.eqb] using hb')
      have q := RcAt.tuples p p2 hu' el
      have q2 := RcNeAt.tuples p p2 hu' el
      rw [n1, n2, ← eqDs_tup] at q q2
      simp only [eqD]
      exact ⟨q, q2⟩
  | @lst a1 xs1 its1 ds e p rv rs =>
    cases c2 with
    | non => simp only [eqD, Bool.not_false]; exact ⟨RcAt.list_none p hu', RcNeAt.list_none p hu'⟩
    | bl b => simp only [eqD, Bool.not_false]; exact ⟨RcAt.list_bool _ p hu', RcNeAt.list_bool _ p hu'⟩
    | int i t => simp only [eqD, Bool.not_false]; exact ⟨RcAt.list_int _ _ p hu', RcNeAt.list_int _ _ p hu'⟩
    | str x t => simp only [eqD, Bool.not_false]; exact ⟨RcAt.list_str _ _ p hu', RcNeAt.list_str _ _ p hu'⟩
    | tup e2 p2 rv2 rs2 => simp only [eqD, Bool.not_false]; exact ⟨RcAt.list_tuple p p2 hu', RcNeAt.list_tuple p p2 hu'⟩
    | @lst a2 xs2 its2 ds2 e2 p2 rv2 rs2 =>
      have n1 : its1.toArray.size = ds.length := by rw [List.size_toArray, ← rv.length, rs.length]
      have n2 : its2.toArray.size = ds2.length := by rw [List.size_toArray, ← rv2.length, rs2.length]
      simp only [eqD]
      by_cases hl : ds.length = ds2.length
      · have el := elems (A := A) (s := s) rs rs2 rv rv2 (fun d hd v v' u u' d' g1 g2 g3 g4 g5 g6 => eqAt_all I d A.in1 v v' u u' d' (by
          have := deps_mem hd
          simp only [D.dep] at hu
          show A.units + 1 + d.dep < cLine
          omega) g1 g2 g3 g4 g5 g6) (by simpa only [D.eqb] using hb) (by simpa only [D.eqb] using hb')
        have q := RcAt.lists p p2 (by rw [n1, n2]; exact hl) hu' el
        have q2 := RcNeAt.lists p p2 (by rw [n1, n2]; exact hl) hu' el
        rw [n1, ← eqDs_range ds ds2 hl] at q q2
        exact ⟨q, q2⟩
      · rw [eqDs_len ds ds2 hl]
        exact ⟨RcAt.lists_lengths p p2 (by rw [n1, n2]; simp [hl]) hu', RcNeAt.lists_lengths p p2 (by rw [n1, n2]; simp [hl]) hu'⟩
end

/-! ### the rules -/
section
variable {X : Cx}
/-- two lists of unlike lengths -/
def unlike : D → D → Bool
  | .lst a, .lst b => a.length != b.length
  | _, _ => false
theorem unlike_eq {a b : D} (h : unlike a b = true) : eqD a b = false := by
  unfold unlike at h
  split at h
  · simp only [eqD]; exact eqDs_len _ _ (by simpa using h)
  · cases h
def EqC (a b : D) : Prop := (D.eqb a = true ∧ D.eqb b = true ∧ a.dep ≤ 190) ∨ unlike a b = true
instance (a b : D) : Decidable (EqC a b) := inferInstanceAs (Decidable (_ ∨ _))
def rEqD (K : PySem.W.Frag) (neg : Bool) : R2 := fun x y H Q => ∃ a b, Rep K Any H x a ∧ Rep K Any H y b ∧ EqC a b ∧ Q (.bl (if neg then !eqD a b else eqD a b)) H
theorem unlike_at {pins : List (Addr × Obj)} {σ : L2.St} {H : Hp} {s : Shared} (I : Inv X pins σ H s) {A : Around} {v v' : V} {u u' : Value} {d d' : D} (hu : A.units < cLine) (r : Rep X.K Any H v d) (ru : RelV v u) (r' : Rep X.K Any H v' d') (ru' : RelV v' u') (h : unlike d d' = true) :
    RcAt A s u u' false ∧ RcNeAt A s u u' true := by
  unfold unlike at h
  split at h
  · obtain ⟨a, xs, rfl, ha, _, rs⟩ := r.lstE
    obtain ⟨a', xs', rfl, ha', _, rs'⟩ := r'.lstE
    cases ru
    cases ru'
    obtain ⟨its, rv, p, _⟩ := I.list (.of ha)
    obtain ⟨its', rv', p', _⟩ := I.list (.of ha')
    have e : (its.toArray.size != its'.toArray.size) = true := by
      rw [List.size_toArray, List.size_toArray, ← rv.length, ← rv'.length, rs.length, rs'.length]; exact h
    exact ⟨RcAt.lists_lengths p.isList p'.isList e hu, RcNeAt.lists_lengths p.isList p'.isList e hu⟩
  · cases h
theorem op_eqD (hu : X.A.units + 200 < cLine) : OpR X (compareOp .Eq) (rEqD X.K false) := by
  intro pins s σ H x y v u Q I rx ry ⟨a, b, ra, rb, hc, q⟩
  rcases hc with ⟨ha, hb, hd⟩ | hc
  · exact (rcAt_all I (A := X.A) (by omega) ra rx rb ry ha hb).1 X.prog X.w X.xe _ ⟨.bl _, H, I, rfl, q⟩
  · have q' : Q (.bl false) H := by have := unlike_eq hc; simpa [this] using q
    exact (unlike_at I (A := X.A) (by omega) ra rx rb ry hc).1 X.prog X.w X.xe _ ⟨.bl _, H, I, rfl, q'⟩
theorem op_neD (hu : X.A.units + 200 < cLine) : OpR X (compareOp .NotEq) (rEqD X.K true) := by
  intro pins s σ H x y v u Q I rx ry ⟨a, b, ra, rb, hc, q⟩
  rcases hc with ⟨ha, hb, hd⟩ | hc
  · exact (rcAt_all I (A := X.A) (by omega) ra rx rb ry ha hb).2 X.prog X.w X.xe _ ⟨.bl _, H, I, rfl, q⟩
  · have q' : Q (.bl true) H := by have := unlike_eq hc; simpa [this] using q
    exact (unlike_at I (A := X.A) (by omega) ra rx rb ry hc).2 X.prog X.w X.xe _ ⟨.bl _, H, I, rfl, q'⟩
def eqR (a b : D) : Res D := must (EqC a b) (.ok (.bl (eqD a b)))
def neR (a b : D) : Res D := must (EqC a b) (.ok (.bl (!eqD a b)))
theorem od_eq {K : PySem.W.Frag} : OpS K (rEqD K false) eqR := fun x y H a b d Q ra rb e q => by
  obtain ⟨h1, e2⟩ := must_inv e
  cases e2
  exact ⟨a, b, ra, rb, h1, q _ (sc_bl _)⟩
theorem od_ne {K : PySem.W.Frag} : OpS K (rEqD K true) neR := fun x y H a b d Q ra rb e q => by
  obtain ⟨h1, e2⟩ := must_inv e
  cases e2
  exact ⟨a, b, ra, rb, h1, q _ (sc_bl _)⟩
theorem Room.u200 {k : Nat} {A : Around} (r : Room k A) : A.units + 200 < cLine := by have := r.un; omega
end
end M

set_option Elab.async false
set_option linter.all false
set_option maxRecDepth 100000
set_option maxHeartbeats 4000000
namespace PySem
open Builtin
end PySem
namespace M
open PySem PySem.Spec L2
open PyProof.Rows hiding St

section
variable {X : Cx} {K : PySem.W.Frag}

/-! ### t[lo:hi], the whole of it: t itself -/
theorem getItem_whole {prog : Program} {w : World} {A : Around} {E : Value → Shared → Prop} {s : Shared} {t sl : Addr} {items : Array Value} {vl vu : Value} {lo hi : Option Int} {Q : Value → Shared → Prop} (ht : IsTup s.heap t items) (hs : s.heap.IsSliceOf sl vl vu .none) (pl : IsPart vl lo) (pu : IsPart vu hi)
    (hw : HT.sIx items.size 0 lo = 0 ∧ HT.sIx items.size items.size hi = items.size) (h : Q (.ref t) s) : wpAny (model prog w) A (getItem (.ref t) (.ref sl)) Q E s := by
  obtain ⟨os, hos, hcs, hds⟩ := id hs
  have hTs : s.TypeIs (.ref sl) "slice" := ⟨os, hos, hcs⟩
  unfold getItem
  try with_reducible refine wpAny_holding ?_
  first | refine wpAny_bind (wpAny_pure ?_) | skip
  refine wpAny_bind (wpAny_sequenceKey ht.typeIs (by decide) ?_)
  refine wpAny_bind (wpAny_callSpecial?_slot (name := Str.ofString "__getitem__") ht.typeIs PyProof.Rows.slot_tuple_getitem
    (wpAny_call_entry PyProof.Rows.slot_tuple_getitem ht.typeIs entry_tuple_getitem ?_ (args_tuple_getitem _ _)))
  show wpAny _ _ (Builtin.Tuple.tupleItemsOf (.ref t) >>= _) _ _ s
  refine wpAny_bind (tupleItemsOf_ ht ?_)
  refine wpAny_bind (wpAny_typeOf hTs ?_)
  rw [if_pos (by decide)]
  refine wpAny_bind (HT.sliceApplied_gen hs pl pu ?_)
  have hyes : (((HT.sIx items.size 0 lo : Nat) : Int) == 0 && (1 : Int) == 1 && (HT.sIx items.size items.size hi - HT.sIx items.size 0 lo) == items.size) = true := by
    rw [hw.1, hw.2]; simp
  show wpAny _ _ (if (((HT.sIx items.size 0 lo : Nat) : Int) == 0 && (1 : Int) == 1 && (HT.sIx items.size items.size hi - HT.sIx items.size 0 lo) == items.size) = true then _ else _) _ _ s
  rw [if_pos hyes]
  show wpAny _ _ (Builtin.Tuple.tupleIsExact (.ref t) >>= _) _ _ s
  unfold Builtin.Tuple.tupleIsExact
  refine wpAny_bind (wpAny_bind (wpAny_typeOf ht.typeIs (wpAny_pure ?_)))
  show wpAny _ _ (if (Value.type "tuple" == Value.type "tuple") = true then _ else _) _ _ s
  rw [if_pos (by decide)]
  first
    | exact wpAny_bind (wpAny_rule (wpAny_bind (wpAny_pure (wpAny_pure ⟨_, rfl, wpAny_pure h⟩))))
    | exact wpAny_bind (wpAny_rule (wpAny_pure ⟨_, rfl, wpAny_pure h⟩))
    | exact wpAny_bind (wpAny_rule (wpAny_bind (wpAny_pure ⟨_, rfl, wpAny_pure h⟩)))
def rSlW (K : PySem.W.Frag) : V → Option Int → Option Int → Hp → VK → Prop := fun x lo hi H Q => ∃ a xs, x = .ref a ∧ SqT K H a xs ∧ (HT.sIx xs.length 0 lo = 0 ∧ HT.sIx xs.length xs.length hi = xs.length) ∧ Q (.ref a) H
theorem sl_whole : SlR X (rSlW X.K) := by
  intro pins s σ H x v vl vu lo hi sl Q I rx hs pl pu ⟨a, xs, ex, hx, hw, q⟩
  subst ex
  cases rx
  obtain ⟨its, r, ht, hz⟩ := I.tuple hx
  have hlen : its.toArray.size = xs.length := by rw [List.size_toArray]; exact r.length.symm
  exact ⟨"tuple", _, PyProof.Rows.slot_tuple_getitem.lookup, ht.typeIs, getItem_whole ht hs pl pu (by rw [hlen]; exact hw) ⟨.ref a, H, I, rfl, q⟩⟩
/-! ### slices of texts -/
def cutS (z : Str) (lo hi : Option Int) : Str :=
  if ((Builtin.Str.strSliceIndices lo hi 1 z.length).length == z.length) = true then z else ⟨((Builtin.Str.strSliceIndices lo hi 1 z.length).filterMap (z.cps[·]?)).toArray⟩
theorem cutS_len (z : Str) (lo hi : Option Int) : (cutS z lo hi).length ≤ z.length := by
  unfold cutS
  split
  · exact Nat.le_refl _
  · show ((Builtin.Str.strSliceIndices lo hi 1 z.length).filterMap (z.cps[·]?)).toArray.size ≤ z.length
    rw [List.size_toArray]
    exact Nat.le_trans (List.length_filterMap_le _ _) (PyProof.Rows.indices_len_le lo hi z.length)
def rSlS : V → Option Int → Option Int → Hp → VK → Prop := fun x lo hi H Q => ∃ z, x = .str z ∧ z.length ≤ sizeLine ∧ Q (.str (cutS z lo hi)) H
theorem part_of {v : Value} {o : Option Int} (h : IsPart v o) : ∃ p : Option (Int × Tok), v = partValue p ∧ p.map (·.1) = o := by
  cases h with
  | none => exact ⟨none, rfl, rfl⟩
  | int i t => exact ⟨some (i, t), rfl, rfl⟩
theorem sl_str : SlR X rSlS := by
  intro pins s σ H x v vl vu lo hi sl Q I rx hs pl pu ⟨z, ex, hz, q⟩
  subst ex
  obtain ⟨t, rfl⟩ := rx
  obtain ⟨l, rfl, el⟩ := part_of pl
  obtain ⟨u, rfl, eu⟩ := part_of pu
  refine ⟨"str", _, F.slot_str_getitem.lookup, typeIs_str s z t, wpAny_getItem_str_slice (l := l) (u := u) (st := none) hs rfl ?_⟩
  have hp : slicePicked z l u none = Builtin.Str.strSliceIndices lo hi 1 z.length := by unfold slicePicked; rw [el, eu]; rfl
  unfold sliceMade
  rw [hp]
  by_cases hc : ((Builtin.Str.strSliceIndices lo hi 1 z.length).length == z.length) = true
  · have e : cutS z lo hi = z := by unfold cutS; rw [if_pos hc]
    rw [e] at q
    rw [if_pos (by simpa using hc)]
    exact ⟨.str z, H, I, ⟨t, rfl⟩, q⟩
  · have e : cutS z lo hi = ⟨((Builtin.Str.strSliceIndices lo hi 1 z.length).filterMap (z.cps[·]?)).toArray⟩ := by unfold cutS; rw [if_neg hc]
    have hl := cutS_len z lo hi
    rw [e] at q hl
    rw [if_neg (by simpa using hc)]
    exact ⟨Nat.le_trans hl hz, .str _, H, I.tok _, ⟨_, rfl⟩, q⟩
def slD : D → Option Int → Option Int → Res D
  | .tup ds, lo, hi => (.ok (.tup (cutD ds lo hi)))
  | .lst ds, lo, hi => (.ok (.lst (cutD ds lo hi)))
  | .str z, lo, hi => .ok (.str (cutS z lo hi))
  | _, _, _ => .stuck
theorem cut_whole {ds : List D} {lo hi : Option Int} (h1 : HT.sIx ds.length 0 lo = 0) (h2 : HT.sIx ds.length ds.length hi = ds.length) : cutD ds lo hi = ds := by
  unfold cutD; rw [h1, h2]; simp
theorem slice_V {A : Addr → Prop} {x : V} {H : Hp} {a d : D} {lo hi : Option Int} {Q : VK} (r3 : Rep X.K A H x a) (e4 : slD a lo hi = .ok d) (q : ∀ v H', Same H H' → Rep X.K (fun c => H c = none ∨ A c) H' v d → NewTop H v → Q v H') :
    rSlT X.K x lo hi H Q ∨ rSlW X.K x lo hi H Q ∨ rSlL X.K x lo hi H Q ∨ rSlS x lo hi H Q := by
  cases a with
  | tup ds =>
    cases e4
    obtain ⟨b, xs, rfl, hb, rs⟩ := r3.tupE
    have hl := rs.length
    by_cases hw : HT.sIx xs.length 0 lo = 0 ∧ HT.sIx xs.length xs.length hi = xs.length
    · refine .inr (.inl ⟨b, xs, rfl, .of hb, hw, ?_⟩)
      rw [hl] at hw
      rw [cut_whole hw.1 hw.2] at q
      exact q _ H (Same.refl H) (.tup hb (rs.weak orA)) (tup_top hb)
    · exact .inl ⟨b, xs, rfl, .of hb, hw, fun p hp => q _ _ (Same.upd hp) (.tup upd_same (((cut_rep rs).weak orA).grow (Same.upd hp))) (new_top (Same.refl H) hp)⟩
  | lst ds =>
    cases e4
    obtain ⟨b, xs, rfl, hb, _, rs⟩ := r3.lstE
    exact .inr (.inr (.inl ⟨b, xs, rfl, .of hb, fun p hp => q _ _ (Same.upd hp) (.lst upd_same (.inl hp) (((cut_rep rs.low).laid hp).weak fun c z => ⟨.inr z.1, z.2⟩)) (new_top (Same.refl H) hp)⟩))
  | str z =>
    cases e4
    obtain ⟨rfl, hz⟩ := r3.strE
    have hl := Nat.le_trans (cutS_len z lo hi) hz
    exact .inr (.inr (.inr ⟨z, rfl, hz, q _ H (Same.refl H) (.str _ hl) (sc_top (sc_str (K := X.K) _ hl))⟩))
  | _ => cases e4
theorem de_slice {e : Expr} {lo hi : Option Expr} {p2 pos : Pos} {f : Sl → Res D} {fl fh : Sl → Res (Option Int)} (he : DE X .s e f) (hl : DO X lo fl) (hh : DO X hi fh) :
    DE X .t (.Subscript e (.Slice lo hi none p2) pos) (slice3 f fl fh slD) := by
 with_unfolding_all exact (
  PE.imp (pe_slice (sl_tup.or (sl_whole.or (sl_list.or sl_str))) he hl hh) fun σ H Q ⟨G, H0, env, d, k, ef, q⟩ => by
    obtain ⟨a, e1, ef⟩ := bind_inv ef
    obtain ⟨lo', e2, ef⟩ := bind_inv ef
    obtain ⟨hi', e3, e4⟩ := bind_inv ef
    refine ⟨G, H0, env, a, k, e1, fun x H1 s1 r1 _ => ⟨G, H0, env, lo', k.grow s1, e2, fun H2 s2 => ⟨G, H0, env, hi', (k.grow s1).grow s2, e3, fun H3 s3 => ?_⟩⟩⟩
    have sm := s1.trans (s2.trans s3)
    exact slice_V ((r1.grow s2).grow s3) e4 fun v H4 s4 r4 nt => q v H4 (sm.trans s4) (r4.weak fun c z => z.elim (fun z => k.new c (Same.free sm z)) fun z => z) (nt.grow sm))
/-! ### methods of texts -/
def MtD (K : PySem.W.Frag) (r : V → List V → Hp → VK → Prop) (g : D → List D → Res D) : Prop := ∀ (x : V) (xs : List V) (H : Hp) (a : D) (ds : List D) (d : D) (Q : VK), Rep K Any H x a → Reps K Any H xs ds → g a ds = .ok d → (∀ v, Sc K v d → Q v H) → r x xs H Q
/-- a text's method with arguments -/
def smF (f : Sl → Res D) (fa : Sl → Res (List D)) (g : Str → List D → Res D) : Sl → Res D := fun env => f env >>= fun a => match a with
  | .str z => fa env >>= fun ds => g z ds
  | _ => .stuck
def findD (z : Str) : List D → Res D
  | [.str y] => .ok (.int (Txt.find z y))
  | _ => .stuck
def upperD (z : Str) : List D → Res D
  | [] => must (z.length ≤ 1000) (.ok (.str (Txt.upper z)))
  | _ => .stuck
/-! ### {} -/
def cD : Sl → Res D := fun _ => .ok (.dic [] [])
/-! ### -i -/
def negD : D → Res D
  | .int i => .ok (.int (-i))
  | _ => .stuck
def negF (f : Sl → Res D) : Sl → Res D := fun env => f env >>= negD
end
end M
namespace PySem.AutoSeq1
open PySem Builtin
end PySem.AutoSeq1
namespace M
open PySem PySem.Spec L2
open PyProof.Rows hiding St
section
variable {X : Cx}
def rRepT (K : PySem.W.Frag) : R2 := fun x y H Q => ∃ l k xs, x = .ref l ∧ y = .int k ∧ H l = some (.tup xs) ∧ 2 ≤ k ∧ k < 1000000 ∧ xs.isEmpty = false ∧ xs.length * k.toNat ≤ sizeLine ∧
  ∀ p, H p = none → Q (.ref p) (upd H p (.tup (List.replicate k.toNat xs).flatten))
def repT : D → D → Res D
  | .tup ds, .int k => must (2 ≤ k ∧ k < 1000000 ∧ ds.isEmpty = false ∧ ds.length * k.toNat ≤ sizeLine) (.ok (.tup (List.replicate k.toNat ds).flatten))
  | _, _ => .stuck
end
end M

set_option Elab.async false
set_option linter.all false
set_option maxRecDepth 100000
set_option maxHeartbeats 4000000
namespace M
open PySem PySem.Spec L2
open PyProof.Rows hiding St

/-! ### short names of the data's operations -/
abbrev subI : D → D → Res D := iOp TrueC fun i j => .int (i - j)
abbrev mulI : D → D → Res D := iOp MulC fun i j => .int (i * j)
abbrev divI : D → D → Res D := iOp DivC fun i j => .int (i / j)
abbrev modI : D → D → Res D := iOp PosC fun i j => .int (i % j)
abbrev powI : D → D → Res D := iOp PowC fun i j => .int (i ^ j.toNat)
abbrev ltI : D → D → Res D := iOp TrueC fun i j => .bl (decide (i < j))
abbrev leI : D → D → Res D := iOp TrueC fun i j => .bl (decide (i ≤ j))
abbrev gtI : D → D → Res D := iOp TrueC fun i j => .bl (decide (j < i))
abbrev geI : D → D → Res D := iOp TrueC fun i j => .bl (decide (j ≤ i))
/-! ### a def that stands in the program -/
structure Av (P : Program) (w : World) (K : PySem.W.Frag) (mg : Str → Option Value) (base : Heap) (k : Nat) (x : Str) (ps : List Str) (fr : Bool) (F : List D → Res D) : Prop where
  ex : ∃ f fd, FnOk P w K mg base CX0 k f fd ps (spF K fr ps.length F) ∧ mg x = some (.ref f) ∧ PySem.W.keepIn K (.ref f) = true ∧ Binds K fd ps []
theorem Av.mono {P : Program} {w : World} {K : PySem.W.Frag} {mg : Str → Option Value} {base : Heap} {j k : Nat} {x : Str} {ps : List Str} {fr : Bool} {F : List D → Res D} (h : Av P w K mg base j x ps fr F) (hj : j ≤ k) : Av P w K mg base k x ps fr F :=
  let ⟨f, fd, a, b⟩ := h.ex
  ⟨f, fd, a.mono hj, b⟩
section
variable {X : Cx} {k : Nat} {x : Str} {ps : List Str} {fr : Bool} {F : List D → Res D} {e : Expr} {es : List Expr} {p pos : Pos} {g : Sl → Res (List D)}
theorem Av.call {n : Nat} (A : Av X.prog X.w X.K X.mg X.base k x ps fr F) (hr : Room k X.A) (ha : DA X .s (e :: es) g) (hn : ps.length = n := by rfl) (hg : Gl X x := by rfl) (hdb : (x == ("__debug__" : Str)) = false := by decide)
    (he : starEach (e :: es) X.env = (false, eval e X.env) :: starEach es X.env := by exact star_plain rfl) (hpl : (backTo pos (starEach es X.env)).any (·.1) = false := by exact any_plain rfl) : DE X .s (.Call (.Name x p) (e :: es) [] pos) (callF n F g) := by
  subst hn
  obtain ⟨f, fd, h1, h2, h3, h4⟩ := A.ex
  exact de_call h1 hr hg h2 h3 h4 pass0 ha hdb he hpl
theorem Av.callT {n : Nat} (A : Av X.prog X.w X.K X.mg X.base k x ps true F) (hr : Room k X.A) (ha : DA X .s (e :: es) g) (hn : ps.length = n := by rfl) (hg : Gl X x := by rfl) (hdb : (x == ("__debug__" : Str)) = false := by decide)
    (he : starEach (e :: es) X.env = (false, eval e X.env) :: starEach es X.env := by exact star_plain rfl) (hpl : (backTo pos (starEach es X.env)).any (·.1) = false := by exact any_plain rfl) : DE X .t (.Call (.Name x p) (e :: es) [] pos) (callF n F g) := by
  subst hn
  obtain ⟨f, fd, h1, h2, h3, h4⟩ := A.ex
  exact de_callT h1 hr hg h2 h3 h4 pass0 ha hdb he hpl
end
/-- what a body tells of arguments -/
def runF (fr : Bool) (n : Nat) (g : Sl → Res Out) (ds : List D) : Res D := match g (startE n ds) with
  | .ok (.rt fr' d) => if fr = true ∧ fr' = false then .stuck else .ok d
  | .ok (.nx _) => .ok .non
  | _ => .stuck
theorem runF_meets {fr : Bool} {n : Nat} {g : Sl → Res Out} {ds : List D} {d : D} (h : runF fr n g ds = .ok d) : Meets fr n g ds d := by
  unfold runF at h
  split at h
  · rename_i fr' d' e
    split at h
    · cases h
    · rename_i hn
      cases h
      refine .inl ⟨fr', e, fun hf => ?_⟩
      cases fr' with
      | true => rfl
      | false => exact absurd ⟨hf, rfl⟩ hn
  · rename_i env' e
    cases h
    exact .inr ⟨rfl, env', e⟩
  · cases h
section
variable {P : Program} {w : World} {K : PySem.W.Frag} {mg : Str → Option Value} {base : Heap}
/-- a def of the program by its body -/
theorem av_ok {x : Str} {st : Stmt} {f : Addr} {fd : FuncData} {N ps : List Str} {k : Nat} (fr : Bool) {g : Sl → Res Out} (Fu : Fun K x x st f fd) (hmg : mg x = some (.ref f)) (S : FnScope N ps (defScope st)) (hbi : Binds K fd ps [])
    (hb : ∀ (cdv : Value) (A : Around) (outer : List Env) (s : Shared) (H : Hp) (E : XK), Room k (A.deeper (envOfC x (defScope st) s.heap.objs.size f cdv)) → DSs (cxOf CX0 P w K mg base N x (defScope st) f cdv A outer s H E).nox (defBody st) g) :
    Av P w K mg base (k + 1) x ps fr (runF fr N.length g) :=
  ⟨f, fd, fn_ok Fu S hb fun ds d _ h => runF_meets h, hmg, Fu.kp, hbi⟩
/-- no calls left -/
theorem av_zero {x : Str} {st : Stmt} {f : Addr} {fd : FuncData} {ps : List Str} {k : Nat} (fr : Bool) (Fu : Fun K x x st f fd) (hmg : mg x = some (.ref f)) (hbi : Binds K fd ps []) : Av P w K mg base k x ps fr (fun _ => .stuck) :=
  ⟨f, fd, ⟨fun vs H Q E ⟨B, ds, d, hl, _⟩ => hl, fun A outer s H args us vs Q E _ _ _ _ ⟨B, ds, d, _, _, e, _⟩ => by cases e⟩, hmg, Fu.kp, hbi⟩
end

/-- the def's own promise -/
theorem fn_of_body {P : Program} {w : World} {K : PySem.W.Frag} {mg : Str → Option Value} {base : Heap} {x : Str} {st : Stmt} {f : Addr} {fd : FuncData} {N ps : List Str} {k : Nat} (fr : Bool) {g : Sl → Res Out} (Fu : Fun K x x st f fd) (S : FnScope N ps (defScope st))
    (hb : ∀ (cdv : Value) (A : Around) (outer : List Env) (s : Shared) (H : Hp) (E : XK), Room k (A.deeper (envOfC x (defScope st) s.heap.objs.size f cdv)) → DSs (cxOf CX0 P w K mg base N x (defScope st) f cdv A outer s H E).nox (defBody st) g) :
    FnOk P w K mg base CX0 (k + 1) f fd ps (spF K fr ps.length (runF fr N.length g)) := fn_ok Fu S hb fun ds d _ h => runF_meets h

theorem boot_minG : bootBuiltins "min" = some (.builtin "min") := by decide +kernel
theorem boot_maxG : bootBuiltins "max" = some (.builtin "max") := by decide +kernel
/-! ### a comprehension's scope, looked at by program -/
def capOk (N0 : List Str) (sc0 scope : Scope) (N : List Str) (m : Nat) (js : List Nat) : Bool := (List.range js.length).all fun k => match N[m + k]?, (js[k]?).bind (N0[·]?) with
  | some y, some y' => y == y' && (sc0.names.lookup y == some .cell || sc0.names.lookup y == some .free) && scope.names.lookup y == some .free
  | _, _ => false
def scOk (N0 : List Str) (sc0 scope : Scope) (cl : List (Str × Addr)) (N : List Str) (m : Nat) (js : List Nat) : Bool :=
  (scope.names.all fun x => x.2 != .local || scope.names.lookup x.1 == some .local) && (scope.names.all fun x => x.2 != .cell) && (scope.names.all fun y => y.2 != .free || cl.any fun p => p.1 == y.1) &&
    capOk N0 sc0 scope N m js && (match N[m + js.length]? with
      | some y => scope.names.all fun p => p.1 != y
      | none => true) && N.length == m + js.length + 1
theorem any_lookup {cl : List (Str × Addr)} {y : Str} (h : (cl.any fun p => p.1 == y) = true) : ∃ c, cl.lookup y = some c := by
  induction cl with
  | nil => cases h
  | cons p r ih =>
    obtain ⟨n, c⟩ := p
    rw [List.any_cons, Bool.or_eq_true] at h
    simp only [List.lookup_cons]
    cases e : y == n with
    | true => exact ⟨c, rfl⟩
    | false =>
      rcases h with h | h
      · have : n = y := by simpa using h
        subst this
        simp at e
      · exact ih h
theorem comp_sc {X : Cx} {scope : Scope} {cl : List (Str × Addr)} {N : List Str} {m : Nat} {js : List Nat} (clos : closureFor scope X.env = pure cl) (kind : scope.kind = .function) (nd : N.Nodup) (cl2 : ∀ p ∈ cl, X.env.cells.lookup p.1 = some p.2)
    (h : scOk X.N X.env.scope scope cl N m js = true) : CompSc X scope cl N m js := by
  simp only [scOk, Bool.and_eq_true, List.all_eq_true, beq_iff_eq] at h
  obtain ⟨⟨⟨⟨⟨h1, h2⟩, h3⟩, h4⟩, h5⟩, h6⟩ := h
  refine ⟨clos, kind, fun x hx e => ?_, fun y hy e => ?_, fun x c e => cl2 (x, c) (PySem.mem_of_lookup e), fun y hy e => ?_, nd, h6, fun k j e => ?_, fun y e p hp => ?_⟩
  · have := h1 x hx
    rw [e] at this
    simpa using this
  · have := h2 y hy
    rw [e] at this
    simp at this
  · have := h3 y hy
    rw [e] at this
    exact any_lookup (by simpa using this)
  · have hk : k < js.length := (List.getElem?_eq_some_iff.mp e).1
    have := List.all_eq_true.mp h4 k (List.mem_range.mpr hk)
    rw [e] at this
    simp only [Option.bind_some] at this
    cases e1 : N[m + k]? with
    | none => rw [e1] at this; cases this
    | some y =>
      cases e2 : X.N[j]? with
      | none => rw [e1, e2] at this; cases this
      | some y' =>
        rw [e1, e2] at this
        simp only [Bool.and_eq_true, Bool.or_eq_true, beq_iff_eq] at this
        obtain ⟨⟨g1, g2⟩, g3⟩ := this
        subst g1
        exact ⟨y, rfl, rfl, g2, g3⟩
  · rw [e] at h5
    have := List.all_eq_true.mp h5 p hp
    simpa using this
end M

set_option Elab.async false
set_option linter.all false
namespace M
open PySem PySem.Spec L2
/-! ### loops of data, by a step on what they carry -/
theorem forD_go {body : D → Sl → Res Out} {d : D} {ds : List D} {env env' : Sl} (h : body d env = .ok (.nx env')) : forD body (d :: ds) env = forD body ds env' := by
  show (body d env >>= _) = _
  rw [h]; rfl
/-- a comprehension without a test, one name -/
theorem compD_map {n : Nat} {t : D → Sl → Res Sl} {fe : Sl → Res D} {E : D → List D → Sl} (h : D → D) (P : D → Prop)
    (hn : ∀ x acc, ownL n (E x acc) = .ok acc) (hs : ∀ x acc acc', (E x acc).set n (.own (.lst acc')) = E x acc')
    (ht : ∀ x d acc, t d (E x acc) = .ok (E d acc)) (hf : ∀ d acc, P d → fe (E d acc) = .ok (h d)) :
    ∀ (ds : List D) (x : D) (acc : List D), (∀ d ∈ ds, P d) → acc.length + ds.length ≤ sizeLine → ∃ y, compD n t trueB fe ds (E x acc) = .ok (E y (acc ++ ds.map h))
  | [], x, acc, _, _ => ⟨x, by simp [compD]⟩
  | d :: ds, x, acc, hP, hl => by
    simp only [List.length_cons] at hl
    obtain ⟨y, hy⟩ := compD_map h P hn hs ht hf ds d (acc ++ [h d]) (fun e he => hP e (by simp [he])) (by simp only [List.length_append, List.length_cons, List.length_nil]; omega)
    refine ⟨y, ?_⟩
    have h1 : compD n t trueB fe (d :: ds) (E x acc) = compD n t trueB fe ds (E d (acc ++ [h d])) := by
      show (t d (E x acc) >>= _) = _
      rw [ht]
      show (fe (E d acc) >>= _) = _
      rw [hf d acc (hP d (by simp))]
      show (ownL n (E d acc) >>= _) = _
      rw [hn]
      show must _ _ = _
      rw [must_pos (by omega), hs]
    rw [h1, hy]; simp
/-- [f(x) for x in ds] with no name from without -/
theorem comp0 {fi : Sl → Res (List D)} {fe : Sl → Res D} {env : Sl} {ds : List D} (h : D → D) (P : D → Prop) (hi : fi env = .ok ds) (hP : ∀ d ∈ ds, P d) (hl : ds.length ≤ sizeLine)
    (hf : ∀ d acc, P d → fe [.shr d, .own (.lst acc)] = .ok (h d)) : compO false 1 [] fi (gN 0) trueB fe env = .ok (.lst (ds.map h)) := by
  show (fi env >>= _) = _
  rw [hi]
  show (compD 1 (gN 0) trueB fe ds [.un, .own (.lst [])] >>= _) = _
  cases ds with
  | nil => rfl
  | cons d ds =>
    simp only [List.length_cons] at hl
    obtain ⟨y, hy⟩ := compD_map (n := 1) (t := gN 0) (fe := fe) (E := fun x acc => [.shr x, .own (.lst acc)]) h P (fun _ _ => rfl) (fun _ _ _ => rfl) (fun _ _ _ => rfl) hf ds d [h d] (fun e he => hP e (by simp [he])) (by simp only [List.length_cons, List.length_nil]; omega)
    have h1 : compD 1 (gN 0) trueB fe (d :: ds) [.un, .own (.lst [])] = compD 1 (gN 0) trueB fe ds [.shr d, .own (.lst [h d])] := by
      show (fe [.shr d, .own (.lst [])] >>= _) = _
      rw [hf d [] (hP d (by simp))]
      exact must_pos (c := ([] : List D).length < sizeLine) (by simp only [List.length_nil]; omega)
    rw [h1, hy]; rfl
end M
namespace M
open PySem PySem.Spec L2
/-! ### evaluating -/
variable {env env' : Sl} {f f1 f2 f3 : Sl → Res D} {g g1 g2 : Sl → Res Out} {t t1 t2 : Sl → Res Bool} {fa : Sl → Res (List D)} {i : Nat} {d : D} {b : Bool}
@[simp] theorem ev_ok {α β : Type} {a : α} {f : α → Res β} : (Res.ok a >>= f) = f a := rfl
@[simp] theorem ev_stuck {α β : Type} {f : α → Res β} : ((Res.stuck : Res α) >>= f) = .stuck := rfl
@[simp] theorem ev_ite {α β : Type} {c : Prop} [Decidable c] {a b : Res α} {f : α → Res β} : ((if c then a else b) >>= f) = if c then a >>= f else b >>= f := by split <;> rfl
def outK (g : Sl → Res Out) : Out → Res Out
  | .nx e => g e
  | o => .ok o
@[simp] theorem outK_nx : outK g (.nx env) = g env := rfl
@[simp] theorem outK_rt {fr : Bool} : outK g (.rt fr d) = .ok (.rt fr d) := rfl
@[simp] theorem ev_seq : seqO g1 g2 env = (g1 env >>= outK g2) := by
  show (g1 env >>= _) = _
  congr 1; funext o; cases o <;> rfl
@[simp] theorem ev_setO : setO i f env = (f env >>= fun d => .ok (.nx (env.set i (slotN d)))) := rfl
@[simp] theorem ev_setOs : setOs i f env = (f env >>= fun d => .ok (.nx (env.set i (.shr d)))) := rfl
@[simp] theorem ev_retO : retO f env = (f env >>= fun d => .ok (.rt true d)) := rfl
@[simp] theorem ev_retS : retS f env = (f env >>= fun d => .ok (.rt false d)) := rfl
@[simp] theorem ev_nxO : nxO env = .ok (.nx env) := rfl
@[simp] theorem ev_ifO : ifO t g1 g2 env = (t env >>= fun b => if b = true then g1 env else g2 env) := rfl
@[simp] theorem ev_andB : andB t1 t2 env = (t1 env >>= fun b => if b = true then t2 env else .ok false) := rfl
@[simp] theorem ev_orB : orB t1 t2 env = (t1 env >>= fun b => if b = true then .ok true else t2 env) := rfl
@[simp] theorem ev_notB : notB t env = (t env >>= fun b => .ok (!b)) := rfl
def asBD : D → Res Bool
  | .bl b => .ok b
  | _ => .stuck
@[simp] theorem asBD_bl : asBD (.bl b) = .ok b := rfl
@[simp] theorem ev_asB : asB f env = (f env >>= asBD) := rfl
@[simp] theorem ev_two {h : D → D → Res D} : two f1 f2 h env = (f1 env >>= fun x => f2 env >>= fun y => h x y) := rfl
@[simp] theorem ev_cI {j : Int} : cI j env = .ok (.int j) := rfl
@[simp] theorem ev_cB : cB b env = .ok (.bl b) := rfl
@[simp] theorem ev_cN : cN env = .ok .non := rfl
@[simp] theorem ev_cS {x : Str} : cS x env = .ok (.str x) := rfl
@[simp] theorem ev_cons1 : cons1 f fa env = (f env >>= fun d => fa env >>= fun ds => .ok (d :: ds)) := rfl
@[simp] theorem ev_nil1 : nil1 env = .ok [] := rfl
@[simp] theorem ev_app {h : List D → Res D} : app fa h env = (fa env >>= h) := rfl
@[simp] theorem ev_callF {n : Nat} {F : List D → Res D} : callF n F fa env = (fa env >>= fun ds => must (ds.length = n) (F ds)) := rfl
@[simp] theorem ev_tupF : tupF fa env = (fa env >>= fun ds => must (ds.length ≤ sizeLine) (.ok (.tup ds))) := rfl
@[simp] theorem ev_lstF : lstF fa env = (fa env >>= fun ds => must (ds.length ≤ sizeLine) (.ok (.lst ds))) := rfl
@[simp] theorem ev_isiF {T : String} : isiF T f env = (f env >>= isiD T) := rfl
@[simp] theorem ev_notF : notF f env = (f env >>= notD) := rfl
@[simp] theorem ev_notD : notD (.bl b) = .ok (.bl !b) := rfl
@[simp] theorem ev_ifD : ifD t f1 f2 env = (t env >>= fun b => if b = true then f1 env else f2 env) := rfl
@[simp] theorem ev_itF : itF f env = (f env >>= iterD) := rfl
@[simp] theorem ev_forO {tt : D → Sl → Res Sl} {fi : Sl → Res (List D)} : forO fi tt g env = (fi env >>= fun ds => forD (turnD tt g) ds env) := rfl
@[simp] theorem ev_slice {fl fh : Sl → Res (Option Int)} {h : D → Option Int → Option Int → Res D} : slice3 f fl fh h env = (f env >>= fun a => fl env >>= fun lo => fh env >>= fun hi => h a lo hi) := rfl
@[simp] theorem ev_noneI : noneI env = .ok none := rfl
@[simp] theorem ev_someI : someI f env = (f env >>= asI) := rfl
@[simp] theorem ev_asI {j : Int} : asI (.int j) = .ok (some j) := rfl
@[simp] theorem ev_rdS : rdS i env = match env[i]? with | some (.shr d) => .ok d | _ => .stuck := rfl
@[simp] theorem ev_rdB : rdB i env = match env[i]? with | some (.shr d) => .ok d | some (.own d) => .ok d | _ => .stuck := rfl
def toK (g : Res D) (w : Bool) : D → Res D
  | .bl b => if b = w then g else .ok (.bl b)
  | _ => .stuck
@[simp] theorem toK_bl {r : Res D} {w : Bool} : toK r w (.bl b) = if b = w then r else .ok (.bl b) := rfl
@[simp] theorem ev_toB {w : Bool} : toB f1 f2 w env = (f1 env >>= toK (f2 env) w) := by
  show (f1 env >>= _) = _
  congr 1
def chK (f : Res D) (g' : D → D → Res D) (y : D) : D → Res D
  | .bl true => f >>= fun w => g' y w
  | .bl false => .ok (.bl false)
  | _ => .stuck
@[simp] theorem chK_bl {r : Res D} {h : D → D → Res D} {y : D} : chK r h y (.bl b) = if b = true then r >>= fun w => h y w else .ok (.bl false) := by cases b <;> rfl
@[simp] theorem ev_chain {h h' : D → D → Res D} : chain f1 f2 f3 h h' env = (f1 env >>= fun x => f2 env >>= fun y => h x y >>= chK (f3 env) h' y) := by
  show (f1 env >>= _) = _
  congr 1
@[simp] theorem ev_must {α : Type} {c : Prop} [Decidable c] {r : Res α} : must c r = if c then r else .stuck := rfl
@[simp] theorem ev_iOp {C : Int → Int → Prop} [∀ i j, Decidable (C i j)] {h : Int → Int → D} {m n : Int} : iOp C h (.int m) (.int n) = if C m n then .ok (h m n) else .stuck := rfl
def runK (fr : Bool) : Out → Res D
  | .rt fr' d => if fr = true ∧ fr' = false then .stuck else .ok d
  | .nx _ => .ok .non
  | _ => .stuck
theorem ev_run {fr : Bool} {n : Nat} {ds : List D} {o : Out} (h : g (startE n ds) = .ok o) : runF fr n g ds = runK fr o := by
  unfold runF; rw [h]; cases o <;> rfl
end M
namespace M
end M

set_option Elab.async false
set_option linter.all false
namespace M
open PySem PySem.Spec L2
/-! ### a thing as a tree: its places, how many parts and levels, its parts -/
def kids : D → List D
  | .tup (_ :: r) => r
  | _ => []
mutual
def num : D → Nat
  | .tup (_ :: r) => 1 + nums r
  | _ => 1
def nums : List D → Nat
  | [] => 0
  | d :: r => num d + nums r
end
mutual
def hgt : D → Nat
  | .tup (_ :: r) => 1 + hgts r
  | _ => 1
def hgts : List D → Nat
  | [] => 0
  | d :: r => max (hgt d) (hgts r)
end
mutual
def pts : D → List D
  | .tup (x :: r) => .tup (x :: r) :: ptss r
  | d => [d]
def ptss : List D → List D
  | [] => []
  | d :: r => pts d ++ ptss r
end
/-- no script within, no tuple of more than eleven -/
def noScr : D → Bool | .scr _ => false | _ => true
mutual
def fine : D → Bool
  | .scr _ => false
  | .tup ds => decide (ds.length ≤ 11) && fines ds
  | _ => true
def fines : List D → Bool
  | [] => true
  | d :: r => fine d && fines r
end
theorem num_eq (d : D) : num d = 1 + nums (kids d) := by
  cases d with
  | tup ds => cases ds <;> simp [num, kids, nums]
  | _ => simp [num, kids, nums]
theorem hgt_eq (d : D) : hgt d = 1 + hgts (kids d) := by
  cases d with
  | tup ds => cases ds <;> simp [hgt, kids, hgts]
  | _ => simp [hgt, kids, hgts]
theorem pts_eq (d : D) : pts d = d :: ptss (kids d) := by
  cases d with
  | tup ds => cases ds <;> simp [pts, kids, ptss]
  | _ => simp [pts, kids, ptss]
theorem nums_app (a b : List D) : nums (a ++ b) = nums a + nums b := by
  induction a with
  | nil => simp [nums]
  | cons d r ih => simp [nums, ih]; omega
theorem hgts_app (a b : List D) : hgts (a ++ b) = max (hgts a) (hgts b) := by
  induction a with
  | nil => simp [hgts]
  | cons d r ih => simp [hgts, ih]
theorem fine_scr {d : D} (h : fine d = true) : noScr d = true := by
  cases d <;> first | rfl | (simp [fine] at h)
theorem fines_mem : ∀ {ds : List D} {d : D}, fines ds = true → d ∈ ds → fine d = true
  | x :: r, d, h, hm => by
    simp only [fines, Bool.and_eq_true] at h
    rcases List.mem_cons.mp hm with rfl | hm
    · exact h.1
    · exact fines_mem h.2 hm
theorem fines_of : ∀ {ds : List D}, (∀ d ∈ ds, fine d = true) → fines ds = true
  | [], _ => rfl
  | x :: r, h => by simp only [fines, Bool.and_eq_true]; exact ⟨h x (by simp), fines_of fun d hd => h d (by simp [hd])⟩
theorem fine_kids {d : D} (h : fine d = true) : fines (kids d) = true ∧ (kids d).length ≤ 10 := by
  cases d with
  | tup ds =>
    cases ds with
    | nil => exact ⟨rfl, by simp [kids]⟩
    | cons x r =>
      simp only [fine, fines, Bool.and_eq_true, decide_eq_true_eq, List.length_cons] at h
      exact ⟨h.2.2, by simp only [kids]; omega⟩
  | _ => exact ⟨rfl, by simp [kids]⟩
/-- the level below -/
def below (row : List D) : List D := row.flatMap kids
theorem nums_below (row : List D) : nums row = row.length + nums (below row) := by
  induction row with
  | nil => rfl
  | cons d r ih =>
    have : below (d :: r) = kids d ++ below r := rfl
    rw [this, nums_app]
    simp only [nums, List.length_cons, ih, num_eq d]; omega
theorem hgts_below (row : List D) (h : row ≠ []) : hgts row = 1 + hgts (below row) := by
  induction row with
  | nil => exact absurd rfl h
  | cons d r ih =>
    have e : below (d :: r) = kids d ++ below r := rfl
    rw [e, hgts_app]
    simp only [hgts, hgt_eq d]
    cases r with
    | nil => simp [hgts, below]
    | cons x r => rw [ih (by simp)]; omega
theorem fines_below {row : List D} (h : fines row = true) : fines (below row) = true :=
  fines_of fun d hd => by
    obtain ⟨x, hx, hk⟩ := List.mem_flatMap.mp hd
    exact fines_mem (fine_kids (fines_mem h hx)).1 hk
theorem below_len {row : List D} (h : fines row = true) : (below row).length ≤ 10 * row.length := by
  induction row with
  | nil => simp [below]
  | cons d r ih =>
    simp only [fines, Bool.and_eq_true] at h
    have e : below (d :: r) = kids d ++ below r := rfl
    have := ih h.2
    have := (fine_kids h.1).2
    rw [e, List.length_append, List.length_cons]; omega
theorem num_pos (d : D) : 1 ≤ num d := by rw [num_eq]; omega
theorem hgt_pos (d : D) : 1 ≤ hgt d := by rw [hgt_eq]; omega
theorem len_nums (ds : List D) : ds.length ≤ nums ds := by rw [nums_below]; omega
mutual
theorem pts_len : ∀ d : D, (pts d).length = num d
  | .tup (x :: r) => by simp [pts, num, ptss_len r]; omega
  | .tup [] => by simp [pts, num]
  | .non => by simp [pts, num]
  | .bl _ => by simp [pts, num]
  | .int _ => by simp [pts, num]
  | .str _ => by simp [pts, num]
  | .lst _ => by simp [pts, num]
  | .scr _ => by simp [pts, num]
  | .dic _ _ => by simp [pts, num]
  | .dit _ _ => by simp [pts, num]
theorem ptss_len : ∀ ds : List D, (ptss ds).length = nums ds
  | [] => rfl
  | d :: r => by simp [ptss, nums, pts_len d, ptss_len r]
end
mutual
theorem pts_fine : ∀ d : D, fine d = true → fines (pts d) = true
  | .tup (x :: r), h => by
    have h2 := (fine_kids h).1
    simp only [kids] at h2
    simp only [pts, fines, Bool.and_eq_true]
    exact ⟨h, ptss_fine r h2⟩
  | .tup [], h => rfl
  | .non, h => rfl
  | .bl _, h => rfl
  | .int _, h => rfl
  | .str _, h => rfl
  | .lst _, h => rfl
  | .scr _, h => by simp [fine] at h
  | .dic _ _, h => rfl
  | .dit _ _, h => rfl
theorem ptss_fine : ∀ ds : List D, fines ds = true → fines (ptss ds) = true
  | [], _ => rfl
  | d :: r, h => by
    simp only [fines, Bool.and_eq_true] at h
    refine fines_of fun e he => ?_
    rcases List.mem_append.mp (show e ∈ pts d ++ ptss r from he) with he | he
    · exact fines_mem (pts_fine d h.1) he
    · exact fines_mem (ptss_fine r h.2) he
end
end M
namespace M
open PySem PySem.Spec L2
theorem atI_nat {α : Type} {xs : List α} {k : Nat} : atI xs (k : Int) = xs[k]? := by
  unfold atI ixN
  by_cases h : k < xs.length
  · rw [if_pos (by omega), if_pos (by omega)]; simp
  · rw [if_pos (by omega), if_neg (by omega)]
    simp; omega
theorem ix0 {x : D} {r : List D} : ixD (.tup (x :: r)) (.int 0) = .ok x := by
  have := atI_nat (xs := x :: r) (k := 0)
  simp only [ixD]
  rw [show ((0 : Int)) = ((0 : Nat) : Int) from rfl, this]; rfl
end M

set_option Elab.async false
set_option linter.all false
set_option maxRecDepth 100000
set_option maxHeartbeats 4000000
namespace M
open PySem PySem.Spec L2
/-! ### one step at a time: what a piece tells, of what its pieces tell -/
section
variable {env env' : Sl} {f f1 f2 f3 : Sl → Res D} {g g1 g2 : Sl → Res Out} {t t1 t2 : Sl → Res Bool} {fa : Sl → Res (List D)} {i : Nat} {d x y z : D} {b : Bool} {ds : List D}
theorem two_ok {h : D → D → Res D} (h1 : f1 env = .ok x) (h2 : f2 env = .ok y) (h3 : h x y = .ok z) : two f1 f2 h env = .ok z := by rw [ev_two, h1, ev_ok, h2, ev_ok, h3]
theorem setOs_ok (h : f env = .ok d) : setOs i f env = .ok (.nx (env.set i (.shr d))) := by rw [ev_setOs, h]; rfl
theorem setO_ok (h : f env = .ok d) : setO i f env = .ok (.nx (env.set i (slotN d))) := by rw [ev_setO, h]; rfl
theorem retO_ok (h : f env = .ok d) : retO f env = .ok (.rt true d) := by rw [ev_retO, h]; rfl
theorem retS_ok (h : f env = .ok d) : retS f env = .ok (.rt false d) := by rw [ev_retS, h]; rfl
theorem seq_nx (h : g1 env = .ok (.nx env')) : seqO g1 g2 env = g2 env' := by rw [ev_seq, h]; rfl
theorem seq_rt {fr : Bool} (h : g1 env = .ok (.rt fr d)) : seqO g1 g2 env = .ok (.rt fr d) := by rw [ev_seq, h]; rfl
theorem if_t (h : t env = .ok true) : ifO t g1 g2 env = g1 env := by rw [ev_ifO, h]; rfl
theorem if_f (h : t env = .ok false) : ifO t g1 g2 env = g2 env := by rw [ev_ifO, h]; rfl
theorem cons_ok (h1 : f env = .ok d) (h2 : fa env = .ok ds) : cons1 f fa env = .ok (d :: ds) := by rw [ev_cons1, h1, ev_ok, h2]; rfl
theorem app_ok {h : List D → Res D} (h1 : fa env = .ok ds) (h2 : h ds = .ok d) : app fa h env = .ok d := by rw [ev_app, h1, ev_ok, h2]
theorem call_ok {n : Nat} {F : List D → Res D} (h1 : fa env = .ok ds) (hn : ds.length = n) (h2 : F ds = .ok d) : callF n F fa env = .ok d := by rw [ev_callF, h1, ev_ok, must_pos hn, h2]
theorem tup_ok (h1 : fa env = .ok ds) (hn : ds.length ≤ sizeLine) : tupF fa env = .ok (.tup ds) := by rw [ev_tupF, h1, ev_ok, must_pos hn]
theorem lst_ok (h1 : fa env = .ok ds) (hn : ds.length ≤ sizeLine) : lstF fa env = .ok (.lst ds) := by rw [ev_lstF, h1, ev_ok, must_pos hn]
theorem asB_ok (h : f env = .ok (.bl b)) : asB f env = .ok b := by rw [ev_asB, h]; rfl
theorem or_ok {b2 : Bool} (h1 : t1 env = .ok b) (h2 : t2 env = .ok b2) : orB t1 t2 env = .ok (b || b2) := by rw [ev_orB, h1, ev_ok, h2]; cases b <;> rfl
theorem and_ok {b2 : Bool} (h1 : t1 env = .ok b) (h2 : t2 env = .ok b2) : andB t1 t2 env = .ok (b && b2) := by rw [ev_andB, h1, ev_ok, h2]; cases b <;> rfl
theorem notB_ok (h1 : t1 env = .ok b) : notB t1 env = .ok (!b) := by rw [ev_notB, h1]; rfl
theorem append_ok (h1 : ownL i env = .ok ds) (h2 : f env = .ok d) (h3 : ds.length < sizeLine) : appendO i f env = .ok (.nx (env.set i (.own (.lst (ds ++ [d]))))) := by
  show (ownL i env >>= _) = _
  rw [h1]
  show (f env >>= _) = _
  rw [h2]
  exact must_pos h3
theorem slice_ok {fl fh : Sl → Res (Option Int)} {h : D → Option Int → Option Int → Res D} {lo hi : Option Int} (h1 : f env = .ok x) (h2 : fl env = .ok lo) (h3 : fh env = .ok hi) (h4 : h x lo hi = .ok z) : slice3 f fl fh h env = .ok z := by
  rw [ev_slice, h1, ev_ok, h2, ev_ok, h3, ev_ok, h4]
theorem someI_ok {j : Int} (h : f env = .ok (.int j)) : someI f env = .ok (some j) := by rw [ev_someI, h]; rfl
theorem for_ok {tt : D → Sl → Res Sl} {fi : Sl → Res (List D)} (h : fi env = .ok ds) : forO fi tt g env = forD (turnD tt g) ds env := by rw [ev_forO, h]; rfl
theorem itF_ok (h : f env = .ok d) (h2 : iterD d = .ok ds) : itF f env = .ok ds := by rw [ev_itF, h, ev_ok, h2]
theorem chk_ok (h : f env = .ok d) (hd : d.imm = true) : chk f env = .ok d := by
  show (f env >>= _) = _
  rw [h]; exact must_pos hd
end
theorem iOp_ok {C : Int → Int → Prop} [∀ i j, Decidable (C i j)] {g : Int → Int → D} {i j : Int} (h : C i j) : iOp C g (.int i) (.int j) = .ok (g i j) := if_pos h
theorem pow_ok {i j : Int} (h : PowC i j) : powI (.int i) (.int j) = .ok (.int (i ^ j.toNat)) := iOp_ok h
theorem mul_ok {i j : Int} (h : MulC i j) : mulI (.int i) (.int j) = .ok (.int (i * j)) := iOp_ok h
theorem mod_ok {i j : Int} (h : 0 < j) : modI (.int i) (.int j) = .ok (.int (i % j)) := iOp_ok (C := PosC) h
theorem div_ok {i j : Int} (h : 0 < j ∧ j < 1073741824) : divI (.int i) (.int j) = .ok (.int (i / j)) := iOp_ok (C := DivC) h
theorem turn_ok {t : D → Sl → Res Sl} {g : Sl → Res Out} {d : D} {env env' : Sl} (h : t d env = .ok env') : turnD t g d env = g env' := by
  show (t d env >>= g) = _
  rw [h]; rfl
theorem run_t {fr : Bool} {n : Nat} {g : Sl → Res Out} {ds : List D} {d : D} (h : g (startE n ds) = .ok (.rt true d)) : runF fr n g ds = .ok d := by rw [ev_run h]; simp [runK]
theorem run_f {n : Nat} {g : Sl → Res Out} {ds : List D} {d : D} (h : g (startE n ds) = .ok (.rt false d)) : runF false n g ds = .ok d := by rw [ev_run h]; simp [runK]
theorem rng1_ok {fa : Sl → Res (List D)} {env : Sl} {j : Int} (h : fa env = .ok [.int j]) (hb : -(2 ^ 62) ≤ j ∧ j < 2 ^ 62) : rngF fa env = .ok (intsD 0 j.toNat) := by
  show (fa env >>= rng1) = _
  rw [h]; exact must_pos hb
theorem rng2_ok {fa : Sl → Res (List D)} {env : Sl} {i j : Int} (h : fa env = .ok [.int i, .int j]) (hb : (-(2 ^ 62) ≤ i ∧ i < 2 ^ 62) ∧ -(2 ^ 62) ≤ j ∧ j < 2 ^ 62) : rng2F fa env = .ok (intsD i (j - i).toNat) := by
  show (fa env >>= rng2) = _
  rw [h]; exact must_pos hb
theorem add_tup {a b : List D} (h1 : a.isEmpty = false) (h2 : a.length + b.length ≤ sizeLine) : addD (.tup a) (.tup b) = .ok (.tup (a ++ b)) := must_pos (c := _ ∧ _) ⟨h1, h2⟩
theorem add_lst {a b : List D} (h2 : a.length + b.length ≤ sizeLine) : addD (.lst a) (.lst b) = .ok (.lst (a ++ b)) := must_pos h2
theorem eqR_int {a b : Int} : eqR (.int a) (.int b) = .ok (.bl (a == b)) := by
  unfold eqR
  rw [must_pos (by left; simp [D.eqb, D.dep])]; simp [eqD]
theorem forD_inv {body : D → Sl → Res Out} (I : List D → Sl → Prop)
    (hb : ∀ d ds env, I (d :: ds) env → ∃ env', body d env = .ok (.nx env') ∧ I ds env') : ∀ (ds : List D) (env : Sl), I ds env → ∃ env', forD body ds env = .ok (.nx env') ∧ I [] env'
  | [], env, h => ⟨env, rfl, h⟩
  | d :: ds, env, h => by
    obtain ⟨e1, h1, h2⟩ := hb d ds env h
    obtain ⟨e2, h3, h4⟩ := forD_inv I hb ds e1 h2
    exact ⟨e2, by rw [forD_go h1, h3], h4⟩
theorem mem_intsD {lo : Int} {n : Nat} {d : D} (h : d ∈ intsD lo n) : ∃ k : Int, d = .int k ∧ lo ≤ k ∧ k < lo + n := by
  unfold intsD at h
  obtain ⟨i, hi, e⟩ := List.mem_map.mp h
  have := List.mem_range.mp hi
  exact ⟨_, e.symm, by omega, by omega⟩
theorem intsD_len (lo : Int) (n : Nat) : (intsD lo n).length = n := by simp [intsD]
theorem atI_in {α : Type} {xs : List α} {i : Int} (h0 : 0 ≤ i) (h1 : i < xs.length) : ∃ x, atI xs i = some x ∧ x ∈ xs := by
  obtain ⟨k, rfl⟩ := Int.eq_ofNat_of_zero_le h0
  have hk : k < xs.length := by omega
  exact ⟨xs[k], by rw [M.atI_nat]; exact List.getElem?_eq_getElem hk, List.getElem_mem hk⟩
theorem ixS {z : Str} {i : Int} (h0 : 0 ≤ i) (h1 : i < z.length) : ∃ c, ixD (.str z) (.int i) = .ok (.str ⟨#[c]⟩) := by
  obtain ⟨c, hc, _⟩ := atI_in (xs := z.cps.toList) h0 (by simpa [Str.length] using h1)
  exact ⟨c, by simp only [ixD]; rw [hc]⟩
theorem ixL {ds : List D} {i : Int} (h0 : 0 ≤ i) (h1 : i < ds.length) : ∃ d, ixD (.lst ds) (.int i) = .ok d ∧ d ∈ ds := by
  obtain ⟨c, hc, hm⟩ := atI_in (xs := ds) h0 h1
  exact ⟨c, by simp only [ixD]; rw [hc], hm⟩
/-! ### whole numbers -/
open Builtin.Int (intBits)
def NumR (f : Sl → Res D) (env : Sl) (B : Nat) : Prop := ∃ m : Int, f env = .ok (.int m) ∧ intBits m ≤ B
/-! ### a comprehension with one name from without -/
/-! ### trees -/
theorem hgts_le {k : Nat} : ∀ {ds : List D}, (∀ d ∈ ds, hgt d ≤ k) → hgts ds ≤ k
  | [], _ => by simp [hgts]
  | d :: ds, h => by
    simp only [hgts]
    have := h d (by simp)
    have := hgts_le (ds := ds) fun e he => h e (by simp [he])
    omega
theorem hgts_mem : ∀ {ds : List D} {d : D}, d ∈ ds → hgt d ≤ hgts ds
  | x :: r, d, h => by
    simp only [hgts]
    rcases List.mem_cons.mp h with rfl | h
    · omega
    · have := hgts_mem h; omega
mutual
theorem num_hgt : ∀ d : D, fine d = true → num d ≤ 11 ^ hgt d
  | .tup (x :: r), h => by
    have hk := fine_kids h
    simp only [kids] at hk
    have := nums_hgt r hk.1
    simp only [num, hgt, Nat.pow_add]
    have h1 : 1 ≤ 11 ^ hgts r := Nat.one_le_pow _ _ (by decide)
    have h2 : r.length * 11 ^ hgts r ≤ 10 * 11 ^ hgts r := Nat.mul_le_mul_right _ hk.2
    omega
  | .tup [], _ => by simp [num, hgt]
  | .non, _ => by simp [num, hgt]
  | .bl _, _ => by simp [num, hgt]
  | .int _, _ => by simp [num, hgt]
  | .str _, _ => by simp [num, hgt]
  | .lst _, _ => by simp [num, hgt]
  | .scr _, _ => by simp [num, hgt]
  | .dic _ _, _ => by simp [num, hgt]
  | .dit _ _, _ => by simp [num, hgt]
theorem nums_hgt : ∀ ds : List D, fines ds = true → nums ds ≤ ds.length * 11 ^ hgts ds
  | [], _ => by simp [nums]
  | d :: r, h => by
    simp only [fines, Bool.and_eq_true] at h
    have h1 := num_hgt d h.1
    have h2 := nums_hgt r h.2
    simp only [nums, hgts, List.length_cons, Nat.succ_mul]
    have h3 : 11 ^ hgt d ≤ 11 ^ max (hgt d) (hgts r) := Nat.pow_le_pow_right (by decide) (by omega)
    have h4 : r.length * 11 ^ hgts r ≤ r.length * 11 ^ max (hgt d) (hgts r) := Nat.mul_le_mul_left _ (Nat.pow_le_pow_right (by decide) (by omega))
    omega
end
end M

set_option Elab.async false
set_option linter.all false
set_option maxRecDepth 100000
set_option maxHeartbeats 4000000
namespace M
open PySem PySem.Spec L2
open PyProof.Rows hiding St
/-! ### dicts whose keys are ints and texts -/
def keyD : D → Option Key
  | .int i => some (.inl i)
  | .str x => some (.inr x)
  | _ => none
def hasK (ks : List Key) (k : Key) : Bool := ks.any fun x => decide (x = k)
def valD (ks : List Key) (ds : List D) (k : Key) : Option D := ((ks.zip ds).find? fun p => decide (p.1 = k)).map (·.2)
def putKs (ks : List Key) (k : Key) : List Key := if hasK ks k = true then ks else ks ++ [k]
def putDs (ks : List Key) (ds : List D) (k : Key) (d : D) : List D := if hasK ks k = true then (ks.zip ds).map (fun p => if p.1 = k then d else p.2) else ds ++ [d]
section
variable {K : PySem.W.Frag} {A : Addr → Prop} {H : Hp}
end
/-! ### writing into the dict that a slot owns -/
def ownK (i : Nat) (env : Sl) : Res (List Key × List D) := match env[i]? with
  | some (.own (.dic ks ds)) => .ok (ks, ds)
  | _ => .stuck
/-! ### the rules: d[k], k in d, len(d), d.get(k, x), d[k] = v, d.setdefault(k, v) -/
section
variable {X : Cx} {K : PySem.W.Frag}
def getK : D → D → Res D
  | .dic ks ds, kd => match keyD kd with
    | some k => match valD ks ds k with
      | some d => .ok d
      | none => .stuck
    | none => .stuck
  | _, _ => .stuck
def rGetK : R2 := fun x y H Q => ∃ a kvs k v, x = .ref a ∧ y = kV k ∧ H a = some (.dK kvs) ∧ valV kvs k = some v ∧ Q v H
variable {a b : Expr} {f1 f2 : Sl → Res D} {l2 : Lv} {pos p : Pos}
def rInK (neg : Bool) : R2 := fun x y H Q => ∃ a kvs k, y = .ref a ∧ x = kV k ∧ H a = some (.dK kvs) ∧ Q (.bl (if neg then !(valV kvs k).isSome else (valV kvs k).isSome)) H
def inK (neg : Bool) : D → D → Res D
  | kd, .dic ks _ => match keyD kd with
    | some k => .ok (.bl (if neg then !hasK ks k else hasK ks k))
    | none => .stuck
  | _, _ => .stuck
def lenK : List D → Res D
  | [.dic ks _] => .ok (.int ks.length)
  | _ => .stuck
/-! d.get(k, x) -/
def rGet2 : V → List V → Hp → VK → Prop := fun x xs H Q => ∃ a kvs k z, x = .ref a ∧ xs = [kV k, z] ∧ H a = some (.dK kvs) ∧ Q ((valV kvs k).getD z) H
def get2 : D → List D → Res D
  | .dic ks ds, [kd, z] => match keyD kd with
    | some k => .ok ((valD ks ds k).getD z)
    | none => .stuck
  | _, _ => .stuck
def get2F (f f1 f2 : Sl → Res D) : Sl → Res D := fun env => f env >>= fun a => f1 env >>= fun kd => f2 env >>= fun z => get2 a [kd, z]
end
end M

set_option Elab.async false
set_option linter.all false
set_option maxRecDepth 100000
set_option maxHeartbeats 4000000
namespace M
open PySem PySem.Spec L2
open PyProof.Rows hiding St
section
variable {X : Cx} {K : PySem.W.Frag} {l1 l2 : Lv} {e1 e2 : Expr} {fk fv : Sl → Res D} {pos cpos apos p : Pos} {x : Str}
/-! ### x[k] = v, x a slot's own dict -/
def dputO (i : Nat) (fk fv : Sl → Res D) : Sl → Res Out := fun env => ownK i env >>= fun q => fv env >>= fun d => fk env >>= fun kd => match keyD kd with
  | some k => must (q.1.length < sizeLine) (.ok (.nx (env.set i (.own (.dic (putKs q.1 k) (putDs q.1 q.2 k d))))))
  | none => .stuck
/-! ### x.setdefault(k, v) -/
def rSetD : V → List V → Hp → VK → Prop := fun x xs H Q => ∃ a kvs k z, x = .ref a ∧ xs = [kV k, z] ∧ H a = some (.dK kvs) ∧ kvs.length < sizeLine ∧ (∀ v, valV kvs k = some v → Q v H) ∧ (valV kvs k = none → Q z (upd H a (.dK (putK kvs k z))))
def setDO (i : Nat) (fk fv : Sl → Res D) : Sl → Res Out := fun env => ownK i env >>= fun q => fk env >>= fun kd => fv env >>= fun d => match keyD kd with
  | some k => must (q.1.length < sizeLine) (if hasK q.1 k = true then .ok (.nx env) else .ok (.nx (env.set i (.own (.dic (putKs q.1 k) (putDs q.1 q.2 k d))))))
  | none => .stuck
/-! ### list(d) -/
def kD : Key → D
  | .inl i => .int i
  | .inr x => .str x
def listK : List D → Res D
  | [.dic ks _] => must ((ks.all fun k => match k with | .inl _ => true | .inr _ => false) = true) (.ok (.lst (ks.map kD)))
  | _ => .stuck
end
end M

set_option Elab.async false
set_option linter.all false
set_option maxRecDepth 100000
set_option maxHeartbeats 4000000
namespace M
open PySem PySem.Spec L2
open PyProof.Rows hiding St
/-! ### list(reversed(xs)) -/
section
variable {prog : Program} {w : World} {A : Around} {E : Value → Shared → Prop} {s : Shared}
end
section
variable {X : Cx} {e : Expr} {te : TE} {p p2 pos pos2 : Pos}
theorem boot_rev : bootBuiltins "reversed" = some (.type "reversed") := by decide +kernel
theorem rev_vals : ∀ {xs : List V} {its acc : List Value}, Vals xs its → acc.length = its.length → (∀ i v, acc[i]? = some v → its[its.length - 1 - i]? = some v) → Vals xs.reverse acc := by
  intro xs its acc r hl h
  have : acc = its.reverse := by
    apply List.ext_getElem?
    intro i
    by_cases hi : i < acc.length
    · rw [List.getElem?_eq_getElem hi, ← h i _ (List.getElem?_eq_getElem hi), List.getElem?_reverse (by omega)]
    · rw [List.getElem?_eq_none (by omega), List.getElem?_eq_none (by simp; omega)]
  rw [this]
  clear this h hl
  induction r with
  | nil => exact .nil
  | cons h1 t ih =>
    rw [List.reverse_cons, List.reverse_cons]
    exact ih.append (.cons h1 .nil)
def revF (f : Sl → Res D) : Sl → Res D := fun env => f env >>= fun d => match d with
  | .lst ds => .ok (.lst ds.reverse)
  | _ => .stuck
theorem Reps.rev {K : PySem.W.Frag} {A : Addr → Prop} {H : Hp} : ∀ {vs : List V} {ds : List D}, Reps K A H vs ds → Reps K A H vs.reverse ds.reverse
  | _, _, .nil => .nil
  | _, _, .cons h t => by
    rw [List.reverse_cons, List.reverse_cons]
    exact t.rev.append (.cons h .nil)
end
/-! ### range(a, b, c) -/
def ItC (lo c : Int) (n : Nat) : It := ⟨fun i _ => i < n, fun i H x H' => H' = H ∧ x = .int (lo + (i : Int) * c), fun i _ => n ≤ i⟩
/-- the bounds within which a range is walked here -/
def RngC (i j k : Int) : Prop := k ≠ 0 ∧ Builtin.Range.small i j k = true ∧ Builtin.divisionGoesByPylong (j - i) k = false ∧ 0 ≤ Builtin.Range.rangeSize i j k
instance (i j k : Int) : Decidable (RngC i j k) := inferInstanceAs (Decidable (_ ∧ _ ∧ _ ∧ _))
section
variable {X : Cx} {tg a b c : Expr} {ta : TA} {p pos : Pos}
def intsC (lo c : Int) (n : Nat) : List D := (List.range n).map fun (i : Nat) => .int (lo + (i : Int) * c)
def intsCV (lo c : Int) (n : Nat) : List V := (List.range n).map fun (i : Nat) => .int (lo + (i : Int) * c)
def rng3 : List D → Res (List D)
  | [.int i, .int j, .int k] => must (RngC i j k) (.ok (intsC i k (Builtin.Range.rangeSize i j k).toNat))
  | _ => .stuck
def rng3F (fa : Sl → Res (List D)) : Sl → Res (List D) := fun env => fa env >>= rng3
/-! ### what is never come to -/
def neverO : Sl → Res Out := fun _ => .stuck
end
end M

set_option Elab.async false
set_option linter.all false
set_option maxRecDepth 100000
set_option maxHeartbeats 4000000
namespace M
open PySem PySem.W PyProof.Rows
/-! ### the walk of a sort that is answered by an order -/
def Wk {α : Type} (lt : Nat → Nat → Bool) (n : Nat) (R : α → Prop) : KasT α → Prop
  | .ret a => R a
  | .ask i j k => i < n ∧ j < n ∧ Wk lt n R (k (lt i j))
/-- an order of unlike things -/
structure Ord (lt : Nat → Nat → Bool) (n : Nat) : Prop where
  asym : ∀ i j, lt i j = true → lt j i = false
  trans : ∀ i j k, i < n → j < n → k < n → lt i j = true → lt j k = true → lt i k = true
  total : ∀ i j, i < n → j < n → i ≠ j → lt i j = true ∨ lt j i = true
abbrev at0 (p : Array Nat) (i : Nat) : Nat := p.getD i 0
structure Pm (p : Array Nat) (n : Nat) : Prop where
  size : p.size = n
  perm : p.toList.Perm (List.range n)
section
variable {lt : Nat → Nat → Bool} {n : Nat} (O : Ord lt n)
/-- the first k rise -/
def Up (lt : Nat → Nat → Bool) (p : Array Nat) (k : Nat) : Prop := ∀ i j, i < j → j < k → lt (at0 p i) (at0 p j) = true
def Down (lt : Nat → Nat → Bool) (p : Array Nat) (k : Nat) : Prop := ∀ i j, i < j → j < k → lt (at0 p j) (at0 p i) = true
include O
end
end M

set_option Elab.async false
set_option linter.all false
set_option maxRecDepth 100000
set_option maxHeartbeats 4000000
namespace M
open PySem PySem.W PyProof.Rows
section
variable {prog : Program} {w : World} {A : Around} {E : Value → Shared → Prop} {s : Shared} {a : Addr} {vs : List Value} {n : Nat}
/-- the heap while the list a is sorted -/
def sortHp (h : Heap) (a : Addr) (vs : List Value) : Heap := ((h.update a (Obj.mapSeq fun _ => (#[] : Array Value))).push (seqObj "tuple" vs.toArray 0)).push (seqObj "list" #[] 0)
def outOf (vs : List Value) (p : Array Nat) : List Value := p.toList.map fun i => vs.getD i Value.none
end
end M

set_option Elab.async false
set_option linter.all false
set_option maxRecDepth 100000
set_option maxHeartbeats 4000000
namespace M
open PySem PySem.W PyProof.Rows
/-! ### a dict walked, whatever its keys -/
/-- the dict at d has these keys, in this order -/
def DAt (h : Heap) (d : Addr) (ks : List Value) (ep : Nat) : Prop := ∃ o es, h.get? d = some o ∧ o.ExactDict ∧ o.data = .dict es ep ∧ es.toList.map (·.key) = ks
section
variable {prog : Program} {w : World} {A : Around} {E : Value → Shared → Prop} {s : Shared} {d it : Addr} {ks : List Value} {ep i : Nat}
end
end M

set_option Elab.async false
set_option linter.all false
set_option maxRecDepth 100000
set_option maxHeartbeats 4000000
namespace M
open PySem PySem.W PyProof.Rows
/-! ### heads in order -/
abbrev Hd := Str × Int
def hlt (a b : Hd) : Bool := if a.1 = b.1 then decide (a.2 < b.2) else decide (a.1.cps.toList < b.1.cps.toList)
theorem str_ext {a b : Str} (h : a.cps.toList = b.cps.toList) : a = b := by
  cases a; cases b
  simp only [Str.mk.injEq]
  exact Array.toList_inj.mp h
def hltI (hs : List Hd) (i j : Nat) : Bool := match hs[i]?, hs[j]? with
  | some a, some b => hlt a b
  | _, _ => false
/-- the value is a tuple of this text and this number -/
def IsHd (h : Heap) (v : Value) (a : Hd) : Prop := ∃ b o n t u, v = .ref b ∧ h.get? b = some o ∧ o.cls = .type "tuple" ∧ o.data = .seq #[.str a.1 t, .int a.2 u] n
section
variable {prog : Program} {w : World} {A : Around} {E : Value → Shared → Prop} {s : Shared}
/-- values that are these heads -/
inductive AreHd (h : Heap) : List Value → List Hd → Prop where
  | nil : AreHd h [] []
  | cons {v : Value} {a : Hd} {vs : List Value} {hs : List Hd} : IsHd h v a → AreHd h vs hs → AreHd h (v :: vs) (a :: hs)
end
end M

set_option Elab.async false
set_option linter.all false
set_option maxRecDepth 100000
set_option maxHeartbeats 4000000
namespace M
open PySem PySem.W PyProof.Rows
section
variable {prog : Program} {w : World} {A : Around} {E : Value → Shared → Prop} {s : Shared} {a : Addr} {vs : List Value} {n : Nat}
end
/-! ### the heads in order -/
def insH (a : Hd) : List Hd → List Hd
  | [] => [a]
  | b :: r => if hlt a b = true then a :: b :: r else b :: insH a r
def sortH (hs : List Hd) : List Hd := hs.foldr insH []
/-- two lists, thing by thing -/
inductive F2 {α β : Type} (R : α → β → Prop) : List α → List β → Prop where
  | nil : F2 R [] []
  | cons {a b as bs} : R a b → F2 R as bs → F2 R (a :: as) (b :: bs)
section
variable {prog : Program} {w : World} {A : Around} {E : Value → Shared → Prop} {s : Shared} {a : Addr} {vs : List Value} {n : Nat}
end
end M

set_option Elab.async false
set_option linter.all false
set_option maxRecDepth 100000
set_option maxHeartbeats 4000000
namespace M
open PySem PySem.W PyProof.Rows
section
variable {prog : Program} {w : World} {A : Around} {E : Value → Shared → Prop} {t : Shared} {vs : List Value} {hs : List Hd}
end
end M
namespace M
open PySem PySem.Spec L2
open PyProof.Rows hiding St
section
variable {X : Cx}
/-- the thing is a tuple of this text and this number -/
def HdV (H : Hp) (x : V) (a : Hd) : Prop := ∃ b, x = .ref b ∧ H b = some (.tup [.str a.1, .int a.2])
end
end M

set_option Elab.async false
set_option linter.all false
set_option maxRecDepth 100000
set_option maxHeartbeats 4000000
namespace M
open PySem PySem.Spec L2
open PyProof.Rows hiding St
/-! ### dicts whose keys are tuples of ints and texts -/
def keysD : List D → Option (List Key)
  | [] => some []
  | d :: r => match keyD d, keysD r with
    | some k, some ks => some (k :: ks)
    | _, _ => none
def keyT : D → Option (List Key)
  | .tup ds => keysD ds
  | _ => none
def hasT (ks : List (List Key)) (k : List Key) : Bool := ks.any fun x => decide (x = k)
def putTs (ks : List (List Key)) (k : List Key) : List (List Key) := if hasT ks k = true then ks else ks ++ [k]
def putTd (ks : List (List Key)) (ds : List D) (k : List Key) (d : D) : List D := if hasT ks k = true then (ks.zip ds).map (fun p => if p.1 = k then d else p.2) else ds ++ [d]
section
variable {K : PySem.W.Frag} {A : Addr → Prop} {H : Hp}
end
def ownT (i : Nat) (env : Sl) : Res (List (List Key) × List D) := match env[i]? with
  | some (.own (.dit ks ds)) => .ok (ks, ds)
  | _ => .stuck
section
variable {X : Cx} {K : PySem.W.Frag} {l1 l2 : Lv} {e1 e2 : Expr} {fk fv : Sl → Res D} {pos cpos apos p : Pos} {x : Str}
/-- {}, to have tuples as keys -/
def cDT : Sl → Res D := fun _ => .ok (.dit [] [])
def dputT (i : Nat) (fk fv : Sl → Res D) : Sl → Res Out := fun env => ownT i env >>= fun q => fv env >>= fun d => fk env >>= fun kd => match keyT kd with
  | some k => must (q.1.length < sizeLine) (.ok (.nx (env.set i (.own (.dit (putTs q.1 k) (putTd q.1 q.2 k d))))))
  | none => .stuck
/-! ### sorted, of heads -/
def hdOf : D → Option Hd
  | .tup [.str z, .int k] => some (z, k)
  | _ => none
def hdD (a : Hd) : D := .tup [.str a.1, .int a.2]
def hdsOf : List D → Option (List Hd)
  | [] => some []
  | d :: r => match hdOf d, hdsOf r with
    | some a, some as => some (a :: as)
    | _, _ => none
def shortH (hs : List Hd) : Bool := hs.all fun a => decide (a.1.length ≤ sizeLine)
def sortedL : List D → Res D
  | [.lst ds] => match hdsOf ds with
    | some hs => must (hs.Nodup ∧ hs.length < 64) (.ok (.lst ((sortH hs).map hdD)))
    | none => .stuck
  | _ => .stuck
end
end M

set_option Elab.async false
set_option linter.all false
set_option maxRecDepth 100000
set_option maxHeartbeats 4000000
namespace M
open PySem PySem.Spec L2
open PyProof.Rows hiding St
/-! ### sorted(d), d a dict with heads as keys -/
def hdK (a : Hd) : List Key := [.inr a.1, .inl a.2]
section
variable {X : Cx} {K : PySem.W.Frag}
def hdOfK : List Key → Option Hd
  | [.inr z, .inl k] => some (z, k)
  | _ => none
def hdsOfK : List (List Key) → Option (List Hd)
  | [] => some []
  | d :: r => match hdOfK d, hdsOfK r with
    | some a, some as => some (a :: as)
    | _, _ => none
def sortedT : List D → Res D
  | [.dit ks _] => match hdsOfK ks with
    | some hs => must (hs.Nodup ∧ hs.length < 64 ∧ shortH hs = true) (.ok (.lst ((sortH hs).map hdD)))
    | none => .stuck
  | _ => .stuck
end
end M

set_option Elab.async false
set_option linter.all false
set_option maxRecDepth 100000
set_option maxHeartbeats 4000000
namespace M
open PySem PySem.Spec L2
open PyProof.Rows hiding St
/-! ### max(list of ints), and with a default -/
/-- the greatest of b and of k things from j on -/
def upTo (val : Nat → Int) : Nat → Nat → Int → Int
  | 0, _, b => b
  | k + 1, j, b => upTo val k (j + 1) (if val j > b then val j else b)
def maxF : Int → List Int → Int
  | b, [] => b
  | b, i :: r => maxF (if i > b then i else b) r
section
variable {prog : Program} {w : World} {A : Around} {R : Result → Shared → Prop} {I : Addr} {fp wr : List Addr} {n : Nat} {P : Nat → Value → Prop} {St : Nat → Heap → Prop} {kw : List (Str × Value)}
end
end M

set_option Elab.async false
set_option linter.all false
set_option maxRecDepth 100000
set_option maxHeartbeats 4000000
namespace M
open PySem PySem.Spec L2
open PyProof.Rows hiding St
section
variable {prog : Program} {w : World} {A : Around} {E : Value → Shared → Prop} {s : Shared}
/-- what max gives: none where it refuses -/
def maxOr (d : Option Int) : List Int → Option Int
  | [] => d
  | i :: r => some (maxF i r)
theorem vals_int : ∀ {is : List Int} {us : List Value}, Vals (is.map V.int) us → us.length = is.length ∧ ∀ i v, us[i]? = some v → ∃ t, v = Value.int (is.getD i 0) t
  | [], _, .nil => ⟨rfl, fun i v h => by cases h⟩
  | i :: is, _, .cons h t => by
    obtain ⟨a, b⟩ := vals_int t
    refine ⟨by simp [a], fun j v hv => ?_⟩
    cases j with
    | zero =>
      simp at hv; subst hv
      obtain ⟨t, e⟩ := h
      exact ⟨t, by rw [e]; rfl⟩
    | succ j => simp at hv; simpa using b j v hv
end
end M

set_option Elab.async false
set_option linter.all false
set_option maxRecDepth 100000
set_option maxHeartbeats 4000000
namespace M
open PySem PySem.Spec L2
open PyProof.Rows hiding St
def intsOf : List D → Option (List Int)
  | [] => some []
  | .int b :: r => (intsOf r).map (b :: ·)
  | _ => none
theorem intsOf_get : ∀ {ds : List D} {bs : List Int}, intsOf ds = some bs → ds = bs.map D.int
  | [], bs, h => by cases h; rfl
  | d :: r, bs, h => by
    cases d with
    | int b =>
      simp only [intsOf, Option.map_eq_some_iff] at h
      obtain ⟨bs', h1, rfl⟩ := h
      rw [intsOf_get h1]; rfl
    | _ => cases h
theorem intsOf_of (bs : List Int) : intsOf (bs.map D.int) = some bs := by
  induction bs with
  | nil => rfl
  | cons b r ih => simp [intsOf, ih]
section
variable {X : Cx} {K : PySem.W.Frag} {l l' l2 : Lv}
theorem reps_ints {A : Addr → Prop} {H : Hp} : ∀ {bs : List Int} {xs : List V}, Reps K A H xs (bs.map D.int) → xs = bs.map V.int
  | [], _, .nil => rfl
  | b :: bs, _, .cons h t => by rw [h.intE, reps_ints t]; rfl
def maxLD : List D → Res D
  | [.lst ds] => match intsOf ds with
    | some is => match maxOr none is with
      | some m => .ok (.int m)
      | none => .stuck
    | none => .stuck
  | _ => .stuck
/-! ### max(xs, default=e) -/
def maxDD (a b : D) : Res D := match a, b with
  | .lst ds, .int i => match intsOf ds with
    | some is => match maxOr (some i) is with
      | some m => .ok (.int m)
      | none => .stuck
    | none => .stuck
  | _, _ => .stuck
variable {x : Str} {p pos kpos : Pos} {e e2 : Expr} {fa f2 : Sl → Res D}
end
end M

set_option Elab.async false
set_option linter.all false
set_option maxRecDepth 100000
set_option maxHeartbeats 4000000
namespace M
open PySem PySem.Spec L2
open PyProof.Rows hiding St
open PySem.SeqAt
/-! ### x in a list, whatever is in it -/
section
variable {X : Cx} {K : PySem.W.Frag}
def inL (ds : List D) (d : D) : Bool := ds.any fun y => eqD y d
def rInL (K : PySem.W.Frag) (neg : Bool) : R2 := fun x y H Q => ∃ p xs ds d, y = .ref p ∧ SqL K H p xs ∧ Reps K Any H xs ds ∧ Rep K Any H x d ∧ (D.eqbs ds = true ∧ D.eqb d = true ∧ D.deps ds ≤ 190) ∧ Q (.bl (if neg then !inL ds d else inL ds d)) H
open Classical in
def inLR (neg : Bool) : D → D → Res D
  | d, .lst ds => must (D.eqbs ds = true ∧ D.eqb d = true ∧ D.deps ds ≤ 190) (.ok (.bl (if neg then !inL ds d else inL ds d)))
  | _, _ => .stuck
end
end M

set_option Elab.async false
set_option linter.all false
set_option maxRecDepth 100000
set_option maxHeartbeats 4000000
namespace M
open PySem PySem.Spec L2
open PyProof.Rows hiding St
section
variable {X : Cx} {id : String} {r : List V → Hp → VK → Prop} {g : List D → Res D} {x : Str} {p pos : Pos} {e : Expr} {es : List Expr} {fa : Sl → Res (List D)}
/-- a call of a builtin function that tells something new -/
theorem de_callN (hc : CallR X (.builtin id) r) (hr : CallD X.K r g) (hg : Gl X x) (hm : X.mg x = none) (hv : bootBuiltins x = some (.builtin id))
    (ha : DA X .s (e :: es) fa) (hn : x ≠ "__name__" := by decide) (hdb : (x == ("__debug__" : Str)) = false := by decide)
    (he : starEach (e :: es) X.env = (false, eval e X.env) :: starEach es X.env := by exact star_plain rfl) (hpl : (backTo pos (starEach es X.env)).any (·.1) = false := by exact any_plain rfl) : DE X .t (.Call (.Name x p) (e :: es) [] pos) (app fa g) := by
 with_unfolding_all exact (
  PE.imp (pe_callB hc hg hm hv ha hn hdb he hpl) fun _ _ _ h => tCB_D hr h)
variable {ex : Expr} {t : Sl → Res Bool}
/-- a test in which a list of its own is walked -/
def frzT (i : Nat) (t : Sl → Res Bool) : Sl → Res Bool := fun env => t (frz i env)
end
end M

set_option Elab.async false
set_option linter.all false
set_option maxRecDepth 100000
set_option maxHeartbeats 4000000
namespace M
open PySem PySem.Spec L2
open PyProof.Rows hiding St
/-! ### divmod -/
theorem boot_divmodG : bootBuiltins "divmod" = some (.builtin "divmod") := by decide +kernel
def divmodD : List D → Res D
  | [.int i, .int j] => must (0 < j ∧ j < 1073741824) (.ok (.tup [.int (i / j), .int (i % j)]))
  | _ => .stuck
theorem cd_divmod {K : PySem.W.Frag} : CallD K (fun xs H Q => ∃ i j, xs = [.int i, .int j] ∧ CDiv i j ∧ ∀ p, H p = none → Q (.ref p) (upd H p (.tup [.int (i / j), .int (i % j)]))) divmodD := by
  intro A xs H ds d Q r e q
  unfold divmodD at e
  split at e
  · obtain ⟨hc, e2⟩ := must_inv e
    cases e2
    obtain ⟨v, v', rfl, r1, r2⟩ := r.two
    cases r1.intE
    cases r2.intE
    exact ⟨_, _, rfl, hc, fun p hp => q _ _ (Same.upd hp) (.tup upd_same (.cons (.int _) (.cons (.int _) .nil))) (new_top (Same.refl H) hp)⟩
  · cases e
/-! ### enumerate -/
section
variable {X : Cx} {pins : List (Addr × Obj)} {σ : L2.St} {H : Hp} {s : Shared}
theorem inv_turned2 {t' : Nat} {h' : Heap} {i1 i2 : Addr} (I : Inv X pins σ H s) (k : ∀ b o, b ≠ i1 → b ≠ i2 → s.heap.get? b = some o → h'.get? b = some o) (f1 : FpOk X pins H i1) (f2 : FpOk X pins H i2) : Inv X pins σ H { s with heap := h', toks := t' } := by
  obtain ⟨a0, a1, _, a3, a4, a5⟩ := f1
  obtain ⟨b0, b1, _, b3, b4, b5⟩ := f2
  have n1 : ∀ b u, H b = some u → b ≠ i1 := fun b u e z => by rw [z, a0] at e; cases e
  have n2 : ∀ b u, H b = some u → b ≠ i2 := fun b u e z => by rw [z, b0] at e; cases e
  have kk : ∀ b o, b ∉ [i1, i2] → s.heap.get? b = some o → h'.get? b = some o := fun b o hc e => k b o (fun z => hc (by simp [z])) (fun z => hc (by simp [z])) e
  refine I.step (g' := s.gens) (d' := s.drawn) (ch := [i1, i2]) (fun b hb => ?_) (fun b o _ _ hc e _ => kk b o hc e) (fun b o _ _ hc e _ => ⟨o.slots, kk b o hc e⟩) (fun _ _ _ _ n => n)
    (fun b o hc e => ⟨o, kk b o hc e⟩) (fun _ _ e => e) (fun _ _ _ e => e) (fun b ps e => ⟨#[], by rw [e]; simp⟩) (fun m hm => ?_) (fun b u e => ?_) I.bare
  · simp only [List.mem_cons, List.not_mem_nil, or_false] at hb
    rcases hb with rfl | rfl
    · exact ⟨a3, a1, a4, a5⟩
    · exact ⟨b3, b1, b4, b5⟩
  · obtain ⟨o, es, ep, ho, r⟩ := hm
    exact ⟨o, es, ep, k _ o (Ne.symm a1) (Ne.symm b1) ho, r⟩
  · refine (I.hok b u e).stay (fun c v hc q => k c v ?_ ?_ q) (fun _ q => q) fun _ _ q => q
    · rcases hc with z | z
      · rw [z]; exact n1 b u e
      · exact n1 c _ z
    · rcases hc with z | z
      · rw [z]; exact n2 b u e
      · exact n2 c _ z
end
/-- xs with their places -/
def ItE (K : PySem.W.Frag) (a : Addr) (xs : List V) : It := ⟨fun i H => SqL K H a xs ∧ i < xs.length, fun i H v H' => ∃ p x, H p = none ∧ xs[i]? = some x ∧ v = .ref p ∧ H' = upd H p (.tup [.int (i : Int), x]), fun i H => SqL K H a xs ∧ xs.length ≤ i⟩
theorem turn_enum {P : Program} {w : World} {K : PySem.W.Frag} {elts : List Expr} {n : Nat} {pos : Pos} (a it e : Addr) (xs : List V) (hei : e ≠ it) : Turn P w K (.Tuple elts n pos) (ItE K a xs) [e, it] e (fun i h => (∃ old, IsEnum h e it (i : Int) old) ∧ h.IsListIter it a i) where
  mem := by simp
  obj := fun i h st b hb => by
    obtain ⟨⟨old, he⟩, o, ho, hc, hd⟩ := st
    simp only [List.mem_cons, List.not_mem_nil, or_false] at hb
    rcases hb with rfl | rfl
    · exact ⟨_, he, fun v z => by cases z⟩
    · exact ⟨o, ho, fun v z => by rw [hd] at z; cases z⟩
  keep := fun i h h' st k => by
    obtain ⟨⟨old, he⟩, hit⟩ := st
    exact ⟨⟨old, k e (by simp) _ he⟩, hit.at fun o x => k it (by simp) o x⟩
  item := by
    intro X hP hw hK hc i pins s σ H E I hf st hg
    subst hP hw hK
    obtain ⟨hq, hi⟩ := hg
    obtain ⟨its, rv, p, hz⟩ := I.list hq
    have hx : xs[i]? = some xs[i] := List.getElem?_eq_getElem hi
    obtain ⟨u, hu, ru⟩ := rv.get hx
    obtain ⟨⟨old, he⟩, hit⟩ := st
    have fe := hf e (by simp)
    have fi := hf it (by simp)
    refine wpAny_pyNext_enum_item he hit p.isList (x := u) (by simpa using hu) hei fun h' ho hit' hT hsz hk => ?_
    refine ⟨_, rfl, wpAny_letOwnedTupleGo_enum ho fun h'' he' hs' => ?_⟩
    have helt : e < s.heap.objs.size := Heap.lt_size he
    have hilt : it < s.heap.objs.size := by obtain ⟨_, x, _⟩ := hit; exact Heap.lt_size x
    have hfr : H s.heap.objs.size = none := I.hok.fresh (Nat.le_refl _)
    have I1 : Inv X pins σ (upd H s.heap.objs.size (.tup [.int (i : Int), xs[i]])) { s with heap := s.heap.push { cls := .type "tuple", data := .seq #[.int i s.toks, u] } } :=
      I.laid (t' := s.toks) (fun b o e => Heap.get?_push_of_some _ e) (Nat.le_refl _) ⟨Nat.le_trans (show 2 ≤ 20 by decide) (by decide), [.int i s.toks, u], .cons ⟨_, rfl⟩ (.cons ru .nil), ⟨_, Heap.get?_push_size _ rfl, rfl, _, rfl⟩⟩
    have fe1 : FpOk X pins (upd H s.heap.objs.size (.tup [.int (i : Int), xs[i]])) e := ⟨by rw [upd_ne (Nat.ne_of_lt helt)]; exact fe.1, fe.2⟩
    have fi1 : FpOk X pins (upd H s.heap.objs.size (.tup [.int (i : Int), xs[i]])) it := ⟨by rw [upd_ne (Nat.ne_of_lt hilt)]; exact fi.1, fi.2⟩
    have I2 := inv_turned2 (t' := s.toks + 1) (h' := h'') I1 (fun b o hbe hbi eo => by
      refine (hs'.2 b hbe).trans ?_
      by_cases hb : b = s.heap.objs.size
      · subst hb
        rw [Heap.get?_push_size _ rfl] at eo
        rw [← eo]; exact hT
      · have eo' : s.heap.get? b = some o := by
          rcases Heap.get?_push_cases eo with ⟨z, _⟩ | z
          · exact absurd z hb
          · exact z
        exact hk b o hbe hbi eo') fe1 fi1
    refine ⟨.ref s.heap.objs.size, _, I2, rfl, ⟨_, _, hfr, hx, rfl, rfl⟩, ⟨⟨_, by simpa using he'⟩, hit'.at fun o y => (hs'.2 it hei.symm).trans y⟩, fun b hb => ?_⟩
    simp only [List.mem_cons, List.not_mem_nil, or_false] at hb
    rcases hb with rfl | rfl
    · exact fe1.1
    · exact fi1.1
  done := by
    intro X hP hw hK hc i pins s σ H E I hf st hg
    subst hP hw hK
    obtain ⟨hq, hi⟩ := hg
    obtain ⟨its, rv, p, hz⟩ := I.list hq
    obtain ⟨⟨old, he⟩, hit⟩ := st
    have hl := rv.length
    refine wpAny_pyNext_enum_end (I.ok.hd hc) he hit p.isList (by simp; omega) fun h' eb => ⟨rfl, inv_turned2 (t' := s.toks) I (fun b o hbe hbi eo => eb b o hbi eo) (hf e (by simp)) (hf it (by simp))⟩
  self := fun _ _ _ _ _ st h => let ⟨⟨_, he⟩, _⟩ := st; wpAny_pyIter_enum he h
section
variable {X : Cx} {elts : List Expr} {n : Nat} {tpos p pos : Pos} {e : Expr} {f : Sl → Res D}
def pairsFrom : Nat → List D → List D
  | _, [] => []
  | k, d :: r => .tup [.int (k : Int), d] :: pairsFrom (k + 1) r
theorem pairs_len : ∀ (k : Nat) (ds : List D), (pairsFrom k ds).length = ds.length
  | _, [] => rfl
  | k, d :: r => by simp [pairsFrom, pairs_len (k + 1) r]
theorem pairs_get : ∀ (k i : Nat) (ds : List D), (pairsFrom k ds)[i]? = (ds[i]?).map fun d => .tup [.int ((k + i : Nat) : Int), d]
  | k, i, [] => by simp [pairsFrom]
  | k, 0, d :: r => by simp [pairsFrom]
  | k, i + 1, d :: r => by
    simp only [pairsFrom, List.getElem?_cons_succ]
    rw [pairs_get (k + 1) i r]
    congr 1
    funext d
    congr 3
    omega
def enumF (f : Sl → Res D) : Sl → Res (List D) := fun env => f env >>= fun d => match d with
  | .lst ds => .ok (pairsFrom 0 ds)
  | .scr ds => .ok (pairsFrom 0 ds)
  | _ => .stuck
theorem di_enum (hg : Gl X "enumerate") (hm : X.mg "enumerate" = none) (h : DE X .s e f) (hs : starEach [e] X.env = [(false, eval e X.env)] := by rfl) : DI X (.Tuple elts n tpos) (.Call (.Name "enumerate" p) [e] [] pos) (enumF f) := by
  have hE : PE X e (tE X.K .s f) := by with_unfolding_all exact h
  with_unfolding_all exact (show PI X (.Tuple elts n tpos) (.Call (.Name "enumerate" p) [e] [] pos) (tI X.K (enumF f)) from by
    intro pins s σ H R I ⟨G, H0, env, ds, k, ef, q⟩
    obtain ⟨d, e1, e2⟩ := bind_inv ef
    have hA : PA X [e] (tA X.K .s fun env => f env >>= fun d => .ok [d]) := by
      have := pa_cons hE pa_nil (es := []) hs
      intro ps pins s σ H Q I ⟨G, H0, env, ds, k, ef, q⟩
      obtain ⟨d, c1, c2⟩ := bind_inv ef
      cases c2
      exact this ps pins s σ H Q I ⟨G, H0, env, d, k, c1, fun v H1 s1 r1 _ => q [v] H1 s1 (.cons r1 .nil)⟩
    refine Call_ (ld_blt I hg hm boot_enumerate (PyProof.Rows.callWith_type1 (thn (hA pos pins s σ H (fun vs H1 => ∃ v, vs = [v] ∧ Same H H1 ∧ Rep X.K (Sf G env σ) H1 v d) I ⟨G, H0, env, [d], k, by show (f env >>= _) = _; rw [e1]; rfl, fun vs H1 s1 r1 => by obtain ⟨v, rfl, r⟩ := r1.one; exact ⟨v, rfl, s1, r⟩⟩) fun us s1 ⟨vs, H1, I1, r1, v, ev, sm, rep⟩ => ?_) hs rfl))
    subst ev
    obtain ⟨u, rfl, ru⟩ := vals1 r1
    have k1 := k.grow sm
    have main : ∀ (a : Addr) (xs : List V) (es : List D) (P : Hp → Prop), u = .ref a → SqL X.K H1 a xs → Reps X.K (Sf G env σ) H1 xs es → ds = pairsFrom 0 es → P H1 → (∀ H', P H' → SqL X.K H' a xs) → (∀ env' σ' H', Frm env σ H1 env' σ' H' → P H') → wpAny (model X.prog X.w) X.A (call (.type "enumerate") [u]) (fun v s1 => wpAny (model X.prog X.w) X.A (pyIter v) (PIE X pins σ (.Tuple elts n tpos) R) X.xe s1) X.xe s1 := by
      intro a xs es P eu hq rs eds p0 pq pst
      subst eu
      obtain ⟨its, rv, pl, hz⟩ := I1.list hq
      refine call_enumerate_list pl.isList fun h' he hit hsz hk => wpAny_pyIter_enum he ?_
      have I2 : Inv X pins σ H1 { s1 with heap := h' } := I1.kept (t' := s1.toks) hk
      refine ⟨s1.heap.objs.size + 1, [s1.heap.objs.size + 1, s1.heap.objs.size], _, _, H1, rfl, I2, turn_enum a s1.heap.objs.size (s1.heap.objs.size + 1) xs (Nat.succ_ne_self _), ⟨⟨_, he⟩, hit⟩, fun b hb => ?_, ?_⟩
      · simp only [List.mem_cons, List.not_mem_nil, or_false] at hb
        rcases hb with rfl | rfl
        · exact I1.fpOk (Nat.le_succ _) (I1.hok.fresh (Nat.le_succ _))
        · exact I1.fpOk (Nat.le_refl _) (I1.hok.fresh (Nat.le_refl _))
      · refine q _ H1 P sm (fun i H' pp => ?_) p0 pst
        have hl := rs.length
        subst eds
        rw [pairs_len]
        refine ⟨fun hi => ⟨pq H' pp, by omega⟩, fun d hd x H2 y => ?_, fun hi => ⟨pq H' pp, by omega⟩⟩
        obtain ⟨p, x', hp, hx', rfl, rfl⟩ := y
        obtain ⟨d', hd', rd⟩ := rs.get' hx'
        rw [pairs_get, hd'] at hd
        cases hd
        exact .inr ⟨p, _, _, hp, rfl, rfl, rfl, .cons (by rw [Nat.zero_add]; exact .int _) (.cons rd .nil)⟩
    cases d with
    | lst es =>
      cases e2
      obtain ⟨a, xs, rfl, ha, na, rs⟩ := rep.lstE
      exact main a xs es (fun H => H a = some (.lst xs)) ru (.of ha) rs.low rfl ha (fun H' z => .of z) fun env' σ' H' fr => fr.keep a _ ha na.1
    | scr es =>
      cases e2
      obtain ⟨a, xs, rfl, ha, rs⟩ := rep.scrE
      refine main a xs es (fun H => LsK X.K H a xs) ru ha.sql rs rfl ha (fun H' z => z.sql) fun env' σ' H' fr => ?_
      rcases ha with ⟨o, eo⟩ | z
      · exact .inl ⟨o, fr.keep a _ eo fun ow => (k1.mutO ow eo).elim⟩
      · exact .inr z
    | _ => cases e2)
end
end M

set_option Elab.async false
set_option linter.all false
set_option maxRecDepth 100000
set_option maxHeartbeats 4000000
namespace M
open PySem PySem.Spec L2
open PyProof.Rows hiding St
/-! ### sum of a list of ints -/
theorem boot_sumG : bootBuiltins "sum" = some (.builtin "sum") := by decide +kernel
def sumI : List Int → Int
  | [] => 0
  | i :: r => i + sumI r
theorem sumI_app (a b : List Int) : sumI (a ++ b) = sumI a + sumI b := by
  induction a with
  | nil => simp [sumI]
  | cons i r ih => simp [sumI, ih]; omega
theorem preSum_take (is : List Int) : ∀ k, k ≤ is.length → preSum (fun j => is.getD j 0) k = sumI (is.take k)
  | 0, _ => rfl
  | k + 1, h => by
    have hk : k < is.length := by omega
    show preSum (fun j => is.getD j 0) k + is.getD k 0 = _
    rw [preSum_take is k (by omega), List.take_succ_eq_append_getElem hk, sumI_app]
    simp [sumI, hk]
section
variable {X : Cx} {K : PySem.W.Frag}
theorem call_sumL (hc : X.calm = true) : CallR X (.builtin "sum") (fun xs H Q => ∃ (p : Addr) (is : List Int), xs = [.ref p] ∧ SqL X.K H p (is.map V.int) ∧ Q (.int (sumI is)) H) := by
  intro pins s σ H xs us Q I r ⟨p, is, ex, hq, q⟩
  subst ex
  obtain ⟨u, rfl, ru⟩ := vals1 r
  cases ru
  obtain ⟨its, rv, pl, hz⟩ := I.list hq
  obtain ⟨v1, v2⟩ := vals_int rv
  have hplt : p < s.heap.objs.size := by
    obtain ⟨o, n, e, _⟩ := pl
    exact Heap.lt_size e
  have hne : p ≠ s.heap.objs.size := Nat.ne_of_lt hplt
  refine call_sum_walkAnyS (wpAny_pyIter_list pl.isList ?_)
  have W := Walks.list (prog := X.prog) (w := X.w) (A := X.A.in1) (I.ok.hd hc) s.heap.objs.size p hne its.toArray
  have hs1 : (s.heap.push { cls := .type "list_iterator", data := .fields #[.ref p, .int 0 0] }).objs.size = s.heap.objs.size + 1 := Heap.size_push ..
  refine ⟨s.heap.objs.size, _, _, _, its.toArray.size, _, _, (fun j => is.getD j 0), rfl, W.toS, ⟨⟨_, Heap.get?_push_size _ rfl, rfl, rfl⟩, pl.isList.push _⟩, fun b hb => ?_, fun i v hP => v2 i v (by simpa using hP), fun s' t' hm => ?_⟩
  · simp only [List.mem_cons, List.not_mem_nil, or_false] at hb
    show b < (s.heap.push { cls := .type "list_iterator", data := .fields #[.ref p, .int 0 0] }).objs.size
    rw [hs1]
    rcases hb with rfl | rfl
    · exact Nat.lt_succ_self _
    · exact Nat.lt_succ_of_lt hplt
  · rw [Moved.eq_with hm]
    have e : preSum (fun j => is.getD j 0) its.toArray.size = sumI is := by
      have hsz : its.toArray.size = is.length := by simpa using v1
      rw [hsz, preSum_take is _ (Nat.le_refl _), List.take_length]
    refine ⟨.int (sumI is), H, I.kept fun b o eo => ?_, ⟨t', by rw [e]⟩, q⟩
    refine hm.heap b o (fun hb => ?_) (Heap.get?_push_of_some _ eo)
    have hlt := Heap.lt_size eo
    simp only [List.mem_cons, List.not_mem_nil, or_false] at hb
    exact absurd hb (Nat.ne_of_lt hlt)
def sumLD : List D → Res D
  | [.lst ds] => match intsOf ds with
    | some is => .ok (.int (sumI is))
    | none => .stuck
  | _ => .stuck
theorem cd_sumL : CallS K (fun xs H Q => ∃ (p : Addr) (is : List Int), xs = [.ref p] ∧ SqL K H p (is.map V.int) ∧ Q (.int (sumI is)) H) sumLD := by
  intro xs H ds d Q r e q
  unfold sumLD at e
  split at e
  · split at e
    · rename_i es is hbs
      cases e
      obtain ⟨v, rfl, r1⟩ := r.one
      obtain ⟨p, ys, rfl, hp, _, ry⟩ := r1.lstE
      rw [intsOf_get hbs] at ry
      have := reps_ints ry
      subst this
      exact ⟨p, is, rfl, .of hp, q _ (sc_int _)⟩
    · cases e
  · cases e
end
/-! ### > of tuples -/
open PySem.SeqAt (EqAt RcAt RcNeAt)
def GtAt (A : Around) (s : Shared) (y x : Value) (b : Bool) : Prop :=
  ∀ (prog : Program) (w : World) (E : Value → Shared → Prop) (Q : Value → Shared → Prop), Q (.bool b) s → wpAny (model prog w) A (richCompare .Gt y x) Q E s
/-- the answer at the first place where the two are unlike -/
def lexJ (e g : Nat → Bool) (z : Bool) : List Nat → Bool
  | [] => z
  | j :: r => if e j = true then lexJ e g z r else g j
open AutoSeq1 (wpAny_loadPart') in
theorem tuple_gtAt (l b : Addr) (items items2 : Array Value) (n n2 : Nat) (dd dd2 : Option Addr) (sl sl2 : Array (Option Value)) (e g : Nat → Bool) :
    PySem.Meets (Builtin.«tuple.__gt__» ⟨[.ref l, .ref b], []⟩)
      (fun A R s => s.heap.get? l = some { cls := .type "tuple", dict := dd, data := .seq items n, slots := sl } ∧ s.heap.get? b = some { cls := .type "tuple", dict := dd2, data := .seq items2 n2, slots := sl2 } ∧
        (∀ j (h1 : j < items.size) (h2 : j < items2.size), EqAt A.in1 s items[j] items2[j] (e j)) ∧
        (∀ j (h1 : j < items.size) (h2 : j < items2.size), e j = false → (∀ k, k < j → e k = true) → GtAt A.in1 s items[j] items2[j] (g j)) ∧
        R (.ok (.ret (.bool (lexJ e g (decide (items2.size < items.size)) (List.range (min items.size items2.size)))))) s) :=
  .of_wp fun prog w A R s h => by
    obtain ⟨hp, gg, d, tk, os⟩ := s; obtain ⟨hl, hb, he, hg, h⟩ := h
    have f2 := AutoSeq1.sub_tuple_tuple
    have hZ : (items.toList.zip items2.toList).length = min items.size items2.size := by simp
    wp_walk using wpAny_loadPart' hl, wpAny_loadPart' hb, wpAny_forIn_list _ (fun rest b s' => b.1 = none ∧ s' = ⟨hp, gg, d, tk, os⟩ ∧ ∃ i, rest = (items.toList.zip items2.toList).drop i ∧ (∀ k, k < i → e k = true) ∧
      R (.ok (.ret (.bool (lexJ e g (decide (items2.size < items.size)) ((List.range (min items.size items2.size)).drop i))))) ⟨hp, gg, d, tk, os⟩) _
    case turn =>
      rintro ⟨y, x⟩ rest b s' ⟨hb', rfl, i, hz, hpre, hR⟩
      have hlt : i < (items.toList.zip items2.toList).length := by
        rcases Nat.lt_or_ge i (items.toList.zip items2.toList).length with h' | h'
        · exact h'
        · rw [List.drop_of_length_le h'] at hz; cases hz
      have hm : i < min items.size items2.size := hZ ▸ hlt
      have h1 : i < items.size := Nat.lt_of_lt_of_le hm (Nat.min_le_left _ _)
      have h2 : i < items2.size := Nat.lt_of_lt_of_le hm (Nat.min_le_right _ _)
      rw [List.drop_eq_getElem_cons hlt] at hz
      injection hz with hyx hrest
      have hy : y = items[i] := by have := congrArg Prod.fst hyx; simpa using this
      have hx : x = items2[i] := by have := congrArg Prod.snd hyx; simpa using this
      subst hy hx
      have hd : (List.range (min items.size items2.size)).drop i = i :: (List.range (min items.size items2.size)).drop (i + 1) := by simp [List.drop_eq_getElem_cons, hm]
      rw [hd] at hR
      refine wpAny_bind (he i h1 h2 prog w _ _ ?_)
      cases hy : e i with
      | true =>
        simp only [lexJ, hy, if_true] at hR
        wp_walk
        refine ⟨rfl, rfl, i + 1, hrest, fun k hk => ?_, hR⟩
        by_cases hki : k = i
        · rw [hki]; exact hy
        · exact hpre k (by omega)
      | false =>
        simp only [lexJ, hy, Bool.false_eq_true, if_false] at hR
        simp only [Bool.not_false, if_true]
        refine wpAny_bind (wpAny_rule ?_)
        refine wpAny_bind (hg i h1 h2 hy hpre prog w _ _ ?_)
        wp_walk
        exact ⟨_, rfl, hR⟩
    case fin =>
      rintro ⟨b1, b2⟩ s' ⟨hb', rfl, i, hz, hpre, hR⟩
      simp only at hb'
      subst hb'
      have hge : min items.size items2.size ≤ i := by
        rcases Nat.lt_or_ge i (items.toList.zip items2.toList).length with h' | h'
        · rw [List.drop_eq_getElem_cons h'] at hz; cases hz
        · exact hZ ▸ h'
      rw [List.drop_of_length_le (by simpa using hge)] at hR
      wp_walk
      exact ⟨_, rfl, by simpa [Builtin.Tuple.tupleCompareSizes, lexJ] using hR⟩
    case h =>
      exact ⟨rfl, rfl, 0, rfl, fun k hk => absurd hk (Nat.not_lt_zero _), by simpa using h⟩
theorem GtAt.tuples {A : Around} {s : Shared} {l b : Addr} {items items2 : Array Value} {e g : Nat → Bool} (hl : s.heap.IsTuple l items) (hb : s.heap.IsTuple b items2) (hu : A.units < cLine)
    (he : ∀ j (h1 : j < items.size) (h2 : j < items2.size), EqAt A.in1 s items[j] items2[j] (e j))
    (hg : ∀ j (h1 : j < items.size) (h2 : j < items2.size), e j = false → (∀ k, k < j → e k = true) → GtAt A.in1 s items[j] items2[j] (g j)) :
    GtAt A s (.ref l) (.ref b) (lexJ e g (decide (items2.size < items.size)) (List.range (min items.size items2.size))) := fun prog w E Q h => by
  obtain ⟨⟨cls, dd, data, sl⟩, ho, hc, n, hd⟩ := id hl
  obtain ⟨⟨cls2, dd2, data2, sl2⟩, ho2, hc2, n2, hd2⟩ := id hb
  simp only at hc hd hc2 hd2
  subst hc hd hc2 hd2
  exact richCompare_meets_room (op := .Gt) ⟨_, ho, rfl⟩ ⟨_, ho2, rfl⟩ F.slot_tuple_gt F.entry_tuple_gt (F.args_tuple_gt_2 _ _) (tuple_gtAt l b items items2 n n2 dd dd2 sl sl2 e g)
    ⟨ho, ho2, he, hg, show Value.bool _ ≠ Value.notImplemented ∧ Q (.bool _) s from ⟨(fun x => nomatch x), h⟩⟩ hu
mutual
def gtD : D → D → Bool
  | .int i, .int j => decide (j < i)
  | .str x, .str y => decide (y.cps.toList < x.cps.toList)
  | .tup a, .tup b => gtDs a b
  | _, _ => false
def gtDs : List D → List D → Bool
  | a :: as, b :: bs => if eqD a b = true then gtDs as bs else gtD a b
  | a :: as, [] => true
  | [], _ => false
end
mutual
/-- what is compared in order here -/
def cmpb : D → D → Bool
  | .int _, .int _ => true
  | .str _, .str _ => true
  | .tup a, .tup b => cmpbs a b
  | _, _ => false
def cmpbs : List D → List D → Bool
  | a :: as, b :: bs => if eqD a b = true then cmpbs as bs else cmpb a b
  | _, _ => true
end
def gtAtJ (a b : List D) (j : Nat) : Bool := match a[j]?, b[j]? with
  | some x, some y => gtD x y
  | _, _ => false
theorem lexJ_map (e g : Nat → Bool) (z : Bool) : ∀ l : List Nat, lexJ e g z (l.map Nat.succ) = lexJ (fun j => e (j + 1)) (fun j => g (j + 1)) z l
  | [] => rfl
  | j :: l => by
    simp only [List.map_cons, lexJ]
    rw [lexJ_map e g z l]
theorem gtDs_lex : ∀ (a b : List D), gtDs a b = lexJ (eqAtJ a b) (gtAtJ a b) (decide (b.length < a.length)) (List.range (min a.length b.length))
  | [], b => by simp [gtDs, lexJ]
  | x :: a, [] => by simp [gtDs, lexJ]
  | x :: a, y :: b => by
    have ih := gtDs_lex a b
    have e : min (x :: a).length (y :: b).length = min a.length b.length + 1 := by simp only [List.length_cons]; omega
    rw [e, List.range_succ_eq_map]
    simp only [lexJ, gtDs]
    rw [lexJ_map]
    have e1 : eqAtJ (x :: a) (y :: b) 0 = eqD x y := rfl
    have e2 : gtAtJ (x :: a) (y :: b) 0 = gtD x y := rfl
    have e3 : (fun j => eqAtJ (x :: a) (y :: b) (j + 1)) = eqAtJ a b := by funext j; simp [eqAtJ]
    have e4 : (fun j => gtAtJ (x :: a) (y :: b) (j + 1)) = gtAtJ a b := by funext j; simp [gtAtJ]
    have e5 : decide ((y :: b).length < (x :: a).length) = decide (b.length < a.length) := by simp
    rw [e1, e2, e3, e4, e5, ih]
theorem cmpbs_at : ∀ {a b : List D} {j : Nat} {x y : D}, cmpbs a b = true → a[j]? = some x → b[j]? = some y → eqD x y = false → (∀ k, k < j → eqAtJ a b k = true) → cmpb x y = true
  | [], _, _, _, _, _, h, _, _, _ => by simp at h
  | _ :: _, [], _, _, _, _, _, h, _, _ => by simp at h
  | a :: as, b :: bs, 0, x, y, h, hx, hy, he, _ => by
    simp at hx hy
    subst hx hy
    simp only [cmpbs, he, Bool.false_eq_true, if_false] at h
    exact h
  | a :: as, b :: bs, j + 1, x, y, h, hx, hy, he, hp => by
    have h0 : eqD a b = true := hp 0 (Nat.succ_pos _)
    simp only [cmpbs, h0, if_true] at h
    exact cmpbs_at (j := j) h (by simpa using hx) (by simpa using hy) he fun k hk => by
      have := hp (k + 1) (by omega)
      simpa [eqAtJ] using this
section
variable {X : Cx} {pins : List (Addr × Obj)} {σ : L2.St} {H : Hp} {s : Shared}
theorem vget {xs : List V} {its : List Value} {ds : List D} (r : Reps X.K Any H xs ds) (v : Vals xs its) {j : Nat} (h : j < its.toArray.size) : ∃ (hd : j < ds.length) (x : V), Rep X.K Any H x ds[j] ∧ RelV x its.toArray[j] := by
  have l1 := v.length
  have l2 := r.length
  have hd : j < ds.length := by simp at h; omega
  obtain ⟨x, e1, r1⟩ := r.get (List.getElem?_eq_getElem hd)
  obtain ⟨u, e3, r3⟩ := v.get e1
  have g1 : its.toArray[j] = u := by
    obtain ⟨_, q⟩ := List.getElem?_eq_some_iff.mp e3
    simpa using q
  exact ⟨hd, x, r1, by rw [g1]; exact r3⟩
theorem gtAt_all (I : Inv X pins σ H s) (d : D) : ∀ (A : Around) (v v' : V) (u u' : Value) (d' : D), A.units + d.dep < cLine → Rep X.K Any H v d → RelV v u → Rep X.K Any H v' d' → RelV v' u' → D.eqb d = true → D.eqb d' = true → cmpb d d' = true → GtAt A s u u' (gtD d d') := by
  refine D.ind (P := fun d => ∀ (A : Around) (v v' : V) (u u' : Value) (d' : D), A.units + d.dep < cLine → Rep X.K Any H v d → RelV v u → Rep X.K Any H v' d' → RelV v' u' → D.eqb d = true → D.eqb d' = true → cmpb d d' = true → GtAt A s u u' (gtD d d')) ?_ ?_ ?_ ?_ ?_ ?_ ?_ ?_ d
  · intro A v v' u u' d' _ _ _ _ _ _ _ hc; simp [cmpb] at hc
  · intro b A v v' u u' d' _ _ _ _ _ _ _ hc; simp [cmpb] at hc
  · intro i A v v' u u' d' hu r ru r' ru' hb hb' hc
    cases d' with
    | int j =>
      cases r.intE; cases r'.intE
      obtain ⟨t, rfl⟩ := ru
      obtain ⟨t', rfl⟩ := ru'
      intro prog w E Q q
      exact P.gt_int (by simpa [gtD] using q)
    | _ => simp [cmpb] at hc
  · intro x A v v' u u' d' hu r ru r' ru' hb hb' hc
    cases d' with
    | str y =>
      cases r.strE.1; cases r'.strE.1
      obtain ⟨t, rfl⟩ := ru
      obtain ⟨t', rfl⟩ := ru'
      intro prog w E Q q
      exact P.gt_str (by simpa [gtD] using q)
    | _ => simp [cmpb] at hc
  · intro ds ih A v v' u u' d' hu r ru r' ru' hb hb' hc
    cases d' with
    | tup ds2 =>
      have hu' : A.units < cLine := by simp only [D.dep] at hu; omega
      have hbs : D.eqbs ds = true := by simpa only [D.eqb] using hb
      have hbs' : D.eqbs ds2 = true := by simpa only [D.eqb] using hb'
      have hcs : cmpbs ds ds2 = true := by simpa only [cmpb] using hc
      cases cm_of I r ru hb with
      | @tup a1 xs1 its1 _ e p rv rs =>
        cases cm_of I r' ru' hb' with
        | @tup a2 xs2 its2 _ e2 p2 rv2 rs2 =>
          have n1 : its1.toArray.size = ds.length := by rw [List.size_toArray, ← rv.length, rs.length]
          have n2 : its2.toArray.size = ds2.length := by rw [List.size_toArray, ← rv2.length, rs2.length]
          have dl : ∀ d ∈ ds, A.in1.units + d.dep < cLine := fun d hd => by
            have := deps_mem hd
            simp only [D.dep] at hu
            show A.units + 1 + d.dep < cLine
            omega
          have q := GtAt.tuples (A := A) (s := s) (g := gtAtJ ds ds2) p p2 hu' (elems (A := A) rs rs2 rv rv2 (fun d hd v v' u u' d' g1 g2 g3 g4 g5 g6 => eqAt_all I d A.in1 v v' u u' d' (dl d hd) g1 g2 g3 g4 g5 g6) hbs hbs') (fun j h1 h2 hj hpre => by
            obtain ⟨j1, x1, r1, v1⟩ := vget rs rv h1
            obtain ⟨j2, x2, r2, v2⟩ := vget rs2 rv2 h2
            have ee : eqAtJ ds ds2 j = eqD ds[j] ds2[j] := by unfold eqAtJ; rw [List.getElem?_eq_getElem j1, List.getElem?_eq_getElem j2]
            have eg : gtAtJ ds ds2 j = gtD ds[j] ds2[j] := by unfold gtAtJ; rw [List.getElem?_eq_getElem j1, List.getElem?_eq_getElem j2]
            rw [eg]
            exact ih _ (List.getElem_mem j1) A.in1 x1 x2 _ _ _ (dl _ (List.getElem_mem j1)) r1 v1 r2 v2 (eqbs_mem hbs (List.getElem_mem j1)) (eqbs_mem hbs' (List.getElem_mem j2))
              (cmpbs_at hcs (List.getElem?_eq_getElem j1) (List.getElem?_eq_getElem j2) (by rw [← ee]; exact hj) hpre))
          rw [n1, n2, ← gtDs_lex] at q
          simpa only [gtD] using q
    | _ => simp [cmpb] at hc
  · intro ds _ A v v' u u' d' _ _ _ _ _ _ _ hc; simp [cmpb] at hc
  · intro ds _ A v v' u u' d' _ _ _ _ _ _ _ hc; simp [cmpb] at hc
  · exact ⟨fun ks ds _ A v v' u u' d' _ _ _ _ _ _ _ hc => by simp [cmpb] at hc, fun ks ds _ A v v' u u' d' _ _ _ _ _ _ _ hc => by simp [cmpb] at hc⟩
end
section
variable {X : Cx} {K : PySem.W.Frag}
def GtC (a b : D) : Prop := D.eqb a = true ∧ D.eqb b = true ∧ a.dep ≤ 190 ∧ cmpb a b = true
instance (a b : D) : Decidable (GtC a b) := inferInstanceAs (Decidable (_ ∧ _))
def rGtD (K : PySem.W.Frag) : R2 := fun x y H Q => ∃ a b, Rep K Any H x a ∧ Rep K Any H y b ∧ GtC a b ∧ Q (.bl (gtD a b)) H
theorem op_gtD (hu : X.A.units + 200 < cLine) : OpR X (compareOp .Gt) (rGtD X.K) := by
  intro pins s σ H x y v u Q I rx ry ⟨a, b, ra, rb, ⟨ha, hb, hd, hc⟩, q⟩
  exact gtAt_all I a X.A x y v u b (by omega) ra rx rb ry ha hb hc X.prog X.w X.xe _ ⟨.bl _, H, I, rfl, q⟩
def gtR (a b : D) : Res D := must (GtC a b) (.ok (.bl (gtD a b)))
theorem od_gtD : OpS K (rGtD K) gtR := fun x y H a b d Q ra rb e q => by
  obtain ⟨h1, e2⟩ := must_inv e
  cases e2
  exact ⟨a, b, ra, rb, h1, q _ (sc_bl _)⟩
end
end M

set_option Elab.async false
set_option linter.all false
set_option maxRecDepth 100000
set_option maxHeartbeats 4000000
namespace M
open PySem PySem.Spec L2
open PyProof.Rows hiding St
/-! ### tuple(reversed(t)), t a tuple -/
theorem owner_rvo : Manifest.owners.lookup (String.ofList ['d', 'e', 's', 'r', 'e', 'v', 'e', 'r'].reverse) = some Manifest.sig_reversed := by kernel_rfl
theorem slot_rvo_next : PySem.Slot "reversed" "__next__" "reversed.__next__" :=
  .of (owner := "reversed") (n := "__next__") (by rw [typeLookup_type, builtinLookup_eq_fast]; kernel_rfl) (by decide +kernel) (by decide +kernel) (by decide +kernel)
    (by first | exact .inl (by decide +kernel) | exact .inr (by decide +kernel)) (by rw [isSubtype_type]; kernel_rfl)
theorem entry_rvo_next : entryFor table "reversed.__next__" = some Builtin.«reversed.__next__» := entryFor_of_tree (by kernel_rfl)
theorem args_rvo_next (a : Value) : argsOk "reversed.__next__" ⟨[a], []⟩ := by
  unfold argsOk; rw [signature?_of (id := "reversed.__next__") (n := ['_', '_', 't', 'x', 'e', 'n', '_', '_']) (o := ['d', 'e', 's', 'r', 'e', 'v', 'e', 'r']) (by kernel_rfl) owner_rvo]; kernel_rfl
theorem slot_rvo_iter : PySem.Slot "reversed" "__iter__" "reversed.__iter__" :=
  .of (owner := "reversed") (n := "__iter__") (by rw [typeLookup_type, builtinLookup_eq_fast]; kernel_rfl) (by decide +kernel) (by decide +kernel) (by decide +kernel)
    (by first | exact .inl (by decide +kernel) | exact .inr (by decide +kernel)) (by rw [isSubtype_type]; kernel_rfl)
theorem args_rvo_iter (a : Value) : argsOk "reversed.__iter__" ⟨[a], []⟩ := by
  unfold argsOk; rw [signature?_of (id := "reversed.__iter__") (n := ['_', '_', 'r', 'e', 't', 'i', '_', '_']) (o := ['d', 'e', 's', 'r', 'e', 'v', 'e', 'r']) (by kernel_rfl) owner_rvo]; kernel_rfl
theorem entry_rvo_iter : entryFor table "reversed.__iter__" = some Builtin.«dict_keyiterator.__iter__» :=
  entryFor_alias (id' := "dict_keyiterator.__iter__") (by kernel_rfl) (by first | rfl | decide +kernel | (unfold String.splitOn; simp +decide [String.splitOnAux])) (by decide +kernel) (by kernel_rfl)
theorem slot_rvo_init : PySem.Slot "reversed" "__init__" "object.__init__" :=
  .of (owner := "object") (n := "__init__") (by rw [typeLookup_type, builtinLookup_eq_fast]; kernel_rfl) (by decide +kernel) (by decide +kernel) (by decide +kernel)
    (by first | exact .inl (by decide +kernel) | exact .inr (by decide +kernel)) (by rw [isSubtype_type]; kernel_rfl)
theorem called_rvo : TypeCalled "reversed" "reversed.__new__" "object.__init__" :=
  ⟨by decide +kernel, F.create_reversed, ⟨_, _, F.mro_reversed⟩, F.made_reversed, F.plain_reversed_new, F.sub_reversed_self, slot_rvo_init⟩
theorem norev_tuple : typeLookup (.type "tuple") "__reversed__" = pure none := by rw [typeLookup_type, builtinLookup_eq_fast]; kernel_rfl
theorem sub_tuple_dict : isSubtype (.type "tuple") (.type "dict") = pure false := by rw [isSubtype_type]; kernel_rfl
theorem rvo_nolen : typeLookup (.type "reversed") "__len__" = pure none := by rw [typeLookup_type, builtinLookup_eq_fast]; kernel_rfl
theorem rvo_haslh : typeLookup (.type "reversed") "__length_hint__" = pure (some (.builtin "reversed.__length_hint__")) := by rw [typeLookup_type, builtinLookup_eq_fast]; kernel_rfl
def rvoObj (t : Addr) (i : Int) : Obj := { cls := .type "reversed", data := .fields #[.ref t, rawInt i] }
section
variable {prog : Program} {w : World} {A : Around} {E : Value → Shared → Prop} {s : Shared}
theorem meets_rvo_new (t : Addr) (items : Array Value) (hz : (items.size : Int) < 2 ^ 63) :
    PySem.Meets (Builtin.«reversed.__new__» ⟨[.type "reversed", .ref t], []⟩) (fun _ R s => IsTup s.heap t items ∧
      R (.ok (.ret (.ref s.heap.objs.size))) { s with heap := s.heap.push (rvoObj t ((items.size : Int) - 1)), toks := s.toks + 1 + 1 }) :=
  .of_wp fun prog w A R s h => by
    obtain ⟨ht, h⟩ := h
    unfold Builtin.«reversed.__new__»
    refine wpAny_bind (wpAny_of_eq (newClass_reversed _) ?_)
    try dsimp only
    refine wpAny_bind (wpAny_of_eq (a := ()) (by first | rfl | kernel_rfl) ?_)
    refine wpAny_bind (wpAny_of_eq (a := ()) (by first | rfl | kernel_rfl) ?_)
    try dsimp only
    refine wpAny_bind (wpAny_specialOf ht.typeIs norev_tuple ?_)
    try dsimp only
    refine wpAny_bind ?_
    show wpAny _ _ (isInstance (.ref t) (.type "dict") >>= _) _ _ _
    refine wpAny_bind (wpAny_isInstance (T := "tuple") (b := false) ht.typeIs sub_tuple_dict ?_)
    rw [if_neg Bool.false_ne_true]
    show wpAny _ _ (specialOf (.ref t) (Str.ofString "__getitem__") >>= _) _ _ _
    refine wpAny_bind (wpAny_specialOf ht.typeIs slot_tuple_getitem.lookup ?_)
    dsimp only
    rw [if_pos (by decide)]
    refine wpAny_pure ?_
    rw [if_neg (by decide)]
    refine wpAny_bind (len_tuple ht hz ?_)
    refine wpAny_bind (wpAny_of_eq (a := some (items.size : Int)) rfl ?_)
    dsimp only
    refine wpAny_bind ?_
    unfold Builtin.SmallTypes.newRecord
    refine wpAny_newObj_type ?_ (by size_fits)
    exact wpAny_pure ⟨_, rfl, h⟩
def IsRvo (h : Heap) (a t : Addr) (i : Int) : Prop := h.get? a = some (rvoObj t i)
theorem call_rvo {t : Addr} {items : Array Value} {Q : Value → Shared → Prop} (ht : IsTup s.heap t items) (hz : (items.size : Int) < 2 ^ 63)
    (h : Q (.ref s.heap.objs.size) { s with heap := s.heap.push (rvoObj t ((items.size : Int) - 1)), toks := s.toks + 1 + 1 }) : wpAny (model prog w) A (call (.type "reversed") [.ref t]) Q E s :=
  callType_new called_rvo (by decide) (F.typeCall_reversed_1 _) (F.newCall_reversed_1 _) (fun obj => F.args_object_init_2 obj _) F.entry_reversed_new (meets_rvo_new t items hz) ⟨ht, ⟨_, Heap.get?_push_size _ rfl, rfl⟩, h⟩
theorem rvo_next_item {it t : Addr} {i : Nat} {items : Array Value} {x : Value} {Q : Option Value → Shared → Prop} (hit : IsRvo s.heap it t (i : Int)) (ht : IsTup s.heap t items) (hx : items[i]? = some x) (hz : (items.size : Int) < 2 ^ 63)
    (hQ : ∀ h' tk, IsRvo h' it t ((i : Int) - 1) → Heap.SameBut it s.heap h' → Q (some x) { s with heap := h', toks := tk }) : wpAny (model prog w) A (pyNext (.ref it)) Q E s := by
  have hT : s.TypeIs (.ref it) "reversed" := ⟨_, hit, rfl⟩
  have hi : i < items.size := (Array.getElem?_eq_some_iff.mp hx).1
  unfold pyNext
  refine wpAny_bind (wpAny_attempt (wpAny_callSpecial?_slot (name := Str.ofString "__next__") hT slot_rvo_next
    (wpAny_call_entry slot_rvo_next hT entry_rvo_next ?_ (args_rvo_next _))))
  unfold Builtin.«reversed.__next__»
  refine wpAny_bind (wpAny_of_eq (a := (Value.ref it, [])) rfl ?_)
  try dsimp only
  refine wpAny_bind (wpAny_field hit rfl (x := .ref t) rfl ?_)
  refine wpAny_bind (wpAny_field hit rfl (x := rawInt (i : Int)) rfl ?_)
  show wpAny _ _ (if (i : Int) < 0 then _ else _) _ _ s
  rw [if_neg (by omega)]
  show wpAny _ _ (specialOf (.ref t) (Str.ofString "__getitem__") >>= _) _ _ _
  refine wpAny_bind (wpAny_specialOf ht.typeIs slot_tuple_getitem.lookup ?_)
  rw [if_neg (by simp)]
  refine wpAny_bind (wpAny_mkInt ?_)
  have hj : seqIndex? (i : Int) items.size = some i := by
    unfold seqIndex?
    have h1 : ¬ ((i : Int) < 0) := by omega
    simp [h1, hi]
  refine wpAny_bind (wpAny_attempt (getItem_tuple (s := { s with toks := s.toks + 1 }) ht (by omega) (by omega) hj hx ?_))
  dsimp only
  refine wpAny_bind (wpAny_field (s := { s with toks := s.toks + 1 }) hit rfl (x := rawInt (i : Int)) rfl ?_)
  show wpAny _ _ (setField (.ref it) 1 (rawInt ((i : Int) - 1)) >>= _) _ _ _
  refine wpAny_bind (wpAny_setField_rec (s := { s with toks := s.toks + 1 }) hit (by simp) fun h' he hs => ?_)
  exact wpAny_pure ⟨_, rfl, wpAny_pure (hQ h' _ he hs)⟩
theorem rvo_next_end {it t : Addr} {Q : Option Value → Shared → Prop} (hh : A.handled = none) (hit : IsRvo s.heap it t (-1))
    (hQ : ∀ h', Heap.ExtBut it s.heap h' → Q none { s with heap := h' }) : wpAny (model prog w) A (pyNext (.ref it)) Q E s := by
  have hT : s.TypeIs (.ref it) "reversed" := ⟨_, hit, rfl⟩
  unfold pyNext
  refine wpAny_bind (wpAny_attempt (wpAny_callSpecial?_slot (name := Str.ofString "__next__") hT slot_rvo_next
    (wpAny_call_entry slot_rvo_next hT entry_rvo_next ?_ (args_rvo_next _))))
  unfold Builtin.«reversed.__next__»
  refine wpAny_bind (wpAny_of_eq (a := (Value.ref it, [])) rfl ?_)
  try dsimp only
  refine wpAny_bind (wpAny_field hit rfl (x := .ref t) rfl ?_)
  refine wpAny_bind (wpAny_field hit rfl (x := rawInt (-1)) rfl ?_)
  show wpAny _ _ (if (-1 : Int) < 0 then _ else _) _ _ s
  rw [if_pos (by decide)]
  refine wpAny_bind (wpAny_rule ?_)
  refine wpAny_bind ?_
  show wpAny _ _ (setField (.ref it) 1 (rawInt (-1)) >>= _) _ _ _
  refine wpAny_bind (wpAny_setField_rec hit (by simp) fun h1 he1 hs1 => ?_)
  refine wpAny_setField_rec (s := { s with heap := h1 }) he1 (by simp) fun h2 he2 hs2 => ?_
  refine wpAny_bind ?_
  show wpAny _ _ (newExc (.type "StopIteration") [] >>= _) _ _ _
  refine wpAny_bind ?_
  simp only [newExc, newTuple]
  refine wpAny_bind (wpAny_newObj_type ?_ (by size_fits))
  refine wpAny_bind (m := firstArgMember _ _) (wpAny_of_eq (a := Value.none) (by first | rfl | (simp only [firstArgMember]; rfl)) ?_)
  refine wpAny_newObj_type ?_ (by size_fits)
  simp only [raiseNew]
  refine wpAny_bind (wpAny_handled ?_)
  first | rw [show A.in1.handled = none from hh] | rw [hh]
  refine wpAny_bind (wpAny_pure (wpAny_throw ?_))
  refine wpAny_bind (wpAny_isInstance (T := "StopIteration") (b := true) ⟨_, Heap.get?_push_size _ rfl, rfl⟩ isSubtype_stop ?_)
  refine wpAny_pure (hQ _ fun b o hb e => ?_)
  exact Heap.get?_push_of_some _ (Heap.get?_push_of_some _ (hs2.extBut b o hb (hs1.extBut b o hb e)))
theorem rvo_iter {it t : Addr} {i : Int} {Q : Value → Shared → Prop} (hit : IsRvo s.heap it t i) (h : Q (.ref it) s) : wpAny (model prog w) A (pyIter (.ref it)) Q E s := by
  have hT : s.TypeIs (.ref it) "reversed" := ⟨_, hit, rfl⟩
  refine wpAny_pyIter_slot hT slot_rvo_iter (wpAny_call_entry slot_rvo_iter hT entry_rvo_iter ?_ (args_rvo_iter _))
  show wpAny _ _ (ret (.ref it)) _ _ s
  exact wpAny_pure ⟨_, rfl, "reversed", _, hT, slot_rvo_next.lookup, h⟩
theorem slot_rvo_hint : PySem.Slot "reversed" "__length_hint__" "reversed.__length_hint__" :=
  .of (owner := "reversed") (n := "__length_hint__") (by rw [typeLookup_type, builtinLookup_eq_fast]; kernel_rfl) (by decide +kernel) (by decide +kernel) (by decide +kernel)
    (by first | exact .inl (by decide +kernel) | exact .inr (by decide +kernel)) (by rw [isSubtype_type]; kernel_rfl)
theorem entry_rvo_hint : entryFor table "reversed.__length_hint__" = some Builtin.«reversed.__length_hint__» := entryFor_of_tree (by kernel_rfl)
theorem args_rvo_hint (a : Value) : argsOk "reversed.__length_hint__" ⟨[a], []⟩ := by
  unfold argsOk; rw [signature?_of (id := "reversed.__length_hint__") (n := ['_', '_', 't', 'n', 'i', 'h', '_', 'h', 't', 'g', 'n', 'e', 'l', '_', '_']) (o := ['d', 'e', 's', 'r', 'e', 'v', 'e', 'r']) (by kernel_rfl) owner_rvo]; kernel_rfl
theorem rvo_hint {r t : Addr} {items : Array Value} {Q : Bool → Shared → Prop} (hit : IsRvo s.heap r t ((items.size : Int) - 1)) (ht : IsTup s.heap t items) (hz : items.size ≤ sizeLine)
    (h : ∀ b tk, s.toks ≤ tk → Q b { s with toks := tk }) : wpAny (model prog w) A (Builtin.List.listLengthHint (.ref r)) Q E s := by
  have hT : s.TypeIs (.ref r) "reversed" := ⟨_, hit, rfl⟩
  have hz2 : (items.size : Int) < 2 ^ 63 := by have : sizeLine ≤ 2 ^ 40 := by decide
                                               omega
  unfold Builtin.List.listLengthHint
  refine wpAny_bind (wpAny_specialOf hT rvo_nolen ?_)
  show wpAny _ A (specialOf (Value.ref r) (Str.ofString "__length_hint__") >>= _) _ _ _
  refine wpAny_bind (wpAny_specialOf hT rvo_haslh ?_)
  generalize hid : ("reversed.__length_hint__" : String) = id0
  wp_delta
  rw [show splitId id0 = some ("reversed", "__length_hint__") from by subst hid; decide +kernel]
  subst hid
  refine wpAny_bind (wpAny_isInstance (b := true) hT (by rw [isSubtype_type]; kernel_rfl) ?_)
  rw [if_neg (by decide)]
  rw [if_neg (by decide)]
  refine wpAny_bind (wpAny_rule ?_)
  refine wpAny_bind (wpAny_of_eq (slot_rvo_hint.bind _) ?_)
  dsimp only
  refine wpAny_bind (wpAny_attempt (wpAny_call_entry slot_rvo_hint hT entry_rvo_hint ?_ (args_rvo_hint _)))
  unfold Builtin.«reversed.__length_hint__»
  refine wpAny_bind (wpAny_of_eq (a := Value.ref r) rfl ?_)
  refine wpAny_bind (wpAny_field hit rfl (x := .ref t) rfl ?_)
  rw [if_neg (show ¬ ((Value.ref t == Value.none) = true) from Bool.false_ne_true)]
  refine wpAny_bind (len_tuple ht hz2 ?_)
  refine wpAny_bind (wpAny_of_eq (a := some (items.size : Int)) rfl ?_)
  dsimp only
  refine wpAny_bind (wpAny_field (s := { s with toks := s.toks + 1 + 1 }) hit rfl (x := rawInt ((items.size : Int) - 1)) rfl ?_)
  show wpAny _ _ (if (items.size : Int) < (items.size : Int) - 1 + 1 then _ else _) _ _ _
  rw [if_neg (by omega)]
  refine wpAny_bind (wpAny_mkInt (wpAny_pure ⟨_, rfl, ?_⟩))
  dsimp only
  refine wpAny_bind (wpAny_of_eq (a := some ((items.size : Int) - 1 + 1)) rfl ?_)
  dsimp only
  have e : (items.size : Int) - 1 + 1 = (items.size : Int) := by omega
  rw [e]
  have f1 : Builtin.List.listFitsIndex (items.size : Int) = true := by
    unfold Builtin.List.listFitsIndex
    simp
    omega
  have f2 : Builtin.List.listTooLong (items.size : Int).toNat = false := by
    unfold Builtin.List.listTooLong
    exact decide_eq_false (by omega)
  simp only [f1, f2, Bool.not_true, Bool.false_eq_true, if_false]
  rw [if_neg (by omega)]
  exact wpAny_pure (h _ _ (by omega))
theorem Walks.rvo (hh : A.handled = none) (I t : Addr) (hne : t ≠ I) (items : Array Value) (hz : (items.size : Int) < 2 ^ 63) :
    Walks prog w A I [I, t] [I] items.size (fun i v => items[items.size - 1 - i]? = some v) (fun i h => i ≤ items.size ∧ IsRvo h I t ((items.size : Int) - 1 - (i : Int)) ∧ IsTup h t items) where
  sub := fun b hb => by simp at hb; simp [hb]
  frame := fun _ _ _ x hk => ⟨x.1, hk I (by simp) _ x.2.1, let ⟨o, ho, r⟩ := x.2.2; ⟨o, hk t (by simp) o ho, r⟩⟩
  item := fun i s Q E hi x hQ => by
    have e : (items.size : Int) - 1 - (i : Int) = ((items.size - 1 - i : Nat) : Int) := by omega
    have hit := x.2.1
    rw [e] at hit
    have hx : items[items.size - 1 - i]? = some (items[items.size - 1 - i]'(by omega)) := Array.getElem?_eq_getElem (by omega)
    refine rvo_next_item hit x.2.2 hx hz fun h' tk hit' hs' => ?_
    have e2 : ((items.size - 1 - i : Nat) : Int) - 1 = (items.size : Int) - 1 - ((i + 1 : Nat) : Int) := by omega
    rw [e2] at hit'
    exact hQ _ h' tk hx ⟨hi, hit', let ⟨o, ho, r⟩ := x.2.2; ⟨o, (hs'.2 t hne).trans ho, r⟩⟩ fun b o hb eo => hs'.extBut b o (fun h => hb (by simp [h])) eo
  done := fun s Q E x hQ => by
    have e : (items.size : Int) - 1 - (items.size : Int) = -1 := by omega
    have hit := x.2.1
    rw [e] at hit
    exact rvo_next_end hh hit fun h' he' => hQ h' s.toks fun b o hb eo => he' b o (fun h => hb (by simp [h])) eo
  self := fun _ _ _ _ x hQ => rvo_iter x.2.1 hQ
theorem collect_rvo {I t : Addr} {items : Array Value} {Q : List Value → Shared → Prop} (hh : A.handled = none) (hit : IsRvo s.heap I t ((items.size : Int) - 1)) (ht : IsTup s.heap t items) (hne : t ≠ I) (hz : items.size ≤ sizeLine)
    (hQ : ∀ h' tk acc, s.heap.objs.size < h'.objs.size → (∀ b o, b ≠ I → s.heap.get? b = some o → h'.get? b = some o) → ItemsOf (fun i v => items[items.size - 1 - i]? = some v) acc items.size → Q acc.toList { s with heap := h', toks := tk }) : wpAny (model prog w) A (collect (.ref I)) Q E s := by
  have hz2 : (items.size : Int) < 2 ^ 63 := by have : sizeLine ≤ 2 ^ 40 := by decide
                                               omega
  have W := (Walks.rvo (prog := prog) (w := w) (A := A.in1) hh I t hne items hz2).toS
  have hIlt : I < s.heap.objs.size := Heap.lt_size hit
  have htlt : t < s.heap.objs.size := by obtain ⟨o, ho, _⟩ := ht; exact Heap.lt_size ho
  have hSf : s.heap.objs.size ∉ [I, t] := by
    intro hm
    simp only [List.mem_cons, List.not_mem_nil, or_false] at hm
    rcases hm with e | e
    · exact Nat.lt_irrefl _ (e ▸ hIlt)
    · exact Nat.lt_irrefl _ (e ▸ htlt)
  have hSI : s.heap.objs.size ≠ I := Nat.ne_of_gt hIlt
  have hst : (fun i (s : Shared) => i ≤ items.size ∧ IsRvo s.heap I t ((items.size : Int) - 1 - (i : Int)) ∧ IsTup s.heap t items) 0 s := ⟨Nat.zero_le _, by simpa using hit, ht⟩
  unfold collect
  refine wpAny_bind (wpAny_runValue (codeAny_builtin F.entry_proto_collect ?_))
  rw [Around.under_plainId F.plain_proto_collect _]
  show wpAny _ A.in1 (newList [] >>= fun l => again (.builtin "list.__iadd__" ⟨[l, .ref I], []⟩)) _ _ s
  refine wpAny_bind (wpAny_newObj_type ?_)
  refine wpAny_pure ⟨plainId_quiet F.plain_list_iadd _, codeAny_builtin F.entry_list_iadd ?_⟩
  rw [Around.under_plainId F.plain_list_iadd _]
  have hst1 := W.frame 0 s (s.heap.push { cls := .type "list", data := .seq ([] : List Value).toArray }) s.toks hst (Nat.le_refl _) fun b _ o e => Heap.get?_push_of_some _ e
  have hS1 : (s.heap.push { cls := .type "list", data := .seq ([] : List Value).toArray }).get? s.heap.objs.size = some { cls := .type "list", data := .seq ([] : List Value).toArray } := Heap.get?_push_size _ rfl
  have hit1 : IsRvo (s.heap.push { cls := .type "list", data := .seq ([] : List Value).toArray }) I t ((items.size : Int) - 1) := Heap.get?_push_of_some _ hit
  have ht1 : IsTup (s.heap.push { cls := .type "list", data := .seq ([] : List Value).toArray }) t items := let ⟨o, ho, r⟩ := ht; ⟨o, Heap.get?_push_of_some _ ho, r⟩
  show wpAny _ A.in1 (Builtin.List.listExtendWith (.ref s.heap.objs.size) (.ref I) (.ref s.heap.objs.size)) _ _ _
  unfold Builtin.List.listExtendWith
  refine wpAny_bind (wpAny_typeOf (T := "reversed") ⟨_, hit1, rfl⟩ ?_)
  have h1 : Builtin.List.listSameRef (.ref s.heap.objs.size) (.ref I) = false := by simp [Builtin.List.listSameRef, hSI]
  have h2 : (Value.type "reversed" == Value.type "list") = false := by decide
  have h3 : (Value.type "reversed" == Value.type "tuple") = false := by decide
  simp only [h1, h2, h3, Bool.or_false, Bool.false_eq_true, if_false]
  refine wpAny_bind (rvo_iter (s := { s with heap := s.heap.push { cls := .type "list", data := .seq ([] : List Value).toArray } }) hit1 ?_)
  refine wpAny_bind (wpAny_holding (rvo_hint (s := { s with heap := s.heap.push { cls := .type "list", data := .seq ([] : List Value).toArray } }) hit1 ht1 hz fun b tk htk => ?_))
  have fin : ∀ (h : Heap) (c : Nat), (∀ b o, b ≠ s.heap.objs.size → (s.heap.push { cls := .type "list", data := .seq ([] : List Value).toArray }).get? b = some o → h.get? b = some o) → h.get? s.heap.objs.size = some { cls := .type "list", data := .seq #[] c } →
      codeAny (model prog w) A (.builtin "list.extend.loop" ⟨[.ref s.heap.objs.size, .ref I, .ref s.heap.objs.size], []⟩) (fun r s' => match r with
        | .ok (.ret v) => wpAny (model prog w) A (match v with
            | Value.ref a => do
              match (← load a).data with
                | Data.seq xs _ => pure xs.toList
                | _ => unsupported "internal:collect"
            | _ => unsupported "internal:collect") Q E s'
        | .ok _ => False
        | .error e => E e s') { s with heap := h, toks := tk } := by
    intro h c oth hS
    have hst2 : (fun i (s : Shared) => i ≤ items.size ∧ IsRvo s.heap I t ((items.size : Int) - 1 - (i : Int)) ∧ IsTup s.heap t items) 0 ({ s with heap := h, toks := tk } : Shared) :=
      ⟨Nat.zero_le _, by
        have := oth I _ (Ne.symm hSI) hit1
        simpa [IsRvo] using this, let ⟨o, ho, r⟩ := ht1; ⟨o, oth t o (Nat.ne_of_lt htlt) ho, r⟩⟩
    refine codeAny_extend_loopS W hz _ hSf _ items.size 0 _ #[] c rfl (Nat.zero_le _) hst2 hS (ItemsOf.nil _) fun s' acc' c' hm hS' hacc => ?_
    show wpAny _ A (load s.heap.objs.size >>= _) _ _ s'
    refine wpAny_bind (wpAny_load hS' ?_)
    rw [Moved.eq_with hm]
    refine wpAny_pure (hQ s'.heap s'.toks acc' (Heap.lt_size hS') (fun b o hb e => ?_) hacc)
    have hbs : b ≠ s.heap.objs.size := Nat.ne_of_lt (Heap.lt_size e)
    refine hm.heap b o (fun hmem => ?_) (oth b o hbs (Heap.get?_push_of_some _ e))
    simp only [List.mem_cons, List.not_mem_nil, or_false] at hmem
    rcases hmem with z | z
    · exact hbs z
    · exact hb z
  refine wpAny_ite_split (fun _ => ?_) (fun _ => ?_)
  · refine wpAny_bind (wpAny_rule ?_)
    refine wpAny_bind ?_
    show wpAny _ A.in1 (updateSeq s.heap.objs.size (·.push .none) >>= fun _ => updateSeq s.heap.objs.size (·.pop)) _ _ _
    refine wpAny_bind (wpAny_updateSeq (s := { s with heap := s.heap.push { cls := .type "list", data := .seq ([] : List Value).toArray }, toks := tk }) hS1 rfl ?_)
    have hS2 := Heap.get?_update_self (Obj.mapSeq (·.push Value.none)) hS1 rfl
    refine wpAny_updateSeq hS2 rfl ?_
    have hS3 := Heap.get?_update_self (Obj.mapSeq (·.pop)) hS2 rfl
    exact wpAny_pure ⟨plainId_quiet F.plain_extend_loop _, fin _ _ (fun b o hb e => (Heap.get?_update_other _ _ (Ne.symm hb)).trans ((Heap.get?_update_other _ _ (Ne.symm hb)).trans e)) hS3⟩
  · exact wpAny_pure ⟨plainId_quiet F.plain_extend_loop _, fin _ _ (fun b o _ e => e) hS1⟩
theorem meets_tuple_rvo (I t : Addr) (items : Array Value) (hne : t ≠ I) (hz : items.size ≤ sizeLine) :
    PySem.Meets (Builtin.«tuple.__new__» ⟨[.type "tuple", .ref I], []⟩)
      (fun A R s => A.handled = none ∧ IsRvo s.heap I t ((items.size : Int) - 1) ∧ IsTup s.heap t items ∧ ∀ (h' : Heap) (tk : Nat) (acc : Array Value), s.heap.objs.size < h'.objs.size → (∀ b o, b ≠ I → s.heap.get? b = some o → h'.get? b = some o) → ItemsOf (fun i v => items[items.size - 1 - i]? = some v) acc items.size →
        R (.ok (.ret (.ref h'.objs.size))) { s with heap := h'.push { cls := .type "tuple", data := .seq acc }, toks := tk }) :=
  .of_wp fun prog w A R s h => by
    obtain ⟨hh, hit, ht, h⟩ := h
    have hsub := sub_tuple_self
    have hinit := init_tuple_lookup
    have hmh := madeHere_tuple
    have hT : s.TypeIs (.ref I) "reversed" := ⟨_, hit, rfl⟩
    have hh1 : A.in1.handled = none := hh
    wp_walk using wpAny_typeOf hT, collect_rvo hh1 hit ht hne hz
    intro h' tk acc hlt hk hacc
    show wpAny _ _ (Builtin.Tuple.tupleExact acc.toList.toArray >>= fun v => ret v) _ _ _
    unfold Builtin.Tuple.tupleExact
    refine wpAny_bind (wpAny_newObj_type ?_ (show acc.toList.toArray.size ≤ sizeLine by simp only [Array.toArray_toList]; rw [hacc.1]; exact hz))
    refine wpAny_pure ⟨_, rfl, ?_⟩
    have e : acc.toList.toArray = acc := by simp
    rw [e]
    exact h h' tk acc hlt hk hacc
theorem call_tuple_rvo {I t : Addr} {items : Array Value} {Q : Value → Shared → Prop} (hh : A.handled = none) (hit : IsRvo s.heap I t ((items.size : Int) - 1)) (ht : IsTup s.heap t items) (hne : t ≠ I) (hz : items.size ≤ sizeLine)
    (h : ∀ (h' : Heap) (tk : Nat) (acc : Array Value), s.heap.objs.size < h'.objs.size → (∀ b o, b ≠ I → s.heap.get? b = some o → h'.get? b = some o) → ItemsOf (fun i v => items[items.size - 1 - i]? = some v) acc items.size → Q (.ref h'.objs.size) { s with heap := h'.push { cls := .type "tuple", data := .seq acc }, toks := tk }) :
    wpAny (model prog w) A (call (.type "tuple") [.ref I]) Q E s :=
  callType_new F.called_tuple (by decide) (F.typeCall_tuple_1 _) (F.newCall_tuple_1 _) (fun obj => F.args_object_init_2 obj _) F.entry_tuple_new
    (meets_tuple_rvo I t items hne hz) ⟨hh, hit, ht, fun h' tk acc hlt hk hacc => ⟨⟨_, Heap.get?_push_size _ rfl, rfl⟩, h h' tk acc hlt hk hacc⟩⟩
end
section
variable {X : Cx} {e : Expr} {te : TE} {p p2 pos pos2 : Pos}
theorem pe_tupRev (hc : X.calm = true) (hg1 : Gl X "tuple") (hm1 : X.mg "tuple" = none) (hg2 : Gl X "reversed") (hm2 : X.mg "reversed" = none) (he : PE X e te)
    (s1 : starEach [.Call (.Name "reversed" p2) [e] [] pos2] X.env = [(false, eval (.Call (.Name "reversed" p2) [e] [] pos2) X.env)]) (s2 : starEach [e] X.env = [(false, eval e X.env)]) :
    PE X (.Call (.Name "tuple" p) [.Call (.Name "reversed" p2) [e] [] pos2] [] pos) (fun σ H Q => te σ H fun x H1 => ∃ a xs, x = .ref a ∧ SqT X.K H1 a xs ∧ ∀ l, H1 l = none → Q (.ref l) (upd H1 l (.tup xs.reverse))) := by
  intro pins s σ H Q I h
  refine wpAny_Call_Name_kw (ld_blt I hg1 hm1 PyProof.Rows.boot_tuple (PyProof.Rows.callWith_type1 ?_ (by rw [s1]; rfl) rfl) (by decide) (by decide))
  rw [s1]
  show wpAny _ _ (spliced [(false, eval (.Call (.Name "reversed" p2) [e] [] pos2) X.env)]) _ _ s
  refine Calls.spliced_cons (wpAny_Call_Name_kw (ld_blt I hg2 hm2 boot_rev (PyProof.Rows.callWith_type1 ?_ (by rw [s2]; rfl) rfl) (by decide) (by decide)))
  rw [s2]
  show wpAny _ _ (spliced [(false, eval e X.env)]) _ _ s
  refine Calls.spliced_cons (thn (he pins s σ H _ I h) fun u t ⟨x, H1, I1, r1, a, xs, ex, hq, q⟩ => Calls.spliced_nil ?_)
  subst ex
  obtain rfl : u = Value.ref a := r1
  obtain ⟨its, rv, pl, hz⟩ := I1.tuple hq
  have hlen := rv.length
  have hsz : its.toArray.size ≤ sizeLine := by rw [List.size_toArray]; omega
  have hz2 : (its.toArray.size : Int) < 2 ^ 63 := by have : sizeLine ≤ 2 ^ 40 := by decide
                                                     omega
  have hal : a < t.heap.objs.size := by obtain ⟨o, ho, _⟩ := pl; exact Heap.lt_size ho
  refine call_rvo pl hz2 (Calls.spliced_nil ?_)
  have hit : IsRvo (t.heap.push (rvoObj a ((its.toArray.size : Int) - 1))) t.heap.objs.size a ((its.toArray.size : Int) - 1) := Heap.get?_push_size _ rfl
  have ht : IsTup (t.heap.push (rvoObj a ((its.toArray.size : Int) - 1))) a its.toArray := let ⟨o, ho, r⟩ := pl; ⟨o, Heap.get?_push_of_some _ ho, r⟩
  refine call_tuple_rvo (s := { t with heap := t.heap.push (rvoObj a ((its.toArray.size : Int) - 1)), toks := t.toks + 1 + 1 }) (by exact I1.ok.hd hc) hit ht (Nat.ne_of_lt hal) hsz fun h' tk acc hlt hk hacc => ?_
  have hlt2 : t.heap.objs.size ≤ h'.objs.size := by
    have e1 : (t.heap.push (rvoObj a ((its.toArray.size : Int) - 1))).objs.size = t.heap.objs.size + 1 := Heap.size_push ..
    have hlt' : (t.heap.push (rvoObj a ((its.toArray.size : Int) - 1))).objs.size < h'.objs.size := hlt
    rw [e1] at hlt'
    exact Nat.le_of_lt (Nat.lt_of_succ_lt hlt')
  have kp : ∀ b o, t.heap.get? b = some o → (h'.push { cls := .type "tuple", data := .seq acc }).get? b = some o := fun b o eo =>
    Heap.get?_push_of_some _ (hk b o (Nat.ne_of_lt (Heap.lt_size eo)) (Heap.get?_push_of_some _ eo))
  have hv : Vals xs.reverse acc.toList := rev_vals rv (by rw [Array.length_toList, hacc.1, List.size_toArray]) fun i v hi => by
    have := hacc.2 i v (by rw [← Array.getElem?_toList]; exact hi)
    simpa using this
  refine ⟨.ref _, _, I1.laid (t' := tk) kp hlt2 (show ObjOk X.prog X.w _ (h'.push { cls := .type "tuple", data := .seq acc }) _ (.tup xs.reverse) from ⟨by rw [List.length_reverse]; omega, acc.toList, hv, ⟨_, Heap.get?_push_size _ rfl, rfl, 0, by simp⟩⟩), rfl, q _ (I1.hok.fresh hlt2)⟩
def revTF (f : Sl → Res D) : Sl → Res D := fun env => f env >>= fun d => match d with
  | .tup ds => .ok (.tup ds.reverse)
  | _ => .stuck
theorem de_tupRev {f : Sl → Res D} (hc : X.calm = true) (hg1 : Gl X "tuple") (hm1 : X.mg "tuple" = none) (hg2 : Gl X "reversed") (hm2 : X.mg "reversed" = none) (he : DE X .s e f)
    (s1 : starEach [.Call (.Name "reversed" p2) [e] [] pos2] X.env = [(false, eval (.Call (.Name "reversed" p2) [e] [] pos2) X.env)] := by rfl) (s2 : starEach [e] X.env = [(false, eval e X.env)] := by rfl) :
    DE X .t (.Call (.Name "tuple" p) [.Call (.Name "reversed" p2) [e] [] pos2] [] pos) (revTF f) := by
 with_unfolding_all exact (
  PE.imp (pe_tupRev hc hg1 hm1 hg2 hm2 he s1 s2) fun σ H Q ⟨G, H0, env, d, k, ef, q⟩ => by
    obtain ⟨a', e1, e2⟩ := bind_inv ef
    refine ⟨G, H0, env, a', k, e1, fun x H1 h1 r1 _ => ?_⟩
    cases a' with
    | tup ds =>
      cases e2
      obtain ⟨a, xs, rfl, ha, r⟩ := r1.tupE
      refine ⟨a, xs, rfl, .of ha, fun l hl => q _ _ (h1.trans (Same.upd hl)) (.tup upd_same (r.rev.grow (Same.upd hl))) (new_top h1 hl)⟩
    | _ => cases e2)
end
end M

set_option Elab.async false
set_option linter.all false
set_option maxRecDepth 100000
set_option maxHeartbeats 4000000
namespace M
open PySem PySem.Spec L2
/-! ### terms: a number, or a text and up to three terms -/
mutual
def tm : D → Bool
  | .int _ => true
  | .tup (.str _ :: ts) => decide (ts.length ≤ 3) && tms ts
  | _ => false
def tms : List D → Bool
  | [] => true
  | d :: r => tm d && tms r
end
mutual
theorem tm_ind1 {P : D → Prop} (h1 : ∀ i, P (.int i)) (h2 : ∀ z ts, ts.length ≤ 3 → (∀ t ∈ ts, tm t = true ∧ P t) → P (.tup (.str z :: ts))) : ∀ t, tm t = true → P t
  | .int i, _ => h1 i
  | .tup (x :: ts), h => by
    cases x with
    | str z =>
      simp only [tm, Bool.and_eq_true, decide_eq_true_eq] at h
      exact h2 z ts h.1 (tm_ind2 h1 h2 ts h.2)
    | _ => simp [tm] at h
  | .tup [], h => by simp [tm] at h
  | .non, h => by simp [tm] at h
  | .bl _, h => by simp [tm] at h
  | .str _, h => by simp [tm] at h
  | .lst _, h => by simp [tm] at h
  | .scr _, h => by simp [tm] at h
  | .dic _ _, h => by simp [tm] at h
  | .dit _ _, h => by simp [tm] at h
theorem tm_ind2 {P : D → Prop} (h1 : ∀ i, P (.int i)) (h2 : ∀ z ts, ts.length ≤ 3 → (∀ t ∈ ts, tm t = true ∧ P t) → P (.tup (.str z :: ts))) : ∀ ts, tms ts = true → ∀ t ∈ ts, tm t = true ∧ P t
  | [], _, t, ht => by cases ht
  | d :: r, h, t, ht => by
    simp only [tms, Bool.and_eq_true] at h
    have a := tm_ind1 h1 h2 d h.1
    have b := tm_ind2 h1 h2 r h.2
    rcases List.mem_cons.mp ht with e | e
    · rw [e]; exact ⟨h.1, a⟩
    · exact b t e
end
mutual
def bks : D → List Int
  | .int i => [i]
  | .tup (_ :: ts) => bkss ts
  | _ => []
def bkss : List D → List Int
  | [] => []
  | d :: r => bks d ++ bkss r
end
mutual
def ren (f : Int → Int) : D → D
  | .int i => .int (f i)
  | .tup (x :: ts) => .tup (x :: rens f ts)
  | d => d
def rens (f : Int → Int) : List D → List D
  | [] => []
  | d :: r => ren f d :: rens f r
end
mutual
def bare : D → D
  | .tup (x :: ts) => .tup (x :: bares ts)
  | _ => .int 0
def bares : List D → List D
  | [] => []
  | d :: r => bare d :: bares r
end
theorem eqbs_of : ∀ {ts : List D}, (∀ t ∈ ts, D.eqb t = true) → D.eqbs ts = true
  | [], _ => rfl
  | x :: r, h => by simp only [D.eqbs, Bool.and_eq_true]; exact ⟨h x (by simp), eqbs_of fun d hd => h d (by simp [hd])⟩
theorem deps_le {k : Nat} : ∀ {ts : List D}, (∀ t ∈ ts, D.dep t ≤ k) → D.deps ts ≤ k
  | [], _ => by simp [D.deps]
  | x :: r, h => by
    simp only [D.deps]
    have := h x (by simp)
    have := deps_le (ts := r) fun d hd => h d (by simp [hd])
    omega
/-! ### numbers in the order in which they are met -/
def ins (l : List Int) (x : Int) : List Int := if x ∈ l then l else l ++ [x]
def met (l xs : List Int) : List Int := xs.foldl ins l
def idx (l : List Int) (x : Int) : Int := ((l.idxOf x : Nat) : Int)
/-! ### a dict from numbers to their places -/
def dvs (n : Nat) : List Int → List D
  | [] => []
  | _ :: r => .int n :: dvs (n + 1) r
def kys (l : List Int) : List Key := l.map Sum.inl
end M

set_option Elab.async false
set_option linter.all false
set_option maxRecDepth 100000
set_option maxHeartbeats 4000000
namespace M
open PySem PySem.Spec L2
open Classical in
noncomputable instance decD : DecidableEq D := fun a b => propDecidable (a = b)
/-! ### numbers, texts and tuples alone: == and > -/
mutual
def nb : D → Bool
  | .int _ => true
  | .str _ => true
  | .tup ds => nbs ds
  | _ => false
def nbs : List D → Bool
  | [] => true
  | d :: r => nb d && nbs r
end
theorem nbs_mem : ∀ {ds : List D} {d : D}, nbs ds = true → d ∈ ds → nb d = true
  | x :: r, d, h, ht => by
    simp only [nbs, Bool.and_eq_true] at h
    rcases List.mem_cons.mp ht with rfl | ht
    · exact h.1
    · exact nbs_mem h.2 ht
theorem nbs_of : ∀ {ds : List D}, (∀ d ∈ ds, nb d = true) → nbs ds = true
  | [], _ => rfl
  | x :: r, h => by simp only [nbs, Bool.and_eq_true]; exact ⟨h x (by simp), nbs_of fun d hd => h d (by simp [hd])⟩
def EqIff (a : D) : Prop := nb a = true → ∀ b, nb b = true → (eqD a b = true ↔ a = b)
theorem eqDs_iff : ∀ {as : List D}, (∀ a ∈ as, EqIff a) → nbs as = true → ∀ bs, nbs bs = true → (eqDs as bs = true ↔ as = bs)
  | [], _, _, [], _ => by simp [eqDs]
  | [], _, _, b :: bs, _ => by simp [eqDs]
  | a :: as, _, _, [], _ => by simp [eqDs]
  | a :: as, h, ha, b :: bs, hb => by
    simp only [nbs, Bool.and_eq_true] at ha hb
    simp only [eqDs, Bool.and_eq_true, List.cons.injEq]
    rw [h a (by simp) ha.1 b hb.1, eqDs_iff (fun x hx => h x (by simp [hx])) ha.2 bs hb.2]
theorem eqD_iff (a : D) : EqIff a := by
  refine D.ind (P := EqIff) ?_ ?_ ?_ ?_ ?_ ?_ ?_ ?_ a
  · intro h; simp [nb] at h
  · intro b h; simp [nb] at h
  · intro i _ b hb
    cases b <;> first | (simp [nb] at hb; done) | simp [eqD]
  · intro x _ b hb
    cases b <;> first | (simp [nb] at hb; done) | simp [eqD]
  · intro ds ih ha b hb
    cases b with
    | tup es =>
      simp only [eqD, D.tup.injEq]
      exact eqDs_iff ih (by simpa only [nb] using ha) es (by simpa only [nb] using hb)
    | int i => simp [eqD]
    | str x => simp [eqD]
    | _ => simp [nb] at hb
  · intro ds _ h; simp [nb] at h
  · intro ds _ h; simp [nb] at h
  · exact ⟨fun ks ds _ h => by simp [nb] at h, fun ks ds _ h => by simp [nb] at h⟩
theorem eqD_eq {a b : D} (ha : nb a = true) (hb : nb b = true) : eqD a b = decide (a = b) := by
  have := eqD_iff a ha b hb
  by_cases h : a = b
  · rw [decide_eq_true h]; exact this.mpr h
  · rw [decide_eq_false h]
    cases e : eqD a b with
    | false => rfl
    | true => exact absurd (this.mp e) h
def Tot (a : D) : Prop := nb a = true → ∀ b, nb b = true → cmpb a b = true → a = b ∨ gtD a b = true ∨ gtD b a = true
theorem str_tot (x y : Str) : x = y ∨ y.cps.toList < x.cps.toList ∨ x.cps.toList < y.cps.toList := by
  by_cases e : x = y
  · exact .inl e
  · right
    have : x.cps.toList ≠ y.cps.toList := fun z => e (str_ext z)
    by_cases z : y.cps.toList < x.cps.toList
    · exact .inl z
    · exact .inr (Std.lt_of_le_of_ne z this)
theorem tots : ∀ {as : List D}, (∀ a ∈ as, Tot a) → nbs as = true → ∀ bs, nbs bs = true → cmpbs as bs = true → as = bs ∨ gtDs as bs = true ∨ gtDs bs as = true
  | [], _, _, [], _, _ => .inl rfl
  | [], _, _, b :: bs, _, _ => .inr (.inr (by simp [gtDs]))
  | a :: as, _, _, [], _, _ => .inr (.inl (by simp [gtDs]))
  | a :: as, h, ha, b :: bs, hb, hc => by
    simp only [nbs, Bool.and_eq_true] at ha hb
    by_cases e : a = b
    · subst e
      have e1 : eqD a a = true := (eqD_iff a ha.1 a ha.1).mpr rfl
      simp only [cmpbs, e1, if_true] at hc
      simp only [gtDs, e1, if_true, List.cons.injEq, true_and]
      exact tots (fun x hx => h x (by simp [hx])) ha.2 bs hb.2 hc
    · have e1 : eqD a b = false := by rw [eqD_eq ha.1 hb.1]; exact decide_eq_false e
      have e2 : eqD b a = false := by rw [eqD_eq hb.1 ha.1]; exact decide_eq_false fun z => e z.symm
      simp only [cmpbs, e1, Bool.false_eq_true, if_false] at hc
      simp only [gtDs, e1, e2, Bool.false_eq_true, if_false]
      rcases h a (by simp) ha.1 b hb.1 hc with z | z
      · exact absurd z e
      · exact .inr z
theorem tot (a : D) : Tot a := by
  refine D.ind (P := Tot) ?_ ?_ ?_ ?_ ?_ ?_ ?_ ?_ a
  · intro h; simp [nb] at h
  · intro b h; simp [nb] at h
  · intro i _ b hb hc
    cases b with
    | int j =>
      simp only [gtD, D.int.injEq, decide_eq_true_eq]
      omega
    | _ => simp [cmpb] at hc
  · intro x _ b hb hc
    cases b with
    | str y =>
      simp only [gtD, D.str.injEq, decide_eq_true_eq]
      exact str_tot x y
    | _ => simp [cmpb] at hc
  · intro ds ih ha b hb hc
    cases b with
    | tup es =>
      simp only [gtD, D.tup.injEq]
      exact tots ih (by simpa only [nb] using ha) es (by simpa only [nb] using hb) (by simpa only [cmpb] using hc)
    | _ => simp [cmpb] at hc
  · intro ds _ h; simp [nb] at h
  · intro ds _ h; simp [nb] at h
  · exact ⟨fun ks ds _ h => by simp [nb] at h, fun ks ds _ h => by simp [nb] at h⟩
/-! ### trees of names -/
mutual
def tp : D → Bool
  | .tup (.str _ :: ts) => decide (ts.length ≤ 9) && tps ts
  | _ => false
def tps : List D → Bool
  | [] => true
  | d :: r => tp d && tps r
end
mutual
theorem tp_ind1 {P : D → Prop} (h2 : ∀ z ts, ts.length ≤ 9 → (∀ t ∈ ts, tp t = true ∧ P t) → P (.tup (.str z :: ts))) : ∀ t, tp t = true → P t
  | .tup (x :: ts), h => by
    cases x with
    | str z =>
      simp only [tp, Bool.and_eq_true, decide_eq_true_eq] at h
      exact h2 z ts h.1 (tp_ind2 h2 ts h.2)
    | _ => simp [tp] at h
  | .tup [], h => by simp [tp] at h
  | .int _, h => by simp [tp] at h
  | .non, h => by simp [tp] at h
  | .bl _, h => by simp [tp] at h
  | .str _, h => by simp [tp] at h
  | .lst _, h => by simp [tp] at h
  | .scr _, h => by simp [tp] at h
  | .dic _ _, h => by simp [tp] at h
  | .dit _ _, h => by simp [tp] at h
theorem tp_ind2 {P : D → Prop} (h2 : ∀ z ts, ts.length ≤ 9 → (∀ t ∈ ts, tp t = true ∧ P t) → P (.tup (.str z :: ts))) : ∀ ts, tps ts = true → ∀ t ∈ ts, tp t = true ∧ P t
  | [], _, t, ht => by cases ht
  | d :: r, h, t, ht => by
    simp only [tps, Bool.and_eq_true] at h
    have a := tp_ind1 h2 d h.1
    have b := tp_ind2 h2 r h.2
    rcases List.mem_cons.mp ht with e | e
    · rw [e]; exact ⟨h.1, a⟩
    · exact b t e
end
theorem tps_of : ∀ {ts : List D}, (∀ t ∈ ts, tp t = true) → tps ts = true
  | [], _ => rfl
  | x :: r, h => by simp only [tps, Bool.and_eq_true]; exact ⟨h x (by simp), tps_of fun d hd => h d (by simp [hd])⟩
theorem tps_mem : ∀ {ts : List D} {t : D}, tps ts = true → t ∈ ts → tp t = true
  | x :: r, t, h, ht => by
    simp only [tps, Bool.and_eq_true] at h
    rcases List.mem_cons.mp ht with rfl | ht
    · exact h.1
    · exact tps_mem h.2 ht
theorem tp_nd {z : Str} {ts : List D} (h : ts.length ≤ 9) (ht : ∀ t ∈ ts, tp t = true) : tp (.tup (.str z :: ts)) = true := by
  simp only [tp, Bool.and_eq_true, decide_eq_true_eq]; exact ⟨h, tps_of ht⟩
theorem tp_cases {t : D} (h : tp t = true) : ∃ z ts, t = .tup (.str z :: ts) ∧ ts.length ≤ 9 ∧ ∀ u ∈ ts, tp u = true := by
  cases t with
  | tup ds =>
    cases ds with
    | nil => simp [tp] at h
    | cons x ts =>
      cases x with
      | str z =>
        simp only [tp, Bool.and_eq_true, decide_eq_true_eq] at h
        exact ⟨z, ts, rfl, h.1, fun u hu => tps_mem h.2 hu⟩
      | _ => simp [tp] at h
  | _ => simp [tp] at h
/-! ### weights and keys -/
mutual
def wgt : D → D
  | .tup (.str z :: ts) => .tup (.int ((1 + nums ts : Nat) : Int) :: .tup [.str z, .int (ts.length : Int)] :: wgts ts)
  | d => d
def wgts : List D → List D
  | [] => []
  | d :: r => wgt d :: wgts r
end
mutual
def kyt : D → D
  | .tup (.str z :: ts) => .tup (.int ((1 + nums ts : Nat) : Int) :: .str z :: .int (ts.length : Int) :: kyts ts)
  | d => d
def kyts : List D → List D
  | [] => []
  | d :: r => kyt d :: kyts r
end
theorem wgts_map : ∀ ts, wgts ts = ts.map wgt
  | [] => rfl
  | d :: r => by simp [wgts, wgts_map r]
theorem kyts_map : ∀ ts, kyts ts = ts.map kyt
  | [] => rfl
  | d :: r => by simp [kyts, kyts_map r]
theorem nb_tp : ∀ t, tp t = true → nb t = true ∧ nb (wgt t) = true ∧ nb (kyt t) = true := tp_ind1 fun z ts _ h => by
  simp only [nb, nbs, wgt, kyt, wgts_map, kyts_map, Bool.true_and, Bool.and_true]
  refine ⟨nbs_of fun t ht => (h t ht).2.1, nbs_of fun d hd => ?_, nbs_of fun d hd => ?_⟩
  · obtain ⟨t, ht, rfl⟩ := List.mem_map.mp hd
    exact (h t ht).2.2.1
  · obtain ⟨t, ht, rfl⟩ := List.mem_map.mp hd
    exact (h t ht).2.2.2
theorem map_inj_on {f : D → D} : ∀ {as bs : List D}, (∀ a ∈ as, ∀ b, tp b = true → f a = f b → a = b) → (∀ b ∈ bs, tp b = true) → as.map f = bs.map f → as = bs
  | [], [], _, _, _ => rfl
  | [], b :: bs, _, _, h => by simp at h
  | a :: as, [], _, _, h => by simp at h
  | a :: as, b :: bs, hf, hb, h => by
    simp only [List.map_cons, List.cons.injEq] at h
    rw [hf a (by simp) b (hb b (by simp)) h.1, map_inj_on (fun x hx => hf x (by simp [hx])) (fun x hx => hb x (by simp [hx])) h.2]
theorem wgt_inj : ∀ s, tp s = true → ∀ t, tp t = true → wgt s = wgt t → s = t := tp_ind1 fun z ts _ h t ht e => by
  obtain ⟨z', us, rfl, _, hu⟩ := tp_cases ht
  simp only [wgt, wgts_map, D.tup.injEq, List.cons.injEq, D.str.injEq] at e
  rw [e.2.1.1, map_inj_on (fun a ha b hb => (h a ha).2 b hb) hu e.2.2]
theorem kyt_inj : ∀ s, tp s = true → ∀ t, tp t = true → kyt s = kyt t → s = t := tp_ind1 fun z ts _ h t ht e => by
  obtain ⟨z', us, rfl, _, hu⟩ := tp_cases ht
  simp only [kyt, kyts_map, D.tup.injEq, List.cons.injEq, D.str.injEq] at e
  rw [e.2.1, map_inj_on (fun a ha b hb => (h a ha).2 b hb) hu e.2.2.2]
theorem eq_wgt {s t : D} (hs : tp s = true) (ht : tp t = true) : eqD (wgt s) (wgt t) = decide (s = t) := by
  rw [eqD_eq (nb_tp s hs).2.1 (nb_tp t ht).2.1]
  by_cases e : s = t
  · subst e; simp
  · rw [decide_eq_false e, decide_eq_false fun z => e (wgt_inj s hs t ht z)]
theorem eq_kyt {s t : D} (hs : tp s = true) (ht : tp t = true) : eqD (kyt s) (kyt t) = decide (s = t) := by
  rw [eqD_eq (nb_tp s hs).2.2 (nb_tp t ht).2.2]
  by_cases e : s = t
  · subst e; simp
  · rw [decide_eq_false e, decide_eq_false fun z => e (kyt_inj s hs t ht z)]
theorem gts_same : ∀ {ts us : List D}, (∀ t ∈ ts, tp t = true ∧ ∀ u, tp u = true → gtD (wgt t) (wgt u) = gtD (kyt t) (kyt u) ∧ cmpb (wgt t) (wgt u) = true ∧ cmpb (kyt t) (kyt u) = true) → (∀ u ∈ us, tp u = true) → gtDs (ts.map wgt) (us.map wgt) = gtDs (ts.map kyt) (us.map kyt) ∧ cmpbs (ts.map wgt) (us.map wgt) = true ∧ cmpbs (ts.map kyt) (us.map kyt) = true
  | [], us, _, _ => by simp [gtDs, cmpbs]
  | t :: ts, [], _, _ => by simp [gtDs, cmpbs]
  | t :: ts, u :: us, h, hu => by
    have h1 := h t (by simp)
    have h2 := hu u (by simp)
    have ih := gts_same (ts := ts) (us := us) (fun x hx => h x (by simp [hx])) fun x hx => hu x (by simp [hx])
    simp only [List.map_cons, gtDs, cmpbs, eq_wgt h1.1 h2, eq_kyt h1.1 h2]
    by_cases e : t = u
    · simp only [decide_eq_true e, if_true]; exact ih
    · simp only [decide_eq_false e, Bool.false_eq_true, if_false]; exact h1.2 u h2
theorem gt_same : ∀ s, tp s = true → ∀ t, tp t = true → gtD (wgt s) (wgt t) = gtD (kyt s) (kyt t) ∧ cmpb (wgt s) (wgt t) = true ∧ cmpb (kyt s) (kyt t) = true := tp_ind1 fun z ts _ h t ht => by
  obtain ⟨z', us, rfl, _, hu⟩ := tp_cases ht
  have ih := gts_same (ts := ts) (us := us) (fun x hx => (h x hx)) hu
  simp only [wgt, kyt, wgts_map, kyts_map, gtD, cmpb, gtDs, cmpbs, eqD, eqDs, Bool.and_true, Bool.and_eq_true, beq_iff_eq]
  generalize ((1 + nums ts : Nat) : Int) = n
  generalize ((1 + nums us : Nat) : Int) = m
  generalize (ts.length : Int) = a
  generalize (us.length : Int) = b
  by_cases e1 : n = m
  · by_cases e2 : z = z'
    · by_cases e3 : a = b
      · simp only [e1, e2, e3, and_self, if_true]; exact ih
      · simp [e1, e2, e3]
    · simp [e1, e2]
  · simp [e1]
theorem beyond_total {s t : D} (hs : tp s = true) (ht : tp t = true) : s = t ∨ gtD (wgt s) (wgt t) = true ∨ gtD (wgt t) (wgt s) = true := by
  rcases tot (wgt s) (nb_tp s hs).2.1 (wgt t) (nb_tp t ht).2.1 (gt_same s hs t ht).2.1 with z | z
  · exact .inl (wgt_inj s hs t ht z)
  · exact .inr z
theorem imm_tp : ∀ t, tp t = true → t.imm = true := tp_ind1 fun z ts hl h => by
  show (true && D.imms ts) = true
  rw [Bool.true_and]; exact imms_iff.mpr fun t ht => (h t ht).2
theorem dep_tp : ∀ t, tp t = true → D.dep t ≤ hgt t ∧ D.dep (wgt t) ≤ hgt t + 1 ∧ D.dep (kyt t) ≤ hgt t + 1 := tp_ind1 fun z ts hl h => by
  simp only [wgt, kyt, wgts_map, kyts_map, D.dep, D.deps, hgt]
  have h1 := deps_le (ts := ts) (k := hgts ts) fun t ht => Nat.le_trans (h t ht).2.1 (hgts_mem ht)
  have h2 := deps_le (ts := ts.map wgt) (k := hgts ts + 1) fun d hd => by
    obtain ⟨t, ht, rfl⟩ := List.mem_map.mp hd
    exact Nat.le_trans (h t ht).2.2.1 (Nat.succ_le_succ (hgts_mem ht))
  have h3 := deps_le (ts := ts.map kyt) (k := hgts ts + 1) fun d hd => by
    obtain ⟨t, ht, rfl⟩ := List.mem_map.mp hd
    exact Nat.le_trans (h t ht).2.2.2 (Nat.succ_le_succ (hgts_mem ht))
  omega
theorem eqb_nb (d : D) : nb d = true → D.eqb d = true := by
  refine D.ind (P := fun d => nb d = true → D.eqb d = true) ?_ ?_ ?_ ?_ ?_ ?_ ?_ ?_ d
  · intro h; simp [nb] at h
  · intro b h; simp [nb] at h
  · intro i _; rfl
  · intro x _; rfl
  · intro ds ih h
    simp only [D.eqb]
    exact eqbs_of fun t ht => ih t ht (nbs_mem (by simpa only [nb] using h) ht)
  · intro ds _ h; simp [nb] at h
  · intro ds _ h; simp [nb] at h
  · exact ⟨fun ks ds _ h => by simp [nb] at h, fun ks ds _ h => by simp [nb] at h⟩
theorem gtR_ok {a b : D} (ha : nb a = true) (hb : nb b = true) (hd : a.dep ≤ 190) (hc : cmpb a b = true) : gtR a b = .ok (.bl (gtD a b)) := must_pos ⟨eqb_nb a ha, eqb_nb b hb, hd, hc⟩
theorem nums_sum (ts : List D) : sumI (ts.map fun t => ((num t : Nat) : Int)) = ((nums ts : Nat) : Int) := by
  induction ts with
  | nil => rfl
  | cons d r ih => simp only [List.map_cons, sumI, nums, ih]; push_cast; rfl
end M

set_option Elab.async false
set_option linter.all false
set_option maxRecDepth 100000
set_option maxHeartbeats 4000000
namespace G
open PySem PySem.Spec L2 M
open PyProof.Rows hiding St
/-! ### the text -/
def top (i : Nat) : Stmt := PySem.Challenge.pw_endwise_k71_beyond.main.body.getD i (.Pass ⟨0, 0, 0, 0⟩)
abbrev s__law_names : Stmt := top 11
abbrev s__law_cell : Stmt := top 9
abbrev s__law_term : Stmt := top 12
abbrev s__law_key : Stmt := top 13
abbrev s_weight_above : Stmt := top 5
abbrev s_head : Stmt := top 2
abbrev s_places : Stmt := top 1
abbrev s_weighed : Stmt := top 4
abbrev s_beyond : Stmt := top 7
abbrev s__law_asked : Stmt := top 15
abbrev s__law_mixed : Stmt := top 10
abbrev s__law_turned : Stmt := top 14
abbrev s_law : Stmt := top 16
/-! ### the defs as functions of data -/
def g__law_names : Sl → Res Out :=
  (seqO (setOs 1 (cS "abcdefghijklmnopqrstuvwxyz"))
  (seqO (setOs 2 (two (cI 1) (two (rdS 0) (cI 8) modI) addD))
  (seqO (setOs 3 (two (two (rdS 0) (cI 8) divI) (rdS 2) modI))
  (seqO (setO 4 (lstF nil1))
  (seqO (forO (rngF (cons1 (cI 4) nil1)) (gN 5) (seqO (setOs 6 (cS ""))
    (seqO (forO (rngF (cons1 (rdS 2) nil1)) (gN 7) (seqO (setOs 8 (two (two (two (rdS 0) (cI 64) divI) (two (two (rdS 7) (rdS 7) mulI) (cI 1) addD) divI) (two (cI 3) (rdS 7) mulI) addD))
      (seqO (ifO (asB (two (rdS 7) (rdS 3) eqR)) (setOs 8 (two (rdS 8) (rdS 5) addD)) nxO)
      (setOs 6 (two (rdS 6) (two (rdS 1) (two (rdS 8) (cI 26) modI) ixD) addD)))))
    (appendO 4 (rdS 6)))))
  (seqO (ifO (andB (asB (two (two (two (rdS 0) (cI 64) divI) (cI 3) modI) (cI 1) eqR)) (asB (two (rdS 2) (cI 5) ltI))) (frzO 4 (setO 4 (compO false 2 [] (enumF (rdS 4)) (g2 (gN 0) (gN 1)) trueB (two (rdS 1) (slice3 (rdS 1) noneI (someI (rdS 0)) slD) addD)))) nxO)
  (retO (rdO 4))))))))
def F__law_names : List D → Res D := runF true 9 (g__law_names)
def g__law_cell : Sl → Res Out :=
  (seqO (ifO (asB (two (rdS 1) (app (cons1 (rdS 0) nil1) lenD) ltI)) (retS (two (rdS 0) (rdS 1) ixD)) nxO)
  (retO (cI 0)))
def F__law_cell : List D → Res D := runF false 2 (g__law_cell)
def g__law_term (f__law_term : List D → Res D) : Sl → Res Out :=
  (seqO (asgO (app (cons1 (rdS 0) (cons1 (app (cons1 (rdS 1) nil1) lenD) nil1)) divmodD) (g2 (gN 0) (gN 7)))
  (seqO (setOs 4 (cI 0))
  (seqO (ifO (asB (two (rdS 2) (cI 0) gtI)) (asgO (app (cons1 (rdS 0) (cons1 (two (rdS 3) (cI 1) addD) nil1)) divmodD) (g2 (gN 0) (gN 4))) nxO)
  (seqO (setO 5 (lstF (cons1 (two (rdS 1) (rdS 7) ixD) nil1)))
  (seqO (forO (rngF (cons1 (rdS 4) nil1)) (gN 6) (seqO (asgO (callF 4 f__law_term (cons1 (rdS 0) (cons1 (rdS 1) (cons1 (two (rdS 2) (cI 1) subI) (cons1 (rdS 3) nil1))))) (g2 (gN 0) (gN 8)))
    (appendO 5 (rdS 8))))
  (retO (tupF (cons1 (rdS 0) (cons1 (chk (app (cons1 (rdB 5) nil1) tupleD)) nil1)))))))))
def F__law_term : Nat → List D → Res D
  | 0 => fun _ => .stuck
  | n + 1 => runF true 9 (g__law_term (F__law_term n))
def g__law_key (f__law_key : List D → Res D) : Sl → Res Out :=
  (seqO (setOs 1 (compO false 1 [] (itF (slice3 (rdS 0) (someI (cI 1)) noneI slD)) (gN 0) trueB (callF 1 f__law_key (cons1 (rdS 0) nil1))))
  (seqO (setOs 2 (two (cI 1) (app (cons1 (compO false 1 [] (itF (rdS 1)) (gN 0) trueB (two (rdS 0) (cI 0) ixD)) nil1) sumLD) addD))
  (retO (app (cons1 (two (lstF (cons1 (rdS 2) (cons1 (two (rdS 0) (cI 0) ixD) (cons1 (app (cons1 (rdS 1) nil1) lenD) nil1)))) (rdS 1) addD) nil1) tupleD))))
def F__law_key : Nat → List D → Res D
  | 0 => fun _ => .stuck
  | n + 1 => runF true 3 (g__law_key (F__law_key n))
def g_weight_above : Sl → Res Out :=
  (retO (two (tupF (cons1 (two (cI 1) (app (cons1 (compO false 1 [] (itF (rdS 1)) (gN 0) trueB (two (rdS 0) (cI 0) ixD)) nil1) sumLD) addD) (cons1 (rdS 0) nil1))) (app (cons1 (rdS 1) nil1) tupleD) addD))
def F_weight_above : List D → Res D := runF true 2 (g_weight_above)
def g_head : Sl → Res Out :=
  (retO (ifD (asB (isiF "tuple" (rdS 0))) (tupF (cons1 (two (rdS 0) (cI 0) ixD) (cons1 (two (app (cons1 (rdS 0) nil1) lenD) (cI 1) subI) nil1))) cN))
def F_head : List D → Res D := runF true 1 (g_head)
def g_places : Sl → Res Out :=
  (retO (ifD (asB (isiF "tuple" (rdS 0))) (slice3 (rdS 0) (someI (cI 1)) noneI slD) (tupF nil1)))
def F_places : List D → Res D := runF true 1 (g_places)
def g_weighed (f_weight_above : List D → Res D) (f_head : List D → Res D) (f_weighed : List D → Res D) (f_places : List D → Res D) : Sl → Res Out :=
  (retO (callF 2 f_weight_above (cons1 (callF 1 f_head (cons1 (rdS 0) nil1)) (cons1 (compO false 1 [] (itF (callF 1 f_places (cons1 (rdS 0) nil1))) (gN 0) trueB (callF 1 f_weighed (cons1 (rdS 0) nil1))) nil1))))
def F_weighed : Nat → List D → Res D
  | 0 => fun _ => .stuck
  | n + 1 => runF true 1 (g_weighed F_weight_above F_head (F_weighed n) F_places)
def g_beyond (f_weighed : List D → Res D) : Sl → Res Out :=
  (retO (two (callF 1 f_weighed (cons1 (rdS 0) nil1)) (callF 1 f_weighed (cons1 (rdS 1) nil1)) gtR))
def F_beyond : List D → Res D := runF true 2 (g_beyond (F_weighed 100))
def g__law_asked (f__law_key : List D → Res D) (f_beyond : List D → Res D) : Sl → Res Out :=
  (seqO (setOs 2 (callF 1 f__law_key (cons1 (rdS 0) nil1)))
  (seqO (setOs 3 (callF 1 f__law_key (cons1 (rdS 1) nil1)))
  (seqO (setOs 4 (lstF (cons1 (callF 2 f_beyond (cons1 (rdS 0) (cons1 (rdS 1) nil1))) (cons1 (callF 2 f_beyond (cons1 (rdS 1) (cons1 (rdS 0) nil1))) nil1))))
  (seqO (ifO (orB (notB (asB (isiF "bool" (two (rdS 4) (cI 0) ixD)))) (notB (asB (isiF "bool" (two (rdS 4) (cI 1) ixD))))) (retO (cB false)) nxO)
  (seqO (ifO (asB (two (rdS 4) (lstF (cons1 (two (rdS 2) (rdS 3) gtR) (cons1 (two (rdS 3) (rdS 2) gtR) nil1))) neR)) (retO (cB false)) nxO)
  (retO (toB (two (rdS 4) (cI 0) ixD) (toB (two (rdS 4) (cI 1) ixD) (two (rdS 0) (rdS 1) eqR) false) false)))))))
def F__law_asked : List D → Res D := runF true 5 (g__law_asked (F__law_key 100) F_beyond)
def g__law_mixed : Sl → Res Out :=
  (seqO (setOs 2 (two (two (two (two (two (rdS 0) (cI 2147483629) modI) (two (cI 7) (rdS 1) mulI) addD) (cI 3) addD) (cI 48271) mulI) (cI 2147483647) modI))
  (seqO (setOs 3 (cI 0))
  (seqO (forO (rngF (cons1 (cI 6) nil1)) (gN 4) (seqO (setOs 2 (two (two (two (two (rdS 2) (cI 69621) mulI) (two (cI 11) (rdS 4) mulI) addD) (cI 5) addD) (cI 2147483647) modI))
    (setOs 3 (two (two (rdS 3) (cI 2147483647) mulI) (rdS 2) addD))))
  (retS (rdS 3)))))
def F__law_mixed : List D → Res D := runF false 5 (g__law_mixed)
def g__law_turned : Sl → Res Out :=
  (seqO (ifO (asB (two (two (rdS 2) (cI 3) modI) (cI 0) eqR)) (retO (two (tupF (cons1 (two (rdS 1) (two (two (rdS 2) (cI 3) divI) (app (cons1 (rdS 1) nil1) lenD) modI) ixD) nil1)) (slice3 (rdS 0) (someI (cI 1)) noneI slD) addD)) nxO)
  (seqO (ifO (asB (two (two (rdS 2) (cI 3) modI) (cI 1) eqR)) (retO (two (slice3 (rdS 0) noneI (someI (cI 1)) slD) (revTF (slice3 (rdS 0) (someI (cI 1)) noneI slD)) addD)) nxO)
  (retO (slice3 (rdS 0) noneI (someI (app (cons1 (cI 1) (cons1 (two (app (cons1 (rdS 0) nil1) lenD) (cI 1) subI) nil1)) maxD)) slD))))
def F__law_turned : List D → Res D := runF true 3 (g__law_turned)
def g_law (f__law_names : List D → Res D) (f__law_cell : List D → Res D) (f__law_term : List D → Res D) (f__law_asked : List D → Res D) (f__law_mixed : List D → Res D) (f__law_turned : List D → Res D) : Sl → Res Out :=
  (seqO (setOs 1 (callF 1 f__law_names (cons1 (two (callF 2 f__law_cell (cons1 (rdS 0) (cons1 (cI 0) nil1))) (two (cI 10) (cI 20) powI) modI) nil1)))
  (seqO (setOs 2 (tupF (cons1 (two (rdS 1) (cI 0) ixD) nil1)))
  (seqO (forO (rng2F (cons1 (cI 1) (cons1 (app (cons1 (cI 101) (cons1 (app (cons1 (cI 2) (cons1 (app (cons1 (rdS 0) nil1) lenD) nil1)) maxD) nil1)) minD) nil1))) (gN 3) (seqO (setOs 4 (two (callF 2 f__law_cell (cons1 (rdS 0) (cons1 (rdS 3) nil1))) (two (cI 10) (cI 20) powI) modI))
    (seqO (setOs 5 (two (callF 4 f__law_term (cons1 (callF 2 f__law_mixed (cons1 (rdS 4) (cons1 (rdS 3) nil1))) (cons1 (rdS 1) (cons1 (cI 3) (cons1 (cI 3) nil1))))) (cI 1) ixD))
    (seqO (ifO (asB (two (two (rdS 4) (cI 5) modI) (cI 2) eqR)) (forO (rngF (cons1 (two (two (rdS 4) (cI 5) divI) (cI 51) modI) nil1)) (gN 6) (setOs 5 (tupF (cons1 (two (rdS 1) (two (two (two (rdS 4) (cI 255) divI) (two (rdS 6) (rdS 6) mulI) addD) (cI 4) modI) ixD) (cons1 (rdS 5) nil1))))) nxO)
    (seqO (ifO (orB (notB (asB (callF 2 f__law_asked (cons1 (rdS 5) (cons1 (rdS 2) nil1))))) (notB (asB (callF 2 f__law_asked (cons1 (rdS 5) (cons1 (rdS 5) nil1)))))) (retO (cB false)) nxO)
    (seqO (ifO (notB (asB (callF 2 f__law_asked (cons1 (rdS 5) (cons1 (callF 3 f__law_turned (cons1 (rdS 5) (cons1 (rdS 1) (cons1 (two (rdS 4) (cI 5) divI) nil1)))) nil1))))) (retO (cB false)) nxO)
    (setOs 2 (rdS 5))))))))
  (retO (cB true)))))
def F_law : List D → Res D := runF true 7 (g_law F__law_names F__law_cell (F__law_term 100) F__law_asked F__law_mixed F__law_turned)
end G

set_option Elab.async false
set_option linter.all false
set_option maxRecDepth 100000
set_option maxHeartbeats 4000000
namespace G
open PySem PySem.Spec L2 M
open PyProof.Rows hiding St
/-! ### what stands in the module -/
structure Gm (mg : Str → Option Value) : Prop where
  b_isinstance : mg "isinstance" = none
  b_tuple : mg "tuple" = none
  b_len : mg "len" = none
  b_sum : mg "sum" = none
  b_max : mg "max" = none
  b_reversed : mg "reversed" = none
  b_enumerate : mg "enumerate" = none
  b_range : mg "range" = none
  b_divmod : mg "divmod" = none
  b_bool : mg "bool" = none
  b_min : mg "min" = none
theorem sc__law_names : FnScope ["_law_cell_here", "_law_letters", "_law_size", "_law_at", "_law_names_here", "_law_turn", "_law_name", "_law_k", "_law_sign"] ["_law_cell_here"] (defScope s__law_names) := ⟨rfl, rfl, rfl, by decide +kernel, rfl, by decide +kernel, by decide +kernel⟩
theorem sc__law_cell : FnScope ["_law_script", "_law_k"] ["_law_script", "_law_k"] (defScope s__law_cell) := ⟨rfl, rfl, rfl, by decide +kernel, rfl, by decide +kernel, by decide +kernel⟩
theorem sc__law_term : FnScope ["_law_number", "_law_names_here", "_law_deep", "_law_most", "_law_places", "_law_term_here", "_law_k", "_law_at", "_law_place"] ["_law_number", "_law_names_here", "_law_deep", "_law_most"] (defScope s__law_term) := ⟨rfl, rfl, rfl, by decide +kernel, rfl, by decide +kernel, by decide +kernel⟩
theorem sc__law_key : FnScope ["_law_term_here", "_law_keys", "_law_many"] ["_law_term_here"] (defScope s__law_key) := ⟨rfl, rfl, rfl, by decide +kernel, rfl, by decide +kernel, by decide +kernel⟩
theorem sc_weight_above : FnScope ["found", "below"] ["found", "below"] (defScope s_weight_above) := ⟨rfl, rfl, rfl, by decide +kernel, rfl, by decide +kernel, by decide +kernel⟩
theorem sc_head : FnScope ["term"] ["term"] (defScope s_head) := ⟨rfl, rfl, rfl, by decide +kernel, rfl, by decide +kernel, by decide +kernel⟩
theorem sc_places : FnScope ["term"] ["term"] (defScope s_places) := ⟨rfl, rfl, rfl, by decide +kernel, rfl, by decide +kernel, by decide +kernel⟩
theorem sc_weighed : FnScope ["term"] ["term"] (defScope s_weighed) := ⟨rfl, rfl, rfl, by decide +kernel, rfl, by decide +kernel, by decide +kernel⟩
theorem sc_beyond : FnScope ["one", "other"] ["one", "other"] (defScope s_beyond) := ⟨rfl, rfl, rfl, by decide +kernel, rfl, by decide +kernel, by decide +kernel⟩
theorem sc__law_asked : FnScope ["_law_one", "_law_other", "_law_mine", "_law_its", "_law_found"] ["_law_one", "_law_other"] (defScope s__law_asked) := ⟨rfl, rfl, rfl, by decide +kernel, rfl, by decide +kernel, by decide +kernel⟩
theorem sc__law_mixed : FnScope ["_law_cell_here", "_law_k", "_law_number", "_law_found", "_law_turn"] ["_law_cell_here", "_law_k"] (defScope s__law_mixed) := ⟨rfl, rfl, rfl, by decide +kernel, rfl, by decide +kernel, by decide +kernel⟩
theorem sc__law_turned : FnScope ["_law_term_here", "_law_names_here", "_law_cell_here"] ["_law_term_here", "_law_names_here", "_law_cell_here"] (defScope s__law_turned) := ⟨rfl, rfl, rfl, by decide +kernel, rfl, by decide +kernel, by decide +kernel⟩
theorem sc_law : FnScope ["_law_script", "_law_names_here", "_law_before", "_law_k", "_law_cell_here", "_law_term_here", "_law_j"] ["_law_script"] (defScope s_law) := ⟨rfl, rfl, rfl, by decide +kernel, rfl, by decide +kernel, by decide +kernel⟩
section
variable {P : Program} {w : World} {K : PySem.W.Frag} {mg : Str → Option Value} {base : Heap} {f : Addr} {fd : FuncData} {k : Nat}
theorem ok__law_names (T : Gm  mg) (Fu : Fun K "_law_names" "_law_names" s__law_names f fd) (hmg : mg "_law_names" = some (.ref f)) (hbi : Binds K fd ["_law_cell_here"] []) :
    Av P w K mg base (k + 1) "_law_names" ["_law_cell_here"] true (runF true 9 (g__law_names)) :=
  av_ok true Fu hmg sc__law_names hbi fun cdv A outer s H E hr =>
    (dss_cons (by exact (ds_setS 1 sc__law_names.nd (de_str (l := .s))))
  (by exact (dss_cons (by exact (ds_setS 2 sc__law_names.nd (DE.s (de_opT op_addD od_add (de_int (l := .s)) (de_op (l := .s) op_mod od_mod (DE.b (dv 0)) (de_int (l := .b)))))))
  (by exact (dss_cons (by exact (ds_setS 3 sc__law_names.nd (de_op (l := .s) op_mod od_mod (de_op (l := .b) op_fdiv od_fdiv (DE.b (dv 0)) (de_int (l := .b))) (DE.b (dv 2)))))
  (by exact (dss_cons (by exact (ds_set 4 sc__law_names.nd (de_lst da_nil)))
  (by exact (dss_cons (by exact (ds_for PassesOwn.never rfl (di_range1 rfl T.b_range (da_cons (de_int (l := .b)) da_nil)) (dg_name 5 sc__law_names.nd) (dss_cons (by exact (ds_setS 6 sc__law_names.nd (de_str (l := .s))))
    (by exact (dss_cons (by exact (ds_for PassesOwn.never rfl (di_range1 rfl T.b_range (da_cons (DE.b (dv 2)) da_nil)) (dg_name 7 sc__law_names.nd) (dss_cons (by exact (ds_setS 8 sc__law_names.nd (DE.s (de_opT op_addD od_add (de_op (l := .s) op_fdiv od_fdiv (de_op (l := .b) op_fdiv od_fdiv (DE.b (dv 0)) (de_int (l := .b))) (DE.b (de_opT op_addD od_add (de_op (l := .s) op_mulB od_mul (DE.b (dv 7)) (DE.b (dv 7))) (de_int (l := .s))))) (de_op (l := .s) op_mulB od_mul (de_int (l := .b)) (DE.b (dv 7)))))))
      (by exact (dss_cons (by exact (ds_if (dt_cmp (op_eqD (Room.u200 hr)) od_eq (DE.b (dv 7)) (DE.b (dv 3))) (dss_one (ds_setS 8 sc__law_names.nd (DE.s (de_opT op_addD od_add (dv 8) (dv 5))))) dss_nil))
      (by exact (dss_one (ds_setS 6 sc__law_names.nd (DE.s (de_opT op_addD od_add (dv 6) (de_ix (dv 1) (de_op (l := .b) op_mod od_mod (DE.b (dv 8)) (de_int (l := .b))))))))))))))
    (by exact (dss_one (ds_append 4 (dv 6)))))))))
  (by exact (dss_cons (by exact (ds_if (DW.dt (dw_and (dt_cmp (op_eqD (Room.u200 hr)) od_eq (de_op (l := .b) op_mod od_mod (de_op (l := .b) op_fdiv od_fdiv (DE.b (dv 0)) (de_int (l := .b))) (de_int (l := .b))) (de_int (l := .b))) (dw_and1 (dt_cmp op_lt od_lt (DE.b (dv 2)) (de_int (l := .b)))))) (dss_one (ds_frz 4 (ds_comp 4 sc__law_names.nd false ["_law_k", "_law_name", "."] 2 [] (comp_sc rfl rfl (show (["_law_k", "_law_name", "."] : List Str).Nodup by decide +kernel) (by intro p hp; cases hp) rfl) rfl (di_enum rfl T.b_enumerate (dv 4)) (fun C s₂ H₂ fp => ⟨(dg_two rfl (dg_name 0 (show (["_law_k", "_law_name", "."] : List Str).Nodup by decide +kernel)) (dg_name 1 (show (["_law_k", "_law_name", "."] : List Str).Nodup by decide +kernel))), dts_nil, (DE.s (de_opT op_addD od_add (dv 1) (DE.s (de_slice (dv 1) do_none (do_some (DE.b (dv 0)))))))⟩)))) dss_nil))
  (by exact (dss_one (ds_retV 4))))))))))))))
theorem ok__law_cell (T : Gm  mg) (Fu : Fun K "_law_cell" "_law_cell" s__law_cell f fd) (hmg : mg "_law_cell" = some (.ref f)) (hbi : Binds K fd ["_law_script", "_law_k"] []) :
    Av P w K mg base (k + 1) "_law_cell" ["_law_script", "_law_k"] false (runF false 2 (g__law_cell)) :=
  av_ok false Fu hmg sc__law_cell hbi fun cdv A outer s H E hr =>
    (dss_cons (by exact (ds_if (dt_cmp op_lt od_lt (DE.b (dv 1)) (de_callB (l' := .b) call_lenA cd_len rfl T.b_len PySem.boot_len (da_cons (DE.b (dv 0)) da_nil))) (dss_one (ds_retS (de_ix (dv 0) (DE.b (dv 1))))) dss_nil))
  (by exact (dss_one (ds_ret (de_int (l := .t))))))
theorem ok__law_term {f__law_term : List D → Res D} (T : Gm  mg) (Fu : Fun K "_law_term" "_law_term" s__law_term f fd) (hmg : mg "_law_term" = some (.ref f)) (hbi : Binds K fd ["_law_number", "_law_names_here", "_law_deep", "_law_most"] []) (A__law_term : Av P w K mg base k "_law_term" ["_law_number", "_law_names_here", "_law_deep", "_law_most"] true f__law_term) :
    Av P w K mg base (k + 1) "_law_term" ["_law_number", "_law_names_here", "_law_deep", "_law_most"] true (runF true 9 (g__law_term f__law_term)) :=
  av_ok true Fu hmg sc__law_term hbi fun cdv A outer s H E hr =>
    (dss_cons (by exact (ds_asg (DE.s (de_callN call_divmod cd_divmod rfl T.b_divmod boot_divmodG (da_cons (dv 0) (da_cons (by exact (de_callB (l' := .s) call_lenA cd_len rfl T.b_len PySem.boot_len (da_cons (DE.b (dv 1)) da_nil))) da_nil)))) (dg_two rfl (dg_name 0 sc__law_term.nd) (dg_name 7 sc__law_term.nd))))
  (by exact (dss_cons (by exact (ds_setS 4 sc__law_term.nd (de_int (l := .s))))
  (by exact (dss_cons (by exact (ds_if (dt_cmp op_gt od_gt (DE.b (dv 2)) (de_int (l := .b))) (dss_one (ds_asg (DE.s (de_callN call_divmod cd_divmod rfl T.b_divmod boot_divmodG (da_cons (dv 0) (da_cons (by exact (DE.s (de_opT op_addD od_add (dv 3) (de_int (l := .s))))) da_nil)))) (dg_two rfl (dg_name 0 sc__law_term.nd) (dg_name 4 sc__law_term.nd)))) dss_nil))
  (by exact (dss_cons (by exact (ds_set 5 sc__law_term.nd (de_lst (da_cons (by exact (de_ix (dv 1) (DE.b (dv 7)))) da_nil))))
  (by exact (dss_cons (by exact (ds_for PassesOwn.never rfl (di_range1 rfl T.b_range (da_cons (DE.b (dv 4)) da_nil)) (dg_name 6 sc__law_term.nd) (dss_cons (by exact (ds_asg (DE.s (by exact Av.callT A__law_term hr (da_cons (dv 0) (da_cons (dv 1) (da_cons (by exact (de_op (l := .s) op_sub od_sub (DE.b (dv 2)) (de_int (l := .b)))) (da_cons (dv 3) da_nil)))))) (dg_two rfl (dg_name 0 sc__law_term.nd) (dg_name 8 sc__law_term.nd))))
    (by exact (dss_one (ds_append 5 (dv 8)))))))
  (by exact (dss_one (ds_ret (de_tup (da_cons (dv 0) (da_cons (by exact (DE.chk (l' := .s) (de_callTyB call_tuple_of cd_tuple rfl T.b_tuple PyProof.Rows.boot_tuple (da_cons (db 5) da_nil)))) da_nil)))))))))))))))
theorem ok__law_key {f__law_key : List D → Res D} (T : Gm  mg) (Fu : Fun K "_law_key" "_law_key" s__law_key f fd) (hmg : mg "_law_key" = some (.ref f)) (hbi : Binds K fd ["_law_term_here"] []) (A__law_key : Av P w K mg base k "_law_key" ["_law_term_here"] true f__law_key) :
    Av P w K mg base (k + 1) "_law_key" ["_law_term_here"] true (runF true 3 (g__law_key f__law_key)) :=
  av_ok true Fu hmg sc__law_key hbi fun cdv A outer s H E hr =>
    (dss_cons (by exact (ds_compS 1 sc__law_key.nd false ["_law_place", "."] 1 [] (comp_sc rfl rfl (show (["_law_place", "."] : List Str).Nodup by decide +kernel) (by intro p hp; cases hp) rfl) rfl (di_seq (DE.s (de_slice (dv 0) (do_some (de_int (l := .b))) do_none))) (fun C s₂ H₂ fp => ⟨(dg_name 0 (show (["_law_place", "."] : List Str).Nodup by decide +kernel)), dts_nil, (DE.s (by exact Av.callT A__law_key hr (da_cons (dv 0) da_nil)))⟩)))
  (by exact (dss_cons (by exact (ds_setS 2 sc__law_key.nd (DE.s (de_opT op_addD od_add (de_int (l := .s)) (de_callB (l' := .s) (call_sumL rfl) cd_sumL rfl T.b_sum boot_sumG (da_cons (by exact (DE.b (de_comp false ["_law_key_here", "."] 1 [] (comp_sc rfl rfl (show (["_law_key_here", "."] : List Str).Nodup by decide +kernel) (by intro p hp; cases hp) rfl) rfl (di_seq (dv 1)) (fun C s₂ H₂ fp => ⟨(dg_name 0 (show (["_law_key_here", "."] : List Str).Nodup by decide +kernel)), dts_nil, (de_ix (dv 0) (de_int (l := .b)))⟩)))) da_nil))))))
  (by exact (dss_one (ds_ret (de_callTy call_tuple_of cd_tuple rfl T.b_tuple PyProof.Rows.boot_tuple (da_cons (by exact (DE.s (de_opT op_addD od_add (DE.s (de_lst (da_cons (dv 2) (da_cons (by exact (de_ix (dv 0) (de_int (l := .b)))) (da_cons (by exact (de_callB (l' := .s) call_lenA cd_len rfl T.b_len PySem.boot_len (da_cons (DE.b (dv 1)) da_nil))) da_nil))))) (dv 1)))) da_nil))))))))
theorem ok_weight_above (T : Gm  mg) (Fu : Fun K "weight_above" "weight_above" s_weight_above f fd) (hmg : mg "weight_above" = some (.ref f)) (hbi : Binds K fd ["found", "below"] []) :
    Av P w K mg base (k + 1) "weight_above" ["found", "below"] true (runF true 2 (g_weight_above)) :=
  av_ok true Fu hmg sc_weight_above hbi fun cdv A outer s H E hr =>
    (dss_one (ds_ret (de_opT op_addD od_add (DE.s (de_tup (da_cons (by exact (DE.s (de_opT op_addD od_add (de_int (l := .s)) (de_callB (l' := .s) (call_sumL rfl) cd_sumL rfl T.b_sum boot_sumG (da_cons (by exact (DE.b (de_comp false ["weight", "."] 1 [] (comp_sc rfl rfl (show (["weight", "."] : List Str).Nodup by decide +kernel) (by intro p hp; cases hp) rfl) rfl (di_seq (dv 1)) (fun C s₂ H₂ fp => ⟨(dg_name 0 (show (["weight", "."] : List Str).Nodup by decide +kernel)), dts_nil, (de_ix (dv 0) (de_int (l := .b)))⟩)))) da_nil))))) (da_cons (dv 0) da_nil)))) (DE.s (de_callTy call_tuple_of cd_tuple rfl T.b_tuple PyProof.Rows.boot_tuple (da_cons (dv 1) da_nil))))))
theorem ok_head (T : Gm  mg) (Fu : Fun K "head" "head" s_head f fd) (hmg : mg "head" = some (.ref f)) (hbi : Binds K fd ["term"] []) :
    Av P w K mg base (k + 1) "head" ["term"] true (runF true 1 (g_head)) :=
  av_ok true Fu hmg sc_head hbi fun cdv A outer s H E hr =>
    (dss_one (ds_ret (de_ifx (dt_val (de_isi (l' := .b) "tuple" "tuple" isTy_tuple (DE.b (dv 0)) rfl T.b_isinstance rfl T.b_tuple PyProof.Rows.boot_tuple)) (de_tup (da_cons (by exact (de_ix (dv 0) (de_int (l := .b)))) (da_cons (by exact (de_op (l := .s) op_sub od_sub (de_callB (l' := .b) call_lenA cd_len rfl T.b_len PySem.boot_len (da_cons (DE.b (dv 0)) da_nil)) (de_int (l := .b)))) da_nil))) (de_non (l := .t)))))
theorem ok_places (T : Gm  mg) (Fu : Fun K "places" "places" s_places f fd) (hmg : mg "places" = some (.ref f)) (hbi : Binds K fd ["term"] []) :
    Av P w K mg base (k + 1) "places" ["term"] true (runF true 1 (g_places)) :=
  av_ok true Fu hmg sc_places hbi fun cdv A outer s H E hr =>
    (dss_one (ds_ret (de_ifx (dt_val (de_isi (l' := .b) "tuple" "tuple" isTy_tuple (DE.b (dv 0)) rfl T.b_isinstance rfl T.b_tuple PyProof.Rows.boot_tuple)) (de_slice (dv 0) (do_some (de_int (l := .b))) do_none) (de_tup da_nil))))
theorem ok_weighed {f_weight_above : List D → Res D} {f_head : List D → Res D} {f_weighed : List D → Res D} {f_places : List D → Res D} (T : Gm  mg) (Fu : Fun K "weighed" "weighed" s_weighed f fd) (hmg : mg "weighed" = some (.ref f)) (hbi : Binds K fd ["term"] []) (A_weight_above : Av P w K mg base k "weight_above" ["found", "below"] true f_weight_above) (A_head : Av P w K mg base k "head" ["term"] true f_head) (A_weighed : Av P w K mg base k "weighed" ["term"] true f_weighed) (A_places : Av P w K mg base k "places" ["term"] true f_places) :
    Av P w K mg base (k + 1) "weighed" ["term"] true (runF true 1 (g_weighed f_weight_above f_head f_weighed f_places)) :=
  av_ok true Fu hmg sc_weighed hbi fun cdv A outer s H E hr =>
    (dss_one (ds_ret (by exact Av.callT A_weight_above hr (da_cons (by exact (DE.s (by exact Av.callT A_head hr (da_cons (dv 0) da_nil)))) (da_cons (by exact (DE.s (de_comp false ["place", "."] 1 [] (comp_sc rfl rfl (show (["place", "."] : List Str).Nodup by decide +kernel) (by intro p hp; cases hp) rfl) rfl (di_seq (DE.s (by exact Av.callT A_places hr (da_cons (dv 0) da_nil)))) (fun C s₂ H₂ fp => ⟨(dg_name 0 (show (["place", "."] : List Str).Nodup by decide +kernel)), dts_nil, (DE.s (by exact Av.callT A_weighed hr (da_cons (dv 0) da_nil)))⟩)))) da_nil)))))
theorem ok_beyond {f_weighed : List D → Res D} (T : Gm  mg) (Fu : Fun K "beyond" "beyond" s_beyond f fd) (hmg : mg "beyond" = some (.ref f)) (hbi : Binds K fd ["one", "other"] []) (A_weighed : Av P w K mg base k "weighed" ["term"] true f_weighed) :
    Av P w K mg base (k + 1) "beyond" ["one", "other"] true (runF true 2 (g_beyond f_weighed)) :=
  av_ok true Fu hmg sc_beyond hbi fun cdv A outer s H E hr =>
    (dss_one (ds_ret (de_cmp (l := .t) (op_gtD (Room.u200 hr)) od_gtD (DE.b (by exact Av.callT A_weighed hr (da_cons (dv 0) da_nil))) (DE.b (by exact Av.callT A_weighed hr (da_cons (dv 1) da_nil))))))
theorem ok__law_asked {f__law_key : List D → Res D} {f_beyond : List D → Res D} (T : Gm  mg) (Fu : Fun K "_law_asked" "_law_asked" s__law_asked f fd) (hmg : mg "_law_asked" = some (.ref f)) (hbi : Binds K fd ["_law_one", "_law_other"] []) (A__law_key : Av P w K mg base k "_law_key" ["_law_term_here"] true f__law_key) (A_beyond : Av P w K mg base k "beyond" ["one", "other"] true f_beyond) :
    Av P w K mg base (k + 1) "_law_asked" ["_law_one", "_law_other"] true (runF true 5 (g__law_asked f__law_key f_beyond)) :=
  av_ok true Fu hmg sc__law_asked hbi fun cdv A outer s H E hr =>
    (dss_cons (by exact (ds_setS 2 sc__law_asked.nd (DE.s (by exact Av.callT A__law_key hr (da_cons (dv 0) da_nil)))))
  (by exact (dss_cons (by exact (ds_setS 3 sc__law_asked.nd (DE.s (by exact Av.callT A__law_key hr (da_cons (dv 1) da_nil)))))
  (by exact (dss_cons (by exact (ds_setS 4 sc__law_asked.nd (DE.s (de_lst (da_cons (by exact (DE.s (by exact Av.callT A_beyond hr (da_cons (dv 0) (da_cons (dv 1) da_nil))))) (da_cons (by exact (DE.s (by exact Av.callT A_beyond hr (da_cons (dv 1) (da_cons (dv 0) da_nil))))) da_nil))))))
  (by exact (dss_cons (by exact (ds_if (DW.dt (dw_or (dt_not (dt_val (de_isi (l' := .b) "bool" "bool" isTy_bool (DE.b (de_ix (dv 4) (de_int (l := .b)))) rfl T.b_isinstance rfl T.b_bool PyProof.Rows.boot_bool))) (dw_or1 (dt_not (dt_val (de_isi (l' := .b) "bool" "bool" isTy_bool (DE.b (de_ix (dv 4) (de_int (l := .b)))) rfl T.b_isinstance rfl T.b_bool PyProof.Rows.boot_bool)))))) (dss_one (ds_ret (de_bl (l := .t)))) dss_nil))
  (by exact (dss_cons (by exact (ds_if (dt_cmp (op_neD (Room.u200 hr)) od_ne (DE.b (dv 4)) (DE.b (de_lst (da_cons (by exact (de_cmp (l := .s) (op_gtD (Room.u200 hr)) od_gtD (DE.b (dv 2)) (DE.b (dv 3)))) (da_cons (by exact (de_cmp (l := .s) (op_gtD (Room.u200 hr)) od_gtD (DE.b (dv 3)) (DE.b (dv 2)))) da_nil))))) (dss_one (ds_ret (de_bl (l := .t)))) dss_nil))
  (by exact (dss_one (ds_ret (de_or (DE.b (de_ix (dv 4) (de_int (l := .b)))) (de_or (DE.b (de_ix (dv 4) (de_int (l := .b)))) (de_one (de_cmp (l := .t) (op_eqD (Room.u200 hr)) od_eq (DE.b (dv 0)) (DE.b (dv 1))))))))))))))))))
theorem ok__law_mixed (T : Gm  mg) (Fu : Fun K "_law_mixed" "_law_mixed" s__law_mixed f fd) (hmg : mg "_law_mixed" = some (.ref f)) (hbi : Binds K fd ["_law_cell_here", "_law_k"] []) :
    Av P w K mg base (k + 1) "_law_mixed" ["_law_cell_here", "_law_k"] false (runF false 5 (g__law_mixed)) :=
  av_ok false Fu hmg sc__law_mixed hbi fun cdv A outer s H E hr =>
    (dss_cons (by exact (ds_setS 2 sc__law_mixed.nd (de_op (l := .s) op_mod od_mod (de_op (l := .b) op_mulB od_mul (DE.b (de_opT op_addD od_add (DE.s (de_opT op_addD od_add (de_op (l := .s) op_mod od_mod (DE.b (dv 0)) (de_int (l := .b))) (de_op (l := .s) op_mulB od_mul (de_int (l := .b)) (DE.b (dv 1))))) (de_int (l := .s)))) (de_int (l := .b))) (de_int (l := .b)))))
  (by exact (dss_cons (by exact (ds_setS 3 sc__law_mixed.nd (de_int (l := .s))))
  (by exact (dss_cons (by exact (ds_for PassesOwn.never rfl (di_range1 rfl T.b_range (da_cons (de_int (l := .b)) da_nil)) (dg_name 4 sc__law_mixed.nd) (dss_cons (by exact (ds_setS 2 sc__law_mixed.nd (de_op (l := .s) op_mod od_mod (DE.b (de_opT op_addD od_add (DE.s (de_opT op_addD od_add (de_op (l := .s) op_mulB od_mul (DE.b (dv 2)) (de_int (l := .b))) (de_op (l := .s) op_mulB od_mul (de_int (l := .b)) (DE.b (dv 4))))) (de_int (l := .s)))) (de_int (l := .b)))))
    (by exact (dss_one (ds_setS 3 sc__law_mixed.nd (DE.s (de_opT op_addD od_add (de_op (l := .s) op_mulB od_mul (DE.b (dv 3)) (de_int (l := .b))) (dv 2)))))))))
  (by exact (dss_one (ds_retS (dv 3)))))))))
theorem ok__law_turned (T : Gm  mg) (Fu : Fun K "_law_turned" "_law_turned" s__law_turned f fd) (hmg : mg "_law_turned" = some (.ref f)) (hbi : Binds K fd ["_law_term_here", "_law_names_here", "_law_cell_here"] []) :
    Av P w K mg base (k + 1) "_law_turned" ["_law_term_here", "_law_names_here", "_law_cell_here"] true (runF true 3 (g__law_turned)) :=
  av_ok true Fu hmg sc__law_turned hbi fun cdv A outer s H E hr =>
    (dss_cons (by exact (ds_if (dt_cmp (op_eqD (Room.u200 hr)) od_eq (de_op (l := .b) op_mod od_mod (DE.b (dv 2)) (de_int (l := .b))) (de_int (l := .b))) (dss_one (ds_ret (de_opT op_addD od_add (DE.s (de_tup (da_cons (by exact (de_ix (dv 1) (de_op (l := .b) op_mod od_mod (de_op (l := .b) op_fdiv od_fdiv (DE.b (dv 2)) (de_int (l := .b))) (de_callB (l' := .b) call_lenA cd_len rfl T.b_len PySem.boot_len (da_cons (DE.b (dv 1)) da_nil))))) da_nil))) (DE.s (de_slice (dv 0) (do_some (de_int (l := .b))) do_none))))) dss_nil))
  (by exact (dss_cons (by exact (ds_if (dt_cmp (op_eqD (Room.u200 hr)) od_eq (de_op (l := .b) op_mod od_mod (DE.b (dv 2)) (de_int (l := .b))) (de_int (l := .b))) (dss_one (ds_ret (de_opT op_addD od_add (DE.s (de_slice (dv 0) do_none (do_some (de_int (l := .b))))) (DE.s (de_tupRev rfl rfl T.b_tuple rfl T.b_reversed (by exact (DE.s (de_slice (dv 0) (do_some (de_int (l := .b))) do_none)))))))) dss_nil))
  (by exact (dss_one (ds_ret (de_slice (dv 0) do_none (do_some (de_callB (l' := .b) (call_max2 rfl) cd_max rfl T.b_max boot_maxG (da_cons (de_int (l := .b)) (da_cons (by exact (de_op (l := .b) op_sub od_sub (de_callB (l' := .b) call_lenA cd_len rfl T.b_len PySem.boot_len (da_cons (DE.b (dv 0)) da_nil)) (de_int (l := .b)))) da_nil)))))))))))
theorem ok_law {f__law_names : List D → Res D} {f__law_cell : List D → Res D} {f__law_term : List D → Res D} {f__law_asked : List D → Res D} {f__law_mixed : List D → Res D} {f__law_turned : List D → Res D} (T : Gm  mg) (Fu : Fun K "law" "law" s_law f fd) (A__law_names : Av P w K mg base k "_law_names" ["_law_cell_here"] true f__law_names) (A__law_cell : Av P w K mg base k "_law_cell" ["_law_script", "_law_k"] false f__law_cell) (A__law_term : Av P w K mg base k "_law_term" ["_law_number", "_law_names_here", "_law_deep", "_law_most"] true f__law_term) (A__law_asked : Av P w K mg base k "_law_asked" ["_law_one", "_law_other"] true f__law_asked) (A__law_mixed : Av P w K mg base k "_law_mixed" ["_law_cell_here", "_law_k"] false f__law_mixed) (A__law_turned : Av P w K mg base k "_law_turned" ["_law_term_here", "_law_names_here", "_law_cell_here"] true f__law_turned) :
    FnOk P w K mg base CX0 (k + 1) f fd ["_law_script"] (spF K true 1 (runF true 7 (g_law f__law_names f__law_cell f__law_term f__law_asked f__law_mixed f__law_turned))) :=
  fn_of_body true Fu sc_law fun cdv A outer s H E hr =>
    (dss_cons (by exact (ds_setS 1 sc_law.nd (DE.s (by exact Av.callT A__law_names hr (da_cons (by exact (de_op (l := .s) op_mod od_mod (DE.b (by exact Av.call A__law_cell hr (da_cons (dv 0) (da_cons (de_int (l := .s)) da_nil)))) (de_op (l := .b) op_pow od_pow (de_int (l := .b)) (de_int (l := .b))))) da_nil)))))
  (by exact (dss_cons (by exact (ds_setS 2 sc_law.nd (DE.s (de_tup (da_cons (by exact (de_ix (dv 1) (de_int (l := .b)))) da_nil)))))
  (by exact (dss_cons (by exact (ds_for PassesOwn.never rfl (di_range2 rfl T.b_range (da_cons (de_int (l := .b)) (da_cons (by exact (de_callB (l' := .b) (call_min2 rfl) cd_min rfl T.b_min boot_minG (da_cons (de_int (l := .b)) (da_cons (by exact (de_callB (l' := .b) (call_max2 rfl) cd_max rfl T.b_max boot_maxG (da_cons (de_int (l := .b)) (da_cons (by exact (de_callB (l' := .b) call_lenA cd_len rfl T.b_len PySem.boot_len (da_cons (DE.b (dv 0)) da_nil))) da_nil)))) da_nil)))) da_nil))) (dg_name 3 sc_law.nd) (dss_cons (by exact (ds_setS 4 sc_law.nd (de_op (l := .s) op_mod od_mod (DE.b (by exact Av.call A__law_cell hr (da_cons (dv 0) (da_cons (dv 3) da_nil)))) (de_op (l := .b) op_pow od_pow (de_int (l := .b)) (de_int (l := .b))))))
    (by exact (dss_cons (by exact (ds_setS 5 sc_law.nd (de_ix (DE.s (by exact Av.callT A__law_term hr (da_cons (by exact (by exact Av.call A__law_mixed hr (da_cons (dv 4) (da_cons (dv 3) da_nil)))) (da_cons (dv 1) (da_cons (de_int (l := .s)) (da_cons (de_int (l := .s)) da_nil)))))) (de_int (l := .b)))))
    (by exact (dss_cons (by exact (ds_if (dt_cmp (op_eqD (Room.u200 hr)) od_eq (de_op (l := .b) op_mod od_mod (DE.b (dv 4)) (de_int (l := .b))) (de_int (l := .b))) (dss_one (ds_for PassesOwn.never rfl (di_range1 rfl T.b_range (da_cons (by exact (de_op (l := .b) op_mod od_mod (de_op (l := .b) op_fdiv od_fdiv (DE.b (dv 4)) (de_int (l := .b))) (de_int (l := .b)))) da_nil)) (dg_name 6 sc_law.nd) (dss_one (ds_setS 5 sc_law.nd (DE.s (de_tup (da_cons (by exact (de_ix (dv 1) (de_op (l := .b) op_mod od_mod (DE.b (de_opT op_addD od_add (de_op (l := .s) op_fdiv od_fdiv (DE.b (dv 4)) (de_int (l := .b))) (de_op (l := .s) op_mulB od_mul (DE.b (dv 6)) (DE.b (dv 6))))) (de_int (l := .b))))) (da_cons (dv 5) da_nil)))))))) dss_nil))
    (by exact (dss_cons (by exact (ds_if (DW.dt (dw_or (dt_not (dt_val (DE.b (by exact Av.callT A__law_asked hr (da_cons (dv 5) (da_cons (dv 2) da_nil)))))) (dw_or1 (dt_not (dt_val (DE.b (by exact Av.callT A__law_asked hr (da_cons (dv 5) (da_cons (dv 5) da_nil))))))))) (dss_one (ds_ret (de_bl (l := .t)))) dss_nil))
    (by exact (dss_cons (by exact (ds_if (dt_not (dt_val (DE.b (by exact Av.callT A__law_asked hr (da_cons (dv 5) (da_cons (by exact (DE.s (by exact Av.callT A__law_turned hr (da_cons (dv 5) (da_cons (dv 1) (da_cons (by exact (de_op (l := .s) op_fdiv od_fdiv (DE.b (dv 4)) (de_int (l := .b)))) da_nil)))))) da_nil)))))) (dss_one (ds_ret (de_bl (l := .t)))) dss_nil))
    (by exact (dss_one (ds_setS 2 sc_law.nd (dv 5)))))))))))))))
  (by exact (dss_one (ds_ret (de_bl (l := .t))))))))))
end
end G

set_option Elab.async false
set_option linter.all false
set_option maxRecDepth 100000
set_option maxHeartbeats 4000000
namespace G
open PySem PySem.Spec L2 M
open PyProof.Rows hiding St
/-! ### the program's top -/
theorem all_mk {l : PySem.W.OpenLaw} {w : World} {K : PySem.W.Frag} {h : Heap} {mg : Str → Option Value} {fa p0 p1 p2 p3 p4 p5 p6 p7 p8 p9 p10 p11 p12 : Addr} (KX : K.In h) (G : h.Ns mainGlobals mg) (hfa : mg "law" = some (.ref fa))
    {od0 an0 od1 an1 od2 an2 od3 an3 od4 an4 od5 an5 od6 an6 od7 an7 od8 an8 od9 an9 od10 an10 od11 an11 od12 an12 : Option Addr} {sl0 sl1 sl2 sl3 sl4 sl5 sl6 sl7 sl8 sl9 sl10 sl11 sl12 : Array (Option Value)} {oc0 kV0 dc0 pm0 cd0 ct0 oc1 kV1 dc1 pm1 cd1 ct1 oc2 kV2 dc2 pm2 cd2 ct2 oc3 kV3 dc3 pm3 cd3 ct3 oc4 kV4 dc4 pm4 cd4 ct4 oc5 kV5 dc5 pm5 cd5 ct5 oc6 kV6 dc6 pm6 cd6 ct6 oc7 kV7 dc7 pm7 cd7 ct7 oc8 kV8 dc8 pm8 cd8 ct8 oc9 kV9 dc9 pm9 cd9 ct9 oc10 kV10 dc10 pm10 cd10 ct10 oc11 kV11 dc11 pm11 cd11 ct11 oc12 kV12 dc12 pm12 cd12 ct12 : Value}
    (a0 : PySem.W.nsIn K mainGlobals "_law_names" = some (some (.ref p0))) (l0 : K.lookup p0 = some ⟨oc0, od0, .func (PySem.W.fnOf "_law_names" "_law_names" (defArgs s__law_names) (defBody s__law_names) (defScope s__law_names) .none kV0 dc0 pm0 an0 cd0 ct0), sl0⟩) (c0 : PySem.W.codeIn K cd0 "_law_names" = true) (k0 : PySem.W.keepIn K (.ref p0) = true)
    (a1 : PySem.W.nsIn K mainGlobals "_law_cell" = some (some (.ref p1))) (l1 : K.lookup p1 = some ⟨oc1, od1, .func (PySem.W.fnOf "_law_cell" "_law_cell" (defArgs s__law_cell) (defBody s__law_cell) (defScope s__law_cell) .none kV1 dc1 pm1 an1 cd1 ct1), sl1⟩) (c1 : PySem.W.codeIn K cd1 "_law_cell" = true) (k1 : PySem.W.keepIn K (.ref p1) = true)
    (a2 : PySem.W.nsIn K mainGlobals "_law_term" = some (some (.ref p2))) (l2 : K.lookup p2 = some ⟨oc2, od2, .func (PySem.W.fnOf "_law_term" "_law_term" (defArgs s__law_term) (defBody s__law_term) (defScope s__law_term) .none kV2 dc2 pm2 an2 cd2 ct2), sl2⟩) (c2 : PySem.W.codeIn K cd2 "_law_term" = true) (k2 : PySem.W.keepIn K (.ref p2) = true)
    (a3 : PySem.W.nsIn K mainGlobals "_law_key" = some (some (.ref p3))) (l3 : K.lookup p3 = some ⟨oc3, od3, .func (PySem.W.fnOf "_law_key" "_law_key" (defArgs s__law_key) (defBody s__law_key) (defScope s__law_key) .none kV3 dc3 pm3 an3 cd3 ct3), sl3⟩) (c3 : PySem.W.codeIn K cd3 "_law_key" = true) (k3 : PySem.W.keepIn K (.ref p3) = true)
    (a4 : PySem.W.nsIn K mainGlobals "weight_above" = some (some (.ref p4))) (l4 : K.lookup p4 = some ⟨oc4, od4, .func (PySem.W.fnOf "weight_above" "weight_above" (defArgs s_weight_above) (defBody s_weight_above) (defScope s_weight_above) .none kV4 dc4 pm4 an4 cd4 ct4), sl4⟩) (c4 : PySem.W.codeIn K cd4 "weight_above" = true) (k4 : PySem.W.keepIn K (.ref p4) = true)
    (a5 : PySem.W.nsIn K mainGlobals "head" = some (some (.ref p5))) (l5 : K.lookup p5 = some ⟨oc5, od5, .func (PySem.W.fnOf "head" "head" (defArgs s_head) (defBody s_head) (defScope s_head) .none kV5 dc5 pm5 an5 cd5 ct5), sl5⟩) (c5 : PySem.W.codeIn K cd5 "head" = true) (k5 : PySem.W.keepIn K (.ref p5) = true)
    (a6 : PySem.W.nsIn K mainGlobals "places" = some (some (.ref p6))) (l6 : K.lookup p6 = some ⟨oc6, od6, .func (PySem.W.fnOf "places" "places" (defArgs s_places) (defBody s_places) (defScope s_places) .none kV6 dc6 pm6 an6 cd6 ct6), sl6⟩) (c6 : PySem.W.codeIn K cd6 "places" = true) (k6 : PySem.W.keepIn K (.ref p6) = true)
    (a7 : PySem.W.nsIn K mainGlobals "weighed" = some (some (.ref p7))) (l7 : K.lookup p7 = some ⟨oc7, od7, .func (PySem.W.fnOf "weighed" "weighed" (defArgs s_weighed) (defBody s_weighed) (defScope s_weighed) .none kV7 dc7 pm7 an7 cd7 ct7), sl7⟩) (c7 : PySem.W.codeIn K cd7 "weighed" = true) (k7 : PySem.W.keepIn K (.ref p7) = true)
    (a8 : PySem.W.nsIn K mainGlobals "beyond" = some (some (.ref p8))) (l8 : K.lookup p8 = some ⟨oc8, od8, .func (PySem.W.fnOf "beyond" "beyond" (defArgs s_beyond) (defBody s_beyond) (defScope s_beyond) .none kV8 dc8 pm8 an8 cd8 ct8), sl8⟩) (c8 : PySem.W.codeIn K cd8 "beyond" = true) (k8 : PySem.W.keepIn K (.ref p8) = true)
    (a9 : PySem.W.nsIn K mainGlobals "_law_asked" = some (some (.ref p9))) (l9 : K.lookup p9 = some ⟨oc9, od9, .func (PySem.W.fnOf "_law_asked" "_law_asked" (defArgs s__law_asked) (defBody s__law_asked) (defScope s__law_asked) .none kV9 dc9 pm9 an9 cd9 ct9), sl9⟩) (c9 : PySem.W.codeIn K cd9 "_law_asked" = true) (k9 : PySem.W.keepIn K (.ref p9) = true)
    (a10 : PySem.W.nsIn K mainGlobals "_law_mixed" = some (some (.ref p10))) (l10 : K.lookup p10 = some ⟨oc10, od10, .func (PySem.W.fnOf "_law_mixed" "_law_mixed" (defArgs s__law_mixed) (defBody s__law_mixed) (defScope s__law_mixed) .none kV10 dc10 pm10 an10 cd10 ct10), sl10⟩) (c10 : PySem.W.codeIn K cd10 "_law_mixed" = true) (k10 : PySem.W.keepIn K (.ref p10) = true)
    (a11 : PySem.W.nsIn K mainGlobals "_law_turned" = some (some (.ref p11))) (l11 : K.lookup p11 = some ⟨oc11, od11, .func (PySem.W.fnOf "_law_turned" "_law_turned" (defArgs s__law_turned) (defBody s__law_turned) (defScope s__law_turned) .none kV11 dc11 pm11 an11 cd11 ct11), sl11⟩) (c11 : PySem.W.codeIn K cd11 "_law_turned" = true) (k11 : PySem.W.keepIn K (.ref p11) = true)
    (a12 : PySem.W.nsIn K mainGlobals "law" = some (some (.ref p12))) (l12 : K.lookup p12 = some ⟨oc12, od12, .func (PySem.W.fnOf "law" "law" (defArgs s_law) (defBody s_law) (defScope s_law) .none kV12 dc12 pm12 an12 cd12 ct12), sl12⟩) (c12 : PySem.W.codeIn K cd12 "law" = true) (k12 : PySem.W.keepIn K (.ref p12) = true)
    (z0 : PySem.W.nsIn K mainGlobals "isinstance" = some none)
    (z1 : PySem.W.nsIn K mainGlobals "tuple" = some none)
    (z2 : PySem.W.nsIn K mainGlobals "len" = some none)
    (z3 : PySem.W.nsIn K mainGlobals "sum" = some none)
    (z4 : PySem.W.nsIn K mainGlobals "max" = some none)
    (z5 : PySem.W.nsIn K mainGlobals "reversed" = some none)
    (z6 : PySem.W.nsIn K mainGlobals "enumerate" = some none)
    (z7 : PySem.W.nsIn K mainGlobals "range" = some none)
    (z8 : PySem.W.nsIn K mainGlobals "divmod" = some none)
    (z9 : PySem.W.nsIn K mainGlobals "bool" = some none)
    (z10 : PySem.W.nsIn K mainGlobals "min" = some none)
    : ∃ fd : FuncData, (∀ (s : Shared) (v : Value), BindsTo s fd ⟨[v], []⟩ [("_law_script", v)]) ∧ ∀ base : Heap, K.In base → base.Ns mainGlobals mg → FnOk l.prog w K mg base CX0 104 fa fd ["_law_script"] (spF K true 1 F_law) := by
  have e := hfa.symm.trans (PySem.W.mg_of KX G a12)
  cases e
  have T : Gm  mg := ⟨PySem.W.mg_none_of KX G z0, PySem.W.mg_none_of KX G z1, PySem.W.mg_none_of KX G z2, PySem.W.mg_none_of KX G z3, PySem.W.mg_none_of KX G z4, PySem.W.mg_none_of KX G z5, PySem.W.mg_none_of KX G z6, PySem.W.mg_none_of KX G z7, PySem.W.mg_none_of KX G z8, PySem.W.mg_none_of KX G z9, PySem.W.mg_none_of KX G z10⟩
  have U0 := fun_mk (st := s__law_names) l0 c0 k0
  have b0 := U0.binds (ps := ["_law_cell_here"]) fun _ _ _ _ _ _ us hl => match us, hl with | [_], _ => rfl
  have U1 := fun_mk (st := s__law_cell) l1 c1 k1
  have b1 := U1.binds (ps := ["_law_script", "_law_k"]) fun _ _ _ _ _ _ us hl => match us, hl with | [_, _], _ => rfl
  have U2 := fun_mk (st := s__law_term) l2 c2 k2
  have b2 := U2.binds (ps := ["_law_number", "_law_names_here", "_law_deep", "_law_most"]) fun _ _ _ _ _ _ us hl => match us, hl with | [_, _, _, _], _ => rfl
  have U3 := fun_mk (st := s__law_key) l3 c3 k3
  have b3 := U3.binds (ps := ["_law_term_here"]) fun _ _ _ _ _ _ us hl => match us, hl with | [_], _ => rfl
  have U4 := fun_mk (st := s_weight_above) l4 c4 k4
  have b4 := U4.binds (ps := ["found", "below"]) fun _ _ _ _ _ _ us hl => match us, hl with | [_, _], _ => rfl
  have U5 := fun_mk (st := s_head) l5 c5 k5
  have b5 := U5.binds (ps := ["term"]) fun _ _ _ _ _ _ us hl => match us, hl with | [_], _ => rfl
  have U6 := fun_mk (st := s_places) l6 c6 k6
  have b6 := U6.binds (ps := ["term"]) fun _ _ _ _ _ _ us hl => match us, hl with | [_], _ => rfl
  have U7 := fun_mk (st := s_weighed) l7 c7 k7
  have b7 := U7.binds (ps := ["term"]) fun _ _ _ _ _ _ us hl => match us, hl with | [_], _ => rfl
  have U8 := fun_mk (st := s_beyond) l8 c8 k8
  have b8 := U8.binds (ps := ["one", "other"]) fun _ _ _ _ _ _ us hl => match us, hl with | [_, _], _ => rfl
  have U9 := fun_mk (st := s__law_asked) l9 c9 k9
  have b9 := U9.binds (ps := ["_law_one", "_law_other"]) fun _ _ _ _ _ _ us hl => match us, hl with | [_, _], _ => rfl
  have U10 := fun_mk (st := s__law_mixed) l10 c10 k10
  have b10 := U10.binds (ps := ["_law_cell_here", "_law_k"]) fun _ _ _ _ _ _ us hl => match us, hl with | [_, _], _ => rfl
  have U11 := fun_mk (st := s__law_turned) l11 c11 k11
  have b11 := U11.binds (ps := ["_law_term_here", "_law_names_here", "_law_cell_here"]) fun _ _ _ _ _ _ us hl => match us, hl with | [_, _, _], _ => rfl
  have U12 := fun_mk (st := s_law) l12 c12 k12
  have b12 := U12.binds (ps := ["_law_script"]) fun _ _ _ _ _ _ us hl => match us, hl with | [_], _ => rfl
  refine ⟨PySem.W.fnOf "law" "law" (defArgs s_law) (defBody s_law) (defScope s_law) .none kV12 dc12 pm12 an12 cd12 ct12, fun s v => .of_eq rfl, fun base _ _ => ?_⟩
  have V0 : Av l.prog w K mg base 1 "_law_names" ["_law_cell_here"] true F__law_names := ok__law_names (k := 0) T U0 (PySem.W.mg_of KX G a0) b0 
  have V1 : Av l.prog w K mg base 1 "_law_cell" ["_law_script", "_law_k"] false F__law_cell := ok__law_cell (k := 0) T U1 (PySem.W.mg_of KX G a1) b1 
  have V2 : ∀ n, Av l.prog w K mg base (0 + n) "_law_term" ["_law_number", "_law_names_here", "_law_deep", "_law_most"] true (F__law_term n) := by
    intro n
    induction n with
    | zero => exact av_zero true U2 (PySem.W.mg_of KX G a2) b2
    | succ n ih => exact ok__law_term (k := 0 + n) T U2 (PySem.W.mg_of KX G a2) b2 ih
  have V3 : ∀ n, Av l.prog w K mg base (0 + n) "_law_key" ["_law_term_here"] true (F__law_key n) := by
    intro n
    induction n with
    | zero => exact av_zero true U3 (PySem.W.mg_of KX G a3) b3
    | succ n ih => exact ok__law_key (k := 0 + n) T U3 (PySem.W.mg_of KX G a3) b3 ih
  have V4 : Av l.prog w K mg base 1 "weight_above" ["found", "below"] true F_weight_above := ok_weight_above (k := 0) T U4 (PySem.W.mg_of KX G a4) b4 
  have V5 : Av l.prog w K mg base 1 "head" ["term"] true F_head := ok_head (k := 0) T U5 (PySem.W.mg_of KX G a5) b5 
  have V6 : Av l.prog w K mg base 1 "places" ["term"] true F_places := ok_places (k := 0) T U6 (PySem.W.mg_of KX G a6) b6 
  have V7 : ∀ n, Av l.prog w K mg base (1 + n) "weighed" ["term"] true (F_weighed n) := by
    intro n
    induction n with
    | zero => exact av_zero true U7 (PySem.W.mg_of KX G a7) b7
    | succ n ih => exact ok_weighed (k := 1 + n) T U7 (PySem.W.mg_of KX G a7) b7 (V4.mono (by omega)) (V5.mono (by omega)) ih (V6.mono (by omega))
  have V8 : Av l.prog w K mg base 102 "beyond" ["one", "other"] true F_beyond := ok_beyond (k := 101) T U8 (PySem.W.mg_of KX G a8) b8 ((V7 100).mono (by decide))
  have V9 : Av l.prog w K mg base 103 "_law_asked" ["_law_one", "_law_other"] true F__law_asked := ok__law_asked (k := 102) T U9 (PySem.W.mg_of KX G a9) b9 ((V3 100).mono (by decide)) (V8.mono (by decide))
  have V10 : Av l.prog w K mg base 1 "_law_mixed" ["_law_cell_here", "_law_k"] false F__law_mixed := ok__law_mixed (k := 0) T U10 (PySem.W.mg_of KX G a10) b10 
  have V11 : Av l.prog w K mg base 1 "_law_turned" ["_law_term_here", "_law_names_here", "_law_cell_here"] true F__law_turned := ok__law_turned (k := 0) T U11 (PySem.W.mg_of KX G a11) b11 
  exact ok_law (k := 103) T U12 (V0.mono (by decide)) (V1.mono (by decide)) ((V2 100).mono (by decide)) (V9.mono (by decide)) (V10.mono (by decide)) (V11.mono (by decide))
end G

set_option Elab.async false
set_option linter.all false
set_option maxRecDepth 100000
set_option maxHeartbeats 4000000
namespace G
open PySem PySem.Spec L2 M
open Builtin.Int (intBits)
def abc : Str := "abcdefghijklmnopqrstuvwxyz"
theorem cut1 (x : D) (r : List D) : cutD (x :: r) (some 1) none = r := by
  have h1 : HT.sIx (x :: r).length 0 (some 1) = 1 := by
    have := HT.sIx_nat (x :: r).length 0 1
    simp only [List.length_cons] at this ⊢
    exact this.trans (by omega)
  unfold cutD
  rw [h1, HT.sIx_none]
  simp
theorem places1 {d : D} (h : noScr d = true) : F_places [d] = .ok (.tup (kids d)) := by
  cases d with
  | tup ds =>
    cases ds with
    | nil => rfl
    | cons x r =>
      show Res.ok (D.tup (cutD (x :: r) (some 1) none)) = _
      rw [cut1]; rfl
  | _ => first | rfl | cases h
theorem abc_len : abc.length = 26 := by decide
theorem big1 : 20000 ≤ sizeLine := by decide
theorem small_of {k : Nat} (h : k ≤ 20000) : k ≤ sizeLine := Nat.le_trans h big1
theorem cut0 (x : D) (r : List D) : cutD (x :: r) none (some 1) = [x] := by
  unfold cutD
  rw [HT.sIx_none, show (some (1 : Int)) = some ((1 : Nat) : Int) from rfl, HT.sIx_nat]
  simp only [List.drop_zero, Nat.sub_zero, List.length_cons]
  rw [show min 1 (r.length + 1) = 1 by omega]; rfl
/-! ### weights, keys -/
theorem intsOf_fun {α : Type} (f : α → Int) (l : List α) : intsOf (l.map fun a => D.int (f a)) = some (l.map f) := by
  have := intsOf_of (l.map f)
  rwa [List.map_map] at this
theorem head_tup (z : Str) (ts : List D) : F_head [.tup (.str z :: ts)] = .ok (.tup [.str z, .int (ts.length : Int)]) := by
  refine run_t ?_
  show g_head [.shr (.tup (.str z :: ts))] = _
  unfold g_head
  refine (retO_ok ?_).trans rfl
  show ifD (asB (isiF "tuple" (rdS 0))) (tupF (cons1 (two (rdS 0) (cI 0) ixD) (cons1 (two (app (cons1 (rdS 0) nil1) lenD) (cI 1) subI) nil1))) cN [.shr (.tup (.str z :: ts))] = .ok (.tup [.str z, .int (ts.length : Int)])
  rw [ev_ifD]
  show tupF _ _ = _
  refine tup_ok (ds := [.str z, .int (ts.length : Int)]) (cons_ok (two_ok rfl rfl ix0) (cons_ok ?_ rfl)) (small_of (show 2 ≤ 20000 by decide))
  refine two_ok (app_ok (cons_ok rfl rfl) rfl) rfl ?_
  show Res.ok (D.int ((((D.str z :: ts).length : Nat) : Int) - 1)) = _
  simp
theorem num_tup (z : Str) (ts : List D) : num (.tup (.str z :: ts)) = 1 + nums ts := by simp [num]
theorem wgt_tp {t : D} (h : tp t = true) : ∃ r, wgt t = .tup (.int ((num t : Nat) : Int) :: r) := by
  obtain ⟨z, ts, rfl, _⟩ := tp_cases h
  exact ⟨_, by rw [num_tup]; rfl⟩
theorem kyt_tp {t : D} (h : tp t = true) : ∃ r, kyt t = .tup (.int ((num t : Nat) : Int) :: r) := by
  obtain ⟨z, ts, rfl, _⟩ := tp_cases h
  exact ⟨_, by rw [num_tup]; rfl⟩
theorem firsts {f : D → D} {i : Nat} {env : Sl} {ts : List D} (hr : rdS i env = .ok (.lst (ts.map f))) (hl : ts.length ≤ 9) (hf : ∀ t ∈ ts, ∃ r, f t = .tup (.int ((num t : Nat) : Int) :: r)) :
    app (cons1 (compO false 1 [] (itF (rdS i)) (gN 0) trueB (two (rdS 0) (cI 0) ixD)) nil1) sumLD env = .ok (.int ((nums ts : Nat) : Int)) := by
  have hcomp : compO false 1 [] (itF (rdS i)) (gN 0) trueB (two (rdS 0) (cI 0) ixD) env = .ok (.lst ((ts.map f).map fun d => match d with | .tup (x :: _) => x | d => d)) := by
    refine comp0 _ (fun d => ∃ x r, d = .tup (x :: r)) (itF_ok hr rfl) (fun d hd => ?_) (small_of (by rw [List.length_map]; omega)) fun d acc hd => ?_
    · obtain ⟨t, ht, rfl⟩ := List.mem_map.mp hd
      obtain ⟨r, e⟩ := hf t ht
      exact ⟨_, _, e⟩
    · obtain ⟨x, r, rfl⟩ := hd
      exact two_ok rfl rfl ix0
  have e : (ts.map f).map (fun d => match d with | .tup (x :: _) => x | d => d) = ts.map fun t => D.int ((num t : Nat) : Int) := by
    rw [List.map_map]
    refine List.map_congr_left fun t ht => ?_
    obtain ⟨r, e⟩ := hf t ht
    simp only [Function.comp_apply, e]
  rw [e] at hcomp
  refine app_ok (cons_ok hcomp rfl) ?_
  show (match intsOf (ts.map fun t => D.int ((num t : Nat) : Int)) with | some is => _ | none => _) = _
  rw [intsOf_fun]
  show Res.ok (D.int (sumI (ts.map fun t => ((num t : Nat) : Int)))) = _
  rw [nums_sum]
theorem above1 {z : Str} {ts : List D} (hl : ts.length ≤ 9) (h : ∀ t ∈ ts, tp t = true) : F_weight_above [.tup [.str z, .int (ts.length : Int)], .lst (ts.map wgt)] = .ok (wgt (.tup (.str z :: ts))) := by
  refine run_t ?_
  show g_weight_above [.shr (.tup [.str z, .int (ts.length : Int)]), .shr (.lst (ts.map wgt))] = _
  unfold g_weight_above
  have hs := firsts (f := wgt) (i := 1) (env := [.shr (.tup [.str z, .int (ts.length : Int)]), .shr (.lst (ts.map wgt))]) rfl hl fun t ht => wgt_tp (h t ht)
  have hT : tupF (cons1 (two (cI 1) (app (cons1 (compO false 1 [] (itF (rdS 1)) (gN 0) trueB (two (rdS 0) (cI 0) ixD)) nil1) sumLD) addD) (cons1 (rdS 0) nil1)) [.shr (.tup [.str z, .int (ts.length : Int)]), .shr (.lst (ts.map wgt))] = .ok (.tup [.int ((1 + nums ts : Nat) : Int), .tup [.str z, .int (ts.length : Int)]]) := by
    refine tup_ok (cons_ok (two_ok rfl hs ?_) (cons_ok rfl rfl)) (small_of (show 2 ≤ 20000 by decide))
    show Res.ok (D.int (1 + ((nums ts : Nat) : Int))) = _
    congr 2
  refine (retO_ok (two_ok hT (app_ok (cons_ok rfl rfl) rfl) (add_tup (b := ts.map wgt) rfl ?_))).trans ?_
  · rw [List.length_map]; simp only [List.length_cons, List.length_nil]; exact small_of (by omega)
  · simp [wgt, wgts_map]
theorem weighed1 : ∀ (n : Nat) (t : D), tp t = true → hgt t ≤ n → F_weighed n [t] = .ok (wgt t)
  | 0, t, _, h => by have := hgt_pos t; omega
  | n + 1, t, ht, hh => by
    obtain ⟨z, ts, rfl, hl, hts⟩ := tp_cases ht
    simp only [hgt] at hh
    have hpl := places1 (d := .tup (.str z :: ts)) rfl
    simp only [kids] at hpl
    have hcomp : compO false 1 [] (itF (callF 1 F_places (cons1 (rdS 0) nil1))) (gN 0) trueB (callF 1 (F_weighed n) (cons1 (rdS 0) nil1)) [.shr (.tup (.str z :: ts))] = .ok (.lst (ts.map wgt)) :=
      comp0 _ (fun d => d ∈ ts) (itF_ok (call_ok (cons_ok rfl rfl) rfl hpl) rfl) (fun d hd => hd) (small_of (by omega)) fun d acc hd => call_ok (cons_ok rfl rfl) rfl (weighed1 n d (hts d hd) (by have := hgts_mem hd; omega))
    refine run_t ?_
    show g_weighed F_weight_above F_head (F_weighed n) F_places [.shr (.tup (.str z :: ts))] = _
    unfold g_weighed
    exact retO_ok (call_ok (cons_ok (call_ok (cons_ok rfl rfl) rfl (head_tup z ts)) (cons_ok hcomp rfl)) rfl (above1 hl hts))
theorem key1 : ∀ (n : Nat) (t : D), tp t = true → hgt t ≤ n → F__law_key n [t] = .ok (kyt t)
  | 0, t, _, h => by have := hgt_pos t; omega
  | n + 1, t, ht, hh => by
    obtain ⟨z, ts, rfl, hl, hts⟩ := tp_cases ht
    simp only [hgt] at hh
    have hsl : slice3 (rdS 0) (someI (cI 1)) noneI slD [.shr (.tup (.str z :: ts)), .un, .un] = .ok (.tup ts) := slice_ok (x := .tup (.str z :: ts)) (lo := some 1) (hi := none) rfl (someI_ok rfl) rfl (show Res.ok (D.tup (cutD (.str z :: ts) (some 1) none)) = _ by rw [cut1])
    have hcomp : compO false 1 [] (itF (slice3 (rdS 0) (someI (cI 1)) noneI slD)) (gN 0) trueB (callF 1 (F__law_key n) (cons1 (rdS 0) nil1)) [.shr (.tup (.str z :: ts)), .un, .un] = .ok (.lst (ts.map kyt)) :=
      comp0 _ (fun d => d ∈ ts) (itF_ok hsl rfl) (fun d hd => hd) (small_of (by omega)) fun d acc hd => call_ok (cons_ok rfl rfl) rfl (key1 n d (hts d hd) (by have := hgts_mem hd; omega))
    refine run_t ?_
    show g__law_key (F__law_key n) [.shr (.tup (.str z :: ts)), .un, .un] = _
    unfold g__law_key
    rw [seq_nx (env' := [.shr (.tup (.str z :: ts)), .shr (.lst (ts.map kyt)), .un]) (by exact ((setOs_ok hcomp).trans rfl))]
    have hs := firsts (f := kyt) (i := 1) (env := [.shr (.tup (.str z :: ts)), .shr (.lst (ts.map kyt)), .un]) rfl hl fun t ht => kyt_tp (hts t ht)
    have q2 : setOs 2 (two (cI 1) (app (cons1 (compO false 1 [] (itF (rdS 1)) (gN 0) trueB (two (rdS 0) (cI 0) ixD)) nil1) sumLD) addD) [.shr (.tup (.str z :: ts)), .shr (.lst (ts.map kyt)), .un] = .ok (.nx [.shr (.tup (.str z :: ts)), .shr (.lst (ts.map kyt)), .shr (.int ((1 + nums ts : Nat) : Int))]) := by
      refine (setOs_ok (d := .int ((1 + nums ts : Nat) : Int)) (two_ok rfl hs ?_)).trans rfl
      show Res.ok (D.int (1 + ((nums ts : Nat) : Int))) = _
      congr 2
    rw [seq_nx q2]
    have hL : lstF (cons1 (rdS 2) (cons1 (two (rdS 0) (cI 0) ixD) (cons1 (app (cons1 (rdS 1) nil1) lenD) nil1))) [.shr (.tup (.str z :: ts)), .shr (.lst (ts.map kyt)), .shr (.int ((1 + nums ts : Nat) : Int))] = .ok (.lst [.int ((1 + nums ts : Nat) : Int), .str z, .int (ts.length : Int)]) := by
      refine lst_ok (cons_ok rfl (cons_ok (two_ok rfl rfl ix0) (cons_ok (app_ok (cons_ok rfl rfl) ?_) rfl))) (small_of (show 3 ≤ 20000 by decide))
      show Res.ok (D.int (((ts.map kyt).length : Nat) : Int)) = _
      rw [List.length_map]
    refine (retO_ok (app_ok (cons_ok (two_ok hL rfl (add_lst (b := ts.map kyt) ?_)) rfl) rfl)).trans ?_
    · rw [List.length_map]; simp only [List.length_cons, List.length_nil]; exact small_of (by omega)
    · simp [kyt, kyts_map]
theorem beyond1 {s t : D} (hs : tp s = true) (ht : tp t = true) (h1 : hgt s ≤ 100) (h2 : hgt t ≤ 100) : F_beyond [s, t] = .ok (.bl (gtD (wgt s) (wgt t))) := by
  refine run_t ?_
  show g_beyond (F_weighed 100) [.shr s, .shr t] = _
  unfold g_beyond
  have := (dep_tp s hs).2.1
  exact retO_ok (two_ok (call_ok (cons_ok rfl rfl) rfl (weighed1 100 s hs h1)) (call_ok (cons_ok rfl rfl) rfl (weighed1 100 t ht h2)) (gtR_ok (nb_tp s hs).2.1 (nb_tp t ht).2.1 (by omega) (gt_same s hs t ht).2.1))
theorem asked1 {s t : D} (hs : tp s = true) (ht : tp t = true) (h1 : hgt s ≤ 100) (h2 : hgt t ≤ 100) : F__law_asked [s, t] = .ok (.bl true) := by
  have g1 := gt_same s hs t ht
  have g2 := gt_same t ht s hs
  have d1 := dep_tp s hs
  have d2 := dep_tp t ht
  generalize hx : gtD (wgt s) (wgt t) = x at g1
  generalize hy : gtD (wgt t) (wgt s) = y at g2
  refine run_t ?_
  show g__law_asked (F__law_key 100) F_beyond [.shr s, .shr t, .un, .un, .un] = _
  unfold g__law_asked
  rw [seq_nx (env' := [.shr s, .shr t, .shr (kyt s), .un, .un]) (by exact ((setOs_ok (call_ok (cons_ok rfl rfl) rfl (key1 100 s hs h1))).trans rfl))]
  rw [seq_nx (env' := [.shr s, .shr t, .shr (kyt s), .shr (kyt t), .un]) (by exact ((setOs_ok (call_ok (cons_ok rfl rfl) rfl (key1 100 t ht h2))).trans rfl))]
  have b1 := beyond1 hs ht h1 h2
  have b2 := beyond1 ht hs h2 h1
  rw [hx] at b1
  rw [hy] at b2
  rw [seq_nx (env' := [.shr s, .shr t, .shr (kyt s), .shr (kyt t), .shr (.lst [.bl x, .bl y])]) (by exact ((setOs_ok (lst_ok (ds := [.bl x, .bl y]) (cons_ok (call_ok (cons_ok rfl (cons_ok rfl rfl)) rfl b1) (cons_ok (call_ok (cons_ok rfl (cons_ok rfl rfl)) rfl b2) rfl)) (small_of (show 2 ≤ 20000 by decide)))).trans rfl))]
  have t1 : orB (notB (asB (isiF "bool" (two (rdS 4) (cI 0) ixD)))) (notB (asB (isiF "bool" (two (rdS 4) (cI 1) ixD)))) [.shr s, .shr t, .shr (kyt s), .shr (kyt t), .shr (.lst [.bl x, .bl y])] = .ok false := rfl
  rw [seq_nx ((if_f t1).trans rfl)]
  have k1 : gtR (kyt s) (kyt t) = .ok (.bl x) := by
    rw [gtR_ok (nb_tp s hs).2.2 (nb_tp t ht).2.2 (by omega) g1.2.2, ← g1.1]
  have k2 : gtR (kyt t) (kyt s) = .ok (.bl y) := by
    rw [gtR_ok (nb_tp t ht).2.2 (nb_tp s hs).2.2 (by omega) g2.2.2, ← g2.1]
  have hne : neR (.lst [.bl x, .bl y]) (.lst [.bl x, .bl y]) = .ok (.bl false) := by
    unfold neR
    rw [must_pos (.inl ⟨rfl, rfl, by simp [D.dep, D.deps]⟩)]
    simp [eqD, eqDs]
  have t2 : asB (two (rdS 4) (lstF (cons1 (two (rdS 2) (rdS 3) gtR) (cons1 (two (rdS 3) (rdS 2) gtR) nil1))) neR) [.shr s, .shr t, .shr (kyt s), .shr (kyt t), .shr (.lst [.bl x, .bl y])] = .ok false :=
    asB_ok (two_ok rfl (lst_ok (ds := [.bl x, .bl y]) (cons_ok (two_ok rfl rfl k1) (cons_ok (two_ok rfl rfl k2) rfl)) (small_of (show 2 ≤ 20000 by decide))) hne)
  rw [seq_nx ((if_f t2).trans rfl)]
  refine retO_ok ?_
  have r1 : two (rdS 4) (cI 0) ixD [.shr s, .shr t, .shr (kyt s), .shr (kyt t), .shr (.lst [.bl x, .bl y])] = .ok (.bl x) := rfl
  have r2 : two (rdS 4) (cI 1) ixD [.shr s, .shr t, .shr (kyt s), .shr (kyt t), .shr (.lst [.bl x, .bl y])] = .ok (.bl y) := rfl
  rw [ev_toB, r1, ev_ok, toK_bl]
  cases x with
  | true => rfl
  | false =>
    rw [if_pos rfl, ev_toB, r2, ev_ok, toK_bl]
    cases y with
    | true => rfl
    | false =>
      rw [if_pos rfl]
      have e : s = t := by
        rcases beyond_total hs ht with z | z | z
        · exact z
        · rw [hx] at z; cases z
        · rw [hy] at z; cases z
      subst e
      refine two_ok rfl rfl ?_
      have nbs := (nb_tp s hs).1
      unfold eqR
      rw [must_pos (.inl ⟨eqb_nb s nbs, eqb_nb s nbs, by omega⟩), eqD_refl s (eqb_nb s nbs)]
end G

set_option Elab.async false
set_option linter.all false
set_option maxRecDepth 100000
set_option maxHeartbeats 4000000
namespace G
open PySem PySem.Spec L2 M
open Builtin.Int (intBits)
theorem bits10 {i : Int} (h0 : 0 ≤ i) (h1 : i < 1000) : intBits i ≤ 10 := by
  refine intBits_le_iff.mpr ?_
  have : (2 : Nat) ^ 10 = 1024 := by decide
  omega
theorem mul_small {i j : Int} (hi : 0 ≤ i ∧ i < 1000) (hj : 0 ≤ j ∧ j < 1000) : MulC i j := Nat.le_trans (Nat.add_le_add (bits10 hi.1 hi.2) (bits10 hj.1 hj.2)) (by decide)
/-! ### the names -/
def Four (d : D) : Prop := ∃ xs : List D, d = .lst xs ∧ xs.length = 4 ∧ ∀ x ∈ xs, ∃ z : Str, x = .str z ∧ z.length ≤ 20
theorem four_ix {d : D} (h : Four d) (i : Int) (h0 : 0 ≤ i) (h1 : i < 4) : ∃ z : Str, ixD d (.int i) = .ok (.str z) := by
  obtain ⟨xs, rfl, hl, hx⟩ := h
  obtain ⟨x, hix, hm⟩ := ixL (ds := xs) h0 (by omega)
  obtain ⟨z, rfl, _⟩ := hx x hm
  exact ⟨z, hix⟩
theorem four_len {d : D} (h : Four d) : lenD [d] = .ok (.int 4) := by
  obtain ⟨xs, rfl, hl, _⟩ := h
  show Res.ok (D.int (xs.length : Nat)) = _
  rw [hl]; rfl
def signB : Sl → Res Out := (seqO (setOs 8 (two (two (two (rdS 0) (cI 64) divI) (two (two (rdS 7) (rdS 7) mulI) (cI 1) addD) divI) (two (cI 3) (rdS 7) mulI) addD))
      (seqO (ifO (asB (two (rdS 7) (rdS 3) eqR)) (setOs 8 (two (rdS 8) (rdS 5) addD)) nxO)
      (setOs 6 (two (rdS 6) (two (rdS 1) (two (rdS 8) (cI 26) modI) ixD) addD))))
theorem name_loop {c sz at1 : Int} {nl : Slot} {tn : Int} : ∀ (ds : List D) (f : Str) (k g : Slot), (∀ d ∈ ds, ∃ j : Int, d = .int j ∧ 0 ≤ j ∧ j < 8) → f.length + ds.length ≤ 8 → ∃ (f' : Str) (k' g' : Slot), forD (turnD (gN 7) signB) ds [.shr (.int c), .shr (.str abc), .shr (.int sz), .shr (.int at1), nl, .shr (.int tn), .shr (.str f), k, g] = .ok (.nx [.shr (.int c), .shr (.str abc), .shr (.int sz), .shr (.int at1), nl, .shr (.int tn), .shr (.str f'), k', g']) ∧ f'.length = f.length + ds.length
  | [], f, k, g, _, _ => ⟨f, k, g, rfl, rfl⟩
  | d :: ds, f, k, g, h, hl => by
    obtain ⟨j, rfl, j0, j8⟩ := h d (by simp)
    simp only [List.length_cons] at hl
    have hjj : 0 < j * j + 1 ∧ j * j + 1 < 1073741824 := by
      have : j = 0 ∨ j = 1 ∨ j = 2 ∨ j = 3 ∨ j = 4 ∨ j = 5 ∨ j = 6 ∨ j = 7 := by omega
      rcases this with rfl | rfl | rfl | rfl | rfl | rfl | rfl | rfl <;> decide
    have s1 : setOs 8 (two (two (two (rdS 0) (cI 64) divI) (two (two (rdS 7) (rdS 7) mulI) (cI 1) addD) divI) (two (cI 3) (rdS 7) mulI) addD) [.shr (.int c), .shr (.str abc), .shr (.int sz), .shr (.int at1), nl, .shr (.int tn), .shr (.str f), .shr (.int j), g] = .ok (.nx [.shr (.int c), .shr (.str abc), .shr (.int sz), .shr (.int at1), nl, .shr (.int tn), .shr (.str f), .shr (.int j), .shr (.int (c / 64 / (j * j + 1) + 3 * j))]) :=
      (setOs_ok (two_ok (two_ok (two_ok rfl rfl (div_ok (by decide))) (two_ok (two_ok rfl rfl (mul_ok (mul_small (by omega) (by omega)))) rfl rfl) (div_ok hjj)) (two_ok rfl rfl (mul_ok (mul_small (by omega) (by omega)))) rfl)).trans rfl
    have s2 : ∃ sg : Int, ifO (asB (two (rdS 7) (rdS 3) eqR)) (setOs 8 (two (rdS 8) (rdS 5) addD)) nxO [.shr (.int c), .shr (.str abc), .shr (.int sz), .shr (.int at1), nl, .shr (.int tn), .shr (.str f), .shr (.int j), .shr (.int (c / 64 / (j * j + 1) + 3 * j))] = .ok (.nx [.shr (.int c), .shr (.str abc), .shr (.int sz), .shr (.int at1), nl, .shr (.int tn), .shr (.str f), .shr (.int j), .shr (.int sg)]) := by
      have ht : asB (two (rdS 7) (rdS 3) eqR) [.shr (.int c), .shr (.str abc), .shr (.int sz), .shr (.int at1), nl, .shr (.int tn), .shr (.str f), .shr (.int j), .shr (.int (c / 64 / (j * j + 1) + 3 * j))] = .ok (j == at1) := asB_ok (two_ok rfl rfl eqR_int)
      cases e : (j == at1) with
      | true => exact ⟨_, (if_t (by rw [ht, e])).trans ((setOs_ok (two_ok rfl rfl rfl)).trans rfl)⟩
      | false => exact ⟨_, (if_f (by rw [ht, e])).trans rfl⟩
    obtain ⟨sg, s2⟩ := s2
    obtain ⟨ch, hch⟩ := ixS (z := abc) (i := sg % 26) (by omega) (by rw [abc_len]; omega)
    have hlen : (f ++ (⟨#[ch]⟩ : Str)).length = f.length + 1 := strLen_append _ _
    have s3 : setOs 6 (two (rdS 6) (two (rdS 1) (two (rdS 8) (cI 26) modI) ixD) addD) [.shr (.int c), .shr (.str abc), .shr (.int sz), .shr (.int at1), nl, .shr (.int tn), .shr (.str f), .shr (.int j), .shr (.int sg)] = .ok (.nx [.shr (.int c), .shr (.str abc), .shr (.int sz), .shr (.int at1), nl, .shr (.int tn), .shr (.str (f ++ (⟨#[ch]⟩ : Str))), .shr (.int j), .shr (.int sg)]) :=
      (setOs_ok (two_ok rfl (two_ok rfl (two_ok rfl rfl rfl) hch) (must_pos (c := f.length + (⟨#[ch]⟩ : Str).length ≤ sizeLine) (Nat.le_trans (show f.length + 1 ≤ 8 by omega) (by decide))))).trans rfl
    obtain ⟨f', k', g', r1, r2⟩ := name_loop (c := c) (sz := sz) (at1 := at1) (nl := nl) (tn := tn) ds (f ++ (⟨#[ch]⟩ : Str)) (.shr (.int j)) (.shr (.int sg)) (fun d hd => h d (by simp [hd])) (by omega)
    refine ⟨f', k', g', ?_, by rw [r2, hlen]; simp only [List.length_cons]; omega⟩
    rw [forD_go (env' := [.shr (.int c), .shr (.str abc), .shr (.int sz), .shr (.int at1), nl, .shr (.int tn), .shr (.str (f ++ (⟨#[ch]⟩ : Str))), .shr (.int j), .shr (.int sg)]), r1]
    rw [turn_ok (env' := [.shr (.int c), .shr (.str abc), .shr (.int sz), .shr (.int at1), nl, .shr (.int tn), .shr (.str f), .shr (.int j), g]) rfl]
    unfold signB
    rw [seq_nx s1, seq_nx s2, s3]
theorem comp_pairs : ∀ (ds : List D) (k : Nat) (acc : List D) (u v : Slot), (∀ d ∈ ds, ∃ z : Str, d = .str z ∧ z.length ≤ 8) → acc.length + ds.length ≤ 100 → ∃ (u' v' : Slot) (ys : List D), compD 2 (g2 (gN 0) (gN 1)) trueB (two (rdS 1) (slice3 (rdS 1) noneI (someI (rdS 0)) slD) addD) (pairsFrom k ds) [u, v, .own (.lst acc)] = .ok [u', v', .own (.lst (acc ++ ys))] ∧ ys.length = ds.length ∧ ∀ y ∈ ys, ∃ z : Str, y = .str z ∧ z.length ≤ 20
  | [], k, acc, u, v, _, _ => ⟨u, v, [], by simp [pairsFrom, compD], rfl, fun _ h => nomatch h⟩
  | d :: ds, k, acc, u, v, h, hl => by
    obtain ⟨z, rfl, hz⟩ := h d (by simp)
    simp only [List.length_cons] at hl
    have hc := cutS_len z none (some (k : Int))
    have hlen : (z ++ cutS z none (some (k : Int))).length = z.length + (cutS z none (some (k : Int))).length := strLen_append _ _
    obtain ⟨u', v', ys, r1, r2, r3⟩ := comp_pairs ds (k + 1) (acc ++ [.str (z ++ cutS z none (some (k : Int)))]) (.shr (.int (k : Int))) (.shr (.str z)) (fun d hd => h d (by simp [hd])) (by simp only [List.length_append, List.length_cons, List.length_nil]; omega)
    refine ⟨u', v', .str (z ++ cutS z none (some (k : Int))) :: ys, ?_, by simp [r2], fun y hy => ?_⟩
    · have hfe : two (rdS 1) (slice3 (rdS 1) noneI (someI (rdS 0)) slD) addD [.shr (.int (k : Int)), .shr (.str z), .own (.lst acc)] = .ok (.str (z ++ cutS z none (some (k : Int)))) :=
        two_ok rfl (slice_ok rfl rfl (someI_ok rfl) rfl) (must_pos (c := z.length + (cutS z none (some (k : Int))).length ≤ sizeLine) (small_of (by omega)))
      have h1 : compD 2 (g2 (gN 0) (gN 1)) trueB (two (rdS 1) (slice3 (rdS 1) noneI (someI (rdS 0)) slD) addD) (pairsFrom k (.str z :: ds)) [u, v, .own (.lst acc)] = compD 2 (g2 (gN 0) (gN 1)) trueB (two (rdS 1) (slice3 (rdS 1) noneI (someI (rdS 0)) slD) addD) (pairsFrom (k + 1) ds) [.shr (.int (k : Int)), .shr (.str z), .own (.lst (acc ++ [.str (z ++ cutS z none (some (k : Int)))]))] := by
        show (two (rdS 1) (slice3 (rdS 1) noneI (someI (rdS 0)) slD) addD [.shr (.int (k : Int)), .shr (.str z), .own (.lst acc)] >>= _) = _
        rw [hfe]
        exact must_pos (c := acc.length < sizeLine) (Nat.lt_of_lt_of_le (show acc.length < 20000 by omega) big1)
      rw [h1, r1]; simp
    · rcases List.mem_cons.mp hy with e | e
      · exact ⟨_, e, by omega⟩
      · exact r3 y e
theorem names_makes (m : Int) : ∃ d, F__law_names [.int m] = .ok d ∧ Four d := by
  have hs : 1 ≤ 1 + m % 8 ∧ 1 + m % 8 ≤ 8 := by omega
  generalize hsz : 1 + m % 8 = sz at hs
  have hat : 0 ≤ m / 8 % sz := Int.emod_nonneg _ (by omega)
  generalize hq : m / 8 % sz = at1 at hat
  obtain ⟨env1, l1, xs, k1, n1, j1, g1, rfl, hx, hxs, _⟩ := forD_inv (body := turnD (gN 5) (seqO (setOs 6 (cS "")) (seqO (forO (rngF (cons1 (rdS 2) nil1)) (gN 7) signB) (appendO 4 (rdS 6)))))
    (fun ds env => ∃ (xs : List D) (k n j g : Slot), env = [.shr (.int m), .shr (.str abc), .shr (.int sz), .shr (.int at1), .own (.lst xs), k, n, j, g] ∧ xs.length + ds.length = 4 ∧ (∀ x ∈ xs, ∃ z : Str, x = .str z ∧ z.length ≤ 8) ∧ ∀ d ∈ ds, ∃ k : Int, d = .int k)
    (by
      rintro d ds env ⟨xs, k, n, j, g, rfl, hl, hx, hd⟩
      obtain ⟨tn, rfl⟩ := hd d (by simp)
      simp only [List.length_cons] at hl
      obtain ⟨f, k', g', r1, r2⟩ := name_loop (c := m) (sz := sz) (at1 := at1) (nl := .own (.lst xs)) (tn := tn) (intsD 0 sz.toNat) "" j g (fun d hd => by
        obtain ⟨j, e, h0, h1⟩ := mem_intsD hd
        exact ⟨j, e, by omega, by omega⟩) (by rw [intsD_len, show ("" : Str).length = 0 by decide]; omega)
      rw [intsD_len, show ("" : Str).length = 0 by decide] at r2
      refine ⟨[.shr (.int m), .shr (.str abc), .shr (.int sz), .shr (.int at1), .own (.lst (xs ++ [.str f])), .shr (.int tn), .shr (.str f), k', g'], ?_, _, _, _, _, _, rfl, by simp only [List.length_append, List.length_cons, List.length_nil]; omega, ?_, fun d hd' => hd d (by simp [hd'])⟩
      · rw [turn_ok (env' := [.shr (.int m), .shr (.str abc), .shr (.int sz), .shr (.int at1), .own (.lst xs), .shr (.int tn), n, j, g]) rfl]
        rw [seq_nx (env' := [.shr (.int m), .shr (.str abc), .shr (.int sz), .shr (.int at1), .own (.lst xs), .shr (.int tn), .shr (.str ""), j, g]) rfl]
        rw [seq_nx ((for_ok (rng1_ok (j := sz) (cons_ok rfl rfl) (by omega))).trans r1)]
        exact (append_ok (ds := xs) rfl rfl (Nat.lt_of_lt_of_le (show xs.length < 20000 by omega) big1)).trans rfl
      · intro x hx'
        rcases List.mem_append.mp hx' with h | h
        · exact hx x h
        · simp only [List.mem_cons, List.not_mem_nil, or_false] at h
          exact ⟨_, h, by omega⟩)
    (intsD 0 4) [.shr (.int m), .shr (.str abc), .shr (.int sz), .shr (.int at1), .own (.lst []), .un, .un, .un, .un] ⟨[], .un, .un, .un, .un, rfl, rfl, (fun _ h => nomatch h), fun d hd => by
      obtain ⟨k, e, _⟩ := mem_intsD hd
      exact ⟨k, e⟩⟩
  simp only [List.length_nil, Nat.add_zero] at hx
  have hlast : ∃ ys : List D, ys.length = 4 ∧ (∀ y ∈ ys, ∃ z : Str, y = .str z ∧ z.length ≤ 20) ∧ ifO (andB (asB (two (two (two (rdS 0) (cI 64) divI) (cI 3) modI) (cI 1) eqR)) (asB (two (rdS 2) (cI 5) ltI))) (frzO 4 (setO 4 (compO false 2 [] (enumF (rdS 4)) (g2 (gN 0) (gN 1)) trueB (two (rdS 1) (slice3 (rdS 1) noneI (someI (rdS 0)) slD) addD)))) nxO [.shr (.int m), .shr (.str abc), .shr (.int sz), .shr (.int at1), .own (.lst xs), k1, n1, j1, g1] = .ok (.nx [.shr (.int m), .shr (.str abc), .shr (.int sz), .shr (.int at1), .own (.lst ys), k1, n1, j1, g1]) := by
    have ht : andB (asB (two (two (two (rdS 0) (cI 64) divI) (cI 3) modI) (cI 1) eqR)) (asB (two (rdS 2) (cI 5) ltI)) [.shr (.int m), .shr (.str abc), .shr (.int sz), .shr (.int at1), .own (.lst xs), k1, n1, j1, g1] = .ok (((m / 64 % 3) == 1) && decide (sz < 5)) :=
      and_ok (asB_ok (two_ok (two_ok (two_ok rfl rfl (div_ok (by decide))) rfl rfl) rfl eqR_int)) (asB_ok (two_ok rfl rfl rfl))
    cases e : (((m / 64 % 3) == 1) && decide (sz < 5)) with
    | false =>
      refine ⟨xs, hx, fun y hy => ?_, (if_f (by rw [ht, e])).trans rfl⟩
      obtain ⟨z, hz, hl⟩ := hxs y hy
      exact ⟨z, hz, by omega⟩
    | true =>
      obtain ⟨u', v', ys, r1, r2, r3⟩ := comp_pairs xs 0 [] .un .un hxs (by simp only [List.length_nil]; omega)
      refine ⟨ys, by omega, r3, (if_t (by rw [ht, e])).trans ?_⟩
      show setO 4 (compO false 2 [] (enumF (rdS 4)) (g2 (gN 0) (gN 1)) trueB (two (rdS 1) (slice3 (rdS 1) noneI (someI (rdS 0)) slD) addD)) [.shr (.int m), .shr (.str abc), .shr (.int sz), .shr (.int at1), .shr (.lst xs), k1, n1, j1, g1] = _
      have hc : compO false 2 [] (enumF (rdS 4)) (g2 (gN 0) (gN 1)) trueB (two (rdS 1) (slice3 (rdS 1) noneI (someI (rdS 0)) slD) addD) [.shr (.int m), .shr (.str abc), .shr (.int sz), .shr (.int at1), .shr (.lst xs), k1, n1, j1, g1] = .ok (.lst ys) := by
        show (compD 2 (g2 (gN 0) (gN 1)) trueB (two (rdS 1) (slice3 (rdS 1) noneI (someI (rdS 0)) slD) addD) (pairsFrom 0 xs) [.un, .un, .own (.lst [])] >>= _) = _
        rw [r1]; rfl
      exact (setO_ok hc).trans rfl
  obtain ⟨ys, y1, y2, hlast⟩ := hlast
  refine ⟨.lst ys, run_t ?_, ys, rfl, y1, y2⟩
  show g__law_names [.shr (.int m), .un, .un, .un, .un, .un, .un, .un, .un] = _
  unfold g__law_names
  rw [seq_nx (env' := [.shr (.int m), .shr (.str abc), .un, .un, .un, .un, .un, .un, .un]) rfl]
  rw [seq_nx (env' := [.shr (.int m), .shr (.str abc), .shr (.int sz), .un, .un, .un, .un, .un, .un]) (by rw [← hsz]; rfl)]
  rw [seq_nx (env' := [.shr (.int m), .shr (.str abc), .shr (.int sz), .shr (.int at1), .un, .un, .un, .un, .un]) (by rw [← hq]; exact (setOs_ok (two_ok (two_ok rfl rfl rfl) rfl (mod_ok (by omega)))).trans rfl)]
  rw [seq_nx (env' := [.shr (.int m), .shr (.str abc), .shr (.int sz), .shr (.int at1), .own (.lst []), .un, .un, .un, .un]) rfl]
  refine (seq_nx ((for_ok (ds := intsD 0 4) rfl).trans l1)).trans ?_
  exact (seq_nx hlast).trans rfl
/-! ### cells, mixed numbers -/
theorem cell_any (ds : List Int) (k : Nat) : ∃ c : Int, F__law_cell [.scr (ds.map D.int), .int k] = .ok (.int c) := by
  have e0 : startE 2 [.scr (ds.map D.int), .int k] = [.shr (.scr (ds.map D.int)), .shr (.int k)] := rfl
  have ht : asB (two (rdS 1) (app (cons1 (rdS 0) nil1) lenD) ltI) [.shr (.scr (ds.map D.int)), .shr (.int k)] = .ok (decide ((k : Int) < ((ds.map D.int).length : Nat))) := asB_ok (two_ok rfl (app_ok (cons_ok rfl rfl) rfl) rfl)
  by_cases h : k < ds.length
  · refine ⟨ds[k], run_f ?_⟩
    rw [e0]
    refine seq_rt ((if_t (by rw [ht]; simp; omega)).trans (retS_ok (two_ok rfl rfl ?_)))
    simp only [ixD]
    rw [M.atI_nat]
    simp [h]
  · refine ⟨0, run_t ?_⟩
    rw [e0]
    unfold g__law_cell
    rw [seq_nx ((if_f (by rw [ht]; simp; omega)).trans rfl)]
    rfl
theorem bits32 {i : Int} (h0 : 0 ≤ i) (h1 : i < 4294967296) : intBits i ≤ 32 := by
  refine intBits_le_iff.mpr ?_
  have : (2 : Nat) ^ 32 = 4294967296 := by decide
  omega
theorem mul_mid {i j : Int} {a b : Nat} (hi : intBits i ≤ a) (hj : intBits j ≤ b) (h : a + b ≤ 10000) : MulC i j := Nat.le_trans (Nat.add_le_add hi hj) (Nat.le_trans h (by decide))
theorem mixed_makes {c k : Int} (hk : 0 ≤ k ∧ k < 1000) : ∃ m : Int, F__law_mixed [.int c, .int k] = .ok (.int m) := by
  have hm1 : 0 ≤ c % 2147483629 ∧ c % 2147483629 < 2147483629 := by omega
  generalize hA : c % 2147483629 = A at hm1
  have hAA : intBits (A + 7 * k + 3) ≤ 32 := bits32 (by omega) (by omega)
  generalize hB : (A + 7 * k + 3) * 48271 % 2147483647 = B
  have hB2 : 0 ≤ B ∧ B < 2147483647 := by omega
  obtain ⟨env1, l1, n1, f1, u1, rfl, _⟩ := forD_inv (body := turnD (gN 4) (seqO (setOs 2 (two (two (two (two (rdS 2) (cI 69621) mulI) (two (cI 11) (rdS 4) mulI) addD) (cI 5) addD) (cI 2147483647) modI)) (setOs 3 (two (two (rdS 3) (cI 2147483647) mulI) (rdS 2) addD))))
    (fun ds env => ∃ (n f : Int) (u : Slot), env = [.shr (.int c), .shr (.int k), .shr (.int n), .shr (.int f), u] ∧ 0 ≤ n ∧ n < 2147483647 ∧ intBits f + 100 * ds.length ≤ 1000 ∧ ∀ d ∈ ds, ∃ j : Int, d = .int j ∧ 0 ≤ j ∧ j < 6)
    (by
      rintro d ds env ⟨n, f, u, rfl, n0, n1, hf, hd⟩
      obtain ⟨j, rfl, j0, j6⟩ := hd d (by simp)
      simp only [List.length_cons] at hf
      have hn32 : intBits n ≤ 32 := bits32 n0 (by omega)
      generalize hN : (n * 69621 + 11 * j + 5) % 2147483647 = N
      have hN2 : 0 ≤ N ∧ N < 2147483647 := by omega
      have hN32 : intBits N ≤ 32 := bits32 hN2.1 (by omega)
      have hfb : intBits (f * 2147483647 + N) ≤ max (intBits f + 32) 32 + 1 := intBits_add_le (intBits_mul_le (Nat.le_refl _) (by decide)) hN32
      refine ⟨[.shr (.int c), .shr (.int k), .shr (.int N), .shr (.int (f * 2147483647 + N)), .shr (.int j)], ?_, N, _, _, rfl, hN2.1, hN2.2, by omega, fun d hd' => hd d (by simp [hd'])⟩
      rw [turn_ok (env' := [.shr (.int c), .shr (.int k), .shr (.int n), .shr (.int f), .shr (.int j)]) rfl]
      rw [seq_nx (env' := [.shr (.int c), .shr (.int k), .shr (.int N), .shr (.int f), .shr (.int j)]) (by rw [← hN]; exact (setOs_ok (two_ok (two_ok (two_ok (two_ok rfl rfl (mul_ok (mul_mid hn32 (show intBits 69621 ≤ 32 by decide) (by decide)))) (two_ok rfl rfl (mul_ok (mul_small (by omega) (by omega)))) rfl) rfl rfl) rfl (mod_ok (by decide)))).trans rfl)]
      exact (setOs_ok (two_ok (two_ok rfl rfl (mul_ok (mul_mid (Nat.le_refl (intBits f)) (show intBits 2147483647 ≤ 32 by decide) (by omega)))) rfl rfl)).trans rfl)
    (intsD 0 6) [.shr (.int c), .shr (.int k), .shr (.int B), .shr (.int 0), .un] ⟨B, 0, .un, rfl, hB2.1, hB2.2, by rw [intsD_len]; decide, fun d hd => by
      obtain ⟨j, e, h0, h1⟩ := mem_intsD hd
      exact ⟨j, e, by omega, by omega⟩⟩
  refine ⟨f1, run_f ?_⟩
  show g__law_mixed [.shr (.int c), .shr (.int k), .un, .un, .un] = _
  unfold g__law_mixed
  rw [seq_nx (env' := [.shr (.int c), .shr (.int k), .shr (.int B), .un, .un]) (by
    rw [← hB, ← hA]
    exact (setOs_ok (two_ok (two_ok (two_ok (two_ok (two_ok rfl rfl (mod_ok (by decide))) (two_ok rfl rfl (mul_ok (mul_small (by omega) (by omega)))) rfl) rfl rfl) rfl (mul_ok (mul_mid (by rw [hA]; exact hAA) (show intBits 48271 ≤ 32 by decide) (by decide)))) rfl (mod_ok (by decide)))).trans rfl)]
  rw [seq_nx (env' := [.shr (.int c), .shr (.int k), .shr (.int B), .shr (.int 0), .un]) rfl]
  rw [seq_nx ((for_ok (ds := intsD 0 6) rfl).trans l1)]
  rfl
/-! ### terms -/
theorem term_makes {nm : D} (hn : Four nm) : ∀ (n dp : Nat) (m : Int), dp < n → ∃ (t : D) (m' : Int), F__law_term n [.int m, nm, .int (dp : Int), .int 3] = .ok (.tup [.int m', t]) ∧ tp t = true ∧ hgt t ≤ dp + 1
  | 0, dp, m, h => by omega
  | n + 1, dp, m, h => by
    obtain ⟨z, hz⟩ := four_ix hn (m % 4) (by omega) (by omega)
    have s1 : asgO (app (cons1 (rdS 0) (cons1 (app (cons1 (rdS 1) nil1) lenD) nil1)) divmodD) (g2 (gN 0) (gN 7)) [.shr (.int m), .shr nm, .shr (.int (dp : Int)), .shr (.int 3), .un, .un, .un, .un, .un] = .ok (.nx [.shr (.int (m / 4)), .shr nm, .shr (.int (dp : Int)), .shr (.int 3), .un, .un, .un, .shr (.int (m % 4)), .un]) := by
      have : app (cons1 (rdS 0) (cons1 (app (cons1 (rdS 1) nil1) lenD) nil1)) divmodD [.shr (.int m), .shr nm, .shr (.int (dp : Int)), .shr (.int 3), .un, .un, .un, .un, .un] = .ok (.tup [.int (m / 4), .int (m % 4)]) := app_ok (ds := [.int m, .int 4]) (cons_ok rfl (cons_ok (app_ok (cons_ok rfl rfl) (four_len hn)) rfl)) (must_pos ⟨by decide, by decide⟩)
      show (app _ _ _ >>= _) = _
      rw [this]; rfl
    have s3 : ∃ (m3 pl : Int), 0 ≤ pl ∧ pl ≤ 3 ∧ (dp = 0 → pl = 0) ∧ ifO (asB (two (rdS 2) (cI 0) gtI)) (asgO (app (cons1 (rdS 0) (cons1 (two (rdS 3) (cI 1) addD) nil1)) divmodD) (g2 (gN 0) (gN 4))) nxO [.shr (.int (m / 4)), .shr nm, .shr (.int (dp : Int)), .shr (.int 3), .shr (.int 0), .un, .un, .shr (.int (m % 4)), .un] = .ok (.nx [.shr (.int m3), .shr nm, .shr (.int (dp : Int)), .shr (.int 3), .shr (.int pl), .un, .un, .shr (.int (m % 4)), .un]) := by
      have ht : asB (two (rdS 2) (cI 0) gtI) [.shr (.int (m / 4)), .shr nm, .shr (.int (dp : Int)), .shr (.int 3), .shr (.int 0), .un, .un, .shr (.int (m % 4)), .un] = .ok (decide ((0 : Int) < (dp : Int))) := asB_ok (two_ok rfl rfl rfl)
      by_cases hd : dp = 0
      · refine ⟨m / 4, 0, by decide, by decide, fun _ => rfl, (if_f (by rw [ht]; simp [hd])).trans rfl⟩
      · refine ⟨m / 4 / 4, m / 4 % 4, by omega, by omega, fun z => absurd z hd, (if_t (by rw [ht]; simp; omega)).trans ?_⟩
        have : app (cons1 (rdS 0) (cons1 (two (rdS 3) (cI 1) addD) nil1)) divmodD [.shr (.int (m / 4)), .shr nm, .shr (.int (dp : Int)), .shr (.int 3), .shr (.int 0), .un, .un, .shr (.int (m % 4)), .un] = .ok (.tup [.int (m / 4 / 4), .int (m / 4 % 4)]) := app_ok (ds := [.int (m / 4), .int 4]) (cons_ok rfl (cons_ok (two_ok rfl rfl rfl) rfl)) (must_pos ⟨by decide, by decide⟩)
        show (app _ _ _ >>= _) = _
        rw [this]; rfl
    obtain ⟨m3, pl, p0, p3, pd, s3⟩ := s3
    obtain ⟨env1, l1, m4, ps, k1, q1, rfl, hl1, hps, _⟩ := forD_inv (body := turnD (gN 6) (seqO (asgO (callF 4 (F__law_term n) (cons1 (rdS 0) (cons1 (rdS 1) (cons1 (two (rdS 2) (cI 1) subI) (cons1 (rdS 3) nil1))))) (g2 (gN 0) (gN 8))) (appendO 5 (rdS 8))))
      (fun ds env => ∃ (m' : Int) (ps : List D) (k q : Slot), env = [.shr (.int m'), .shr nm, .shr (.int (dp : Int)), .shr (.int 3), .shr (.int pl), .own (.lst (.str z :: ps)), k, .shr (.int (m % 4)), q] ∧ ps.length + ds.length ≤ 3 ∧ (∀ p ∈ ps, tp p = true ∧ hgt p ≤ dp) ∧ (ds ≠ [] → dp ≠ 0))
      (by
        rintro d ds env ⟨m', ps, k, q, rfl, hl, hps, hdp⟩
        have hd0 := hdp (by simp)
        obtain ⟨t, m2, ht, t1, t2⟩ := term_makes hn n (dp - 1) m' (by omega)
        have e1 : ((dp : Int) - 1) = ((dp - 1 : Nat) : Int) := by omega
        simp only [List.length_cons] at hl
        refine ⟨[.shr (.int m2), .shr nm, .shr (.int (dp : Int)), .shr (.int 3), .shr (.int pl), .own (.lst (.str z :: (ps ++ [t]))), .shr d, .shr (.int (m % 4)), .shr t], ?_, _, _, _, _, rfl, by simp only [List.length_append, List.length_cons, List.length_nil]; omega, fun p hp => ?_, fun _ => hd0⟩
        · rw [turn_ok (env' := [.shr (.int m'), .shr nm, .shr (.int (dp : Int)), .shr (.int 3), .shr (.int pl), .own (.lst (.str z :: ps)), .shr d, .shr (.int (m % 4)), q]) rfl]
          have hc : callF 4 (F__law_term n) (cons1 (rdS 0) (cons1 (rdS 1) (cons1 (two (rdS 2) (cI 1) subI) (cons1 (rdS 3) nil1)))) [.shr (.int m'), .shr nm, .shr (.int (dp : Int)), .shr (.int 3), .shr (.int pl), .own (.lst (.str z :: ps)), .shr d, .shr (.int (m % 4)), q] = .ok (.tup [.int m2, t]) :=
            call_ok (ds := [.int m', nm, .int ((dp : Int) - 1), .int 3]) (cons_ok rfl (cons_ok rfl (cons_ok (two_ok rfl rfl rfl) (cons_ok rfl rfl)))) rfl (by rw [e1]; exact ht)
          rw [seq_nx (env' := [.shr (.int m2), .shr nm, .shr (.int (dp : Int)), .shr (.int 3), .shr (.int pl), .own (.lst (.str z :: ps)), .shr d, .shr (.int (m % 4)), .shr t]) (by
            show (callF 4 _ _ _ >>= _) = _
            rw [hc]; rfl)]
          exact (append_ok (ds := .str z :: ps) rfl rfl (Nat.lt_of_lt_of_le (show (D.str z :: ps).length < 20000 by simp only [List.length_cons]; omega) big1)).trans rfl
        · rcases List.mem_append.mp hp with e | e
          · exact hps p e
          · simp only [List.mem_cons, List.not_mem_nil, or_false] at e
            rw [e]; exact ⟨t1, by omega⟩)
      (intsD 0 pl.toNat) [.shr (.int m3), .shr nm, .shr (.int (dp : Int)), .shr (.int 3), .shr (.int pl), .own (.lst [.str z]), .un, .shr (.int (m % 4)), .un] ⟨m3, [], .un, .un, rfl, by rw [intsD_len]; simp only [List.length_nil]; omega, (fun _ h => nomatch h), fun hne h0 => by
        apply hne
        rw [pd h0]; rfl⟩
    simp only [List.length_nil, Nat.add_zero] at hl1
    have htp : tp (.tup (.str z :: ps)) = true := tp_nd (by omega) fun p hp => (hps p hp).1
    refine ⟨.tup (.str z :: ps), m4, run_t (d := .tup [.int m4, .tup (.str z :: ps)]) ?_, htp, ?_⟩
    · show g__law_term (F__law_term n) [.shr (.int m), .shr nm, .shr (.int (dp : Int)), .shr (.int 3), .un, .un, .un, .un, .un] = _
      unfold g__law_term
      rw [seq_nx s1]
      rw [seq_nx (env' := [.shr (.int (m / 4)), .shr nm, .shr (.int (dp : Int)), .shr (.int 3), .shr (.int 0), .un, .un, .shr (.int (m % 4)), .un]) rfl]
      rw [seq_nx s3]
      rw [seq_nx (env' := [.shr (.int m3), .shr nm, .shr (.int (dp : Int)), .shr (.int 3), .shr (.int pl), .own (.lst [.str z]), .un, .shr (.int (m % 4)), .un]) (by exact ((setO_ok (lst_ok (ds := [.str z]) (cons_ok (two_ok rfl rfl hz) rfl) (small_of (show 1 ≤ 20000 by decide)))).trans rfl))]
      rw [seq_nx ((for_ok (rng1_ok (j := pl) (cons_ok rfl rfl) (by omega))).trans l1)]
      exact retO_ok (tup_ok (cons_ok rfl (cons_ok (chk_ok (app_ok (cons_ok rfl rfl) rfl) (imm_tp _ htp)) rfl)) (small_of (show 2 ≤ 20000 by decide)))
    · simp only [hgt]
      have := M.hgts_le (ds := ps) (k := dp) fun d hd => (hps d hd).2
      omega
theorem hgts_rev (ts : List D) (k : Nat) (h : ∀ t ∈ ts, hgt t ≤ k) : hgts ts.reverse ≤ k := M.hgts_le fun d hd => h d (List.mem_reverse.mp hd)
theorem cutN (x : D) (ts : List D) (n : Nat) (h : n ≤ ts.length) : cutD (x :: ts) none (some ((n + 1 : Nat) : Int)) = x :: ts.take n := by
  unfold cutD
  rw [HT.sIx_none, HT.sIx_nat]
  simp only [List.drop_zero, Nat.sub_zero, List.length_cons]
  rw [show min (n + 1) (ts.length + 1) = n + 1 by omega]; rfl
theorem turned_makes {nm t : D} (hn : Four nm) (ht : tp t = true) (c : Int) : ∃ u, F__law_turned [t, nm, .int c] = .ok u ∧ tp u = true ∧ hgt u ≤ hgt t := by
  obtain ⟨z, ts, rfl, hl, hts⟩ := tp_cases ht
  have hsl : slice3 (rdS 0) (someI (cI 1)) noneI slD [.shr (.tup (.str z :: ts)), .shr nm, .shr (.int c)] = .ok (.tup ts) := slice_ok (x := .tup (.str z :: ts)) (lo := some 1) (hi := none) rfl (someI_ok rfl) rfl (show Res.ok (D.tup (cutD (.str z :: ts) (some 1) none)) = _ by rw [cut1])
  have hs0 : slice3 (rdS 0) noneI (someI (cI 1)) slD [.shr (.tup (.str z :: ts)), .shr nm, .shr (.int c)] = .ok (.tup [.str z]) := slice_ok (x := .tup (.str z :: ts)) (lo := none) (hi := some 1) rfl rfl (someI_ok rfl) (show Res.ok (D.tup (cutD (.str z :: ts) none (some 1))) = _ by rw [cut0])
  have t1 : asB (two (two (rdS 2) (cI 3) modI) (cI 0) eqR) [.shr (.tup (.str z :: ts)), .shr nm, .shr (.int c)] = .ok (c % 3 == 0) := asB_ok (two_ok (two_ok rfl rfl rfl) rfl eqR_int)
  have t2 : asB (two (two (rdS 2) (cI 3) modI) (cI 1) eqR) [.shr (.tup (.str z :: ts)), .shr nm, .shr (.int c)] = .ok (c % 3 == 1) := asB_ok (two_ok (two_ok rfl rfl rfl) rfl eqR_int)
  have hb : ∀ (xs : List D) (y : Str), xs.length ≤ 9 → addD (.tup [.str y]) (.tup xs) = .ok (.tup (.str y :: xs)) := fun xs y h => add_tup (a := [.str y]) (b := xs) rfl (by simp only [List.length_cons, List.length_nil]; exact small_of (by omega))
  cases e1 : (c % 3 == 0) with
  | true =>
    obtain ⟨y, hy⟩ := four_ix hn (c / 3 % 4) (by omega) (by omega)
    refine ⟨.tup (.str y :: ts), run_t ?_, tp_nd hl hts, by simp [hgt]⟩
    show g__law_turned [.shr (.tup (.str z :: ts)), .shr nm, .shr (.int c)] = _
    unfold g__law_turned
    exact seq_rt ((if_t (by rw [t1, e1])).trans (retO_ok (two_ok (tup_ok (cons_ok (two_ok rfl (two_ok (two_ok rfl rfl (div_ok (by decide))) (app_ok (cons_ok rfl rfl) (four_len hn)) (mod_ok (by decide))) hy) rfl) (small_of (show 1 ≤ 20000 by decide))) hsl (hb ts y hl))))
  | false =>
    cases e2 : (c % 3 == 1) with
    | true =>
      refine ⟨.tup (.str z :: ts.reverse), run_t ?_, tp_nd (by simpa using hl) (fun t ht => hts t (List.mem_reverse.mp ht)), ?_⟩
      · show g__law_turned [.shr (.tup (.str z :: ts)), .shr nm, .shr (.int c)] = _
        unfold g__law_turned
        rw [seq_nx ((if_f (by rw [t1, e1])).trans rfl)]
        have hrv : revTF (slice3 (rdS 0) (someI (cI 1)) noneI slD) [.shr (.tup (.str z :: ts)), .shr nm, .shr (.int c)] = .ok (.tup ts.reverse) := by
          show (slice3 _ _ _ _ _ >>= _) = _
          rw [hsl]; rfl
        exact seq_rt ((if_t (by rw [t2, e2])).trans (retO_ok (two_ok hs0 hrv (hb ts.reverse z (by simpa using hl)))))
      · simp only [hgt]
        have := hgts_rev ts (hgts ts) fun t ht => hgts_mem ht
        omega
    | false =>
      have hmx : app (cons1 (cI 1) (cons1 (two (app (cons1 (rdS 0) nil1) lenD) (cI 1) subI) nil1)) maxD [.shr (.tup (.str z :: ts)), .shr nm, .shr (.int c)] = .ok (.int ((ts.length - 1 + 1 : Nat) : Int)) := by
        refine app_ok (ds := [.int 1, .int (ts.length : Int)]) (cons_ok rfl (cons_ok (two_ok (app_ok (cons_ok rfl rfl) rfl) rfl ?_) rfl)) ?_
        · show Res.ok (D.int ((((D.str z :: ts).length : Nat) : Int) - 1)) = _
          simp
        · show Res.ok (D.int (if (ts.length : Int) > 1 then (ts.length : Int) else 1)) = _
          congr 2
          split <;> omega
      refine ⟨.tup (.str z :: ts.take (ts.length - 1)), run_t ?_, tp_nd (by rw [List.length_take]; omega) (fun t ht => hts t (List.mem_of_mem_take ht)), ?_⟩
      · show g__law_turned [.shr (.tup (.str z :: ts)), .shr nm, .shr (.int c)] = _
        unfold g__law_turned
        rw [seq_nx ((if_f (by rw [t1, e1])).trans rfl), seq_nx ((if_f (by rw [t2, e2])).trans rfl)]
        refine retO_ok (slice_ok (x := .tup (.str z :: ts)) (lo := none) rfl rfl (someI_ok hmx) ?_)
        show Res.ok (D.tup (cutD (.str z :: ts) none (some ((ts.length - 1 + 1 : Nat) : Int)))) = _
        rw [cutN _ _ _ (by omega)]
      · simp only [hgt]
        have := M.hgts_le (ds := ts.take (ts.length - 1)) (k := hgts ts) fun t ht => hgts_mem (List.mem_of_mem_take ht)
        omega
theorem law_true (sc : List Int) (hlen : sc.length ≤ 63) (hb : ∀ i ∈ sc, Builtin.Int.intBits i ≤ 2 ^ 20) : F_law [.scr (sc.map D.int)] = .ok (.bl true) := by
  have h20 : ∀ env : Sl, two (cI 10) (cI 20) powI env = .ok (.int (10 ^ 20)) := fun env => two_ok rfl rfl (pow_ok ⟨by decide, by decide, by decide⟩)
  have hp20 : (0 : Int) < 10 ^ 20 := by decide
  obtain ⟨c0, hc0⟩ := cell_any sc 0
  obtain ⟨nm, hnm, hn⟩ := names_makes (c0 % 10 ^ 20)
  obtain ⟨z0, hz0⟩ := four_ix hn 0 (by decide) (by decide)
  have s1 : setOs 1 (callF 1 F__law_names (cons1 (two (callF 2 F__law_cell (cons1 (rdS 0) (cons1 (cI 0) nil1))) (two (cI 10) (cI 20) powI) modI) nil1)) [.shr (.scr (sc.map D.int)), .un, .un, .un, .un, .un, .un] = .ok (.nx [.shr (.scr (sc.map D.int)), .shr nm, .un, .un, .un, .un, .un]) :=
    (setOs_ok (call_ok (cons_ok (two_ok (call_ok (cons_ok rfl (cons_ok rfl rfl)) rfl hc0) (h20 _) (mod_ok hp20)) rfl) rfl hnm)).trans rfl
  have s2 : setOs 2 (tupF (cons1 (two (rdS 1) (cI 0) ixD) nil1)) [.shr (.scr (sc.map D.int)), .shr nm, .un, .un, .un, .un, .un] = .ok (.nx [.shr (.scr (sc.map D.int)), .shr nm, .shr (.tup [.str z0]), .un, .un, .un, .un]) :=
    (setOs_ok (tup_ok (ds := [.str z0]) (cons_ok (two_ok rfl rfl hz0) rfl) (small_of (show 1 ≤ 20000 by decide)))).trans rfl
  obtain ⟨N, hN, hN1, hN2⟩ : ∃ N : Int, app (cons1 (cI 101) (cons1 (app (cons1 (cI 2) (cons1 (app (cons1 (rdS 0) nil1) lenD) nil1)) maxD) nil1)) minD [.shr (.scr (sc.map D.int)), .shr nm, .shr (.tup [.str z0]), .un, .un, .un, .un] = .ok (.int N) ∧ 2 ≤ N ∧ N ≤ 101 := by
    have h1 : app (cons1 (cI 2) (cons1 (app (cons1 (rdS 0) nil1) lenD) nil1)) maxD [.shr (.scr (sc.map D.int)), .shr nm, .shr (.tup [.str z0]), .un, .un, .un, .un] = .ok (.int (if (((sc.map D.int).length : Nat) : Int) > 2 then (((sc.map D.int).length : Nat) : Int) else 2)) := app_ok (ds := [.int 2, .int ((sc.map D.int).length : Nat)]) (cons_ok rfl (cons_ok (app_ok (cons_ok rfl rfl) rfl) rfl)) rfl
    generalize hM : (if (((sc.map D.int).length : Nat) : Int) > 2 then (((sc.map D.int).length : Nat) : Int) else 2) = M0 at h1
    have hM2 : 2 ≤ M0 := by rw [← hM]; split <;> omega
    refine ⟨if M0 < 101 then M0 else 101, app_ok (ds := [.int 101, .int M0]) (cons_ok rfl (cons_ok h1 rfl)) rfl, ?_, ?_⟩ <;> split <;> omega
  obtain ⟨env1, l1, _⟩ := forD_inv (body := turnD (gN 3) (seqO (setOs 4 (two (callF 2 F__law_cell (cons1 (rdS 0) (cons1 (rdS 3) nil1))) (two (cI 10) (cI 20) powI) modI))
    (seqO (setOs 5 (two (callF 4 (F__law_term 100) (cons1 (callF 2 F__law_mixed (cons1 (rdS 4) (cons1 (rdS 3) nil1))) (cons1 (rdS 1) (cons1 (cI 3) (cons1 (cI 3) nil1))))) (cI 1) ixD))
    (seqO (ifO (asB (two (two (rdS 4) (cI 5) modI) (cI 2) eqR)) (forO (rngF (cons1 (two (two (rdS 4) (cI 5) divI) (cI 51) modI) nil1)) (gN 6) (setOs 5 (tupF (cons1 (two (rdS 1) (two (two (two (rdS 4) (cI 255) divI) (two (rdS 6) (rdS 6) mulI) addD) (cI 4) modI) ixD) (cons1 (rdS 5) nil1))))) nxO)
    (seqO (ifO (orB (notB (asB (callF 2 F__law_asked (cons1 (rdS 5) (cons1 (rdS 2) nil1))))) (notB (asB (callF 2 F__law_asked (cons1 (rdS 5) (cons1 (rdS 5) nil1)))))) (retO (cB false)) nxO)
    (seqO (ifO (notB (asB (callF 2 F__law_asked (cons1 (rdS 5) (cons1 (callF 3 F__law_turned (cons1 (rdS 5) (cons1 (rdS 1) (cons1 (two (rdS 4) (cI 5) divI) nil1)))) nil1))))) (retO (cB false)) nxO)
    (setOs 2 (rdS 5))))))))
    (fun ds env => ∃ (b : D) (u3 u4 u5 u6 : Slot), env = [.shr (.scr (sc.map D.int)), .shr nm, .shr b, u3, u4, u5, u6] ∧ tp b = true ∧ hgt b ≤ 60 ∧ ∀ d ∈ ds, ∃ k : Nat, d = .int (k : Int) ∧ k < 1000)
    (by
      rintro d ds env ⟨b, u3, u4, u5, u6, rfl, hb1, hb2, hd⟩
      obtain ⟨k, rfl, hk⟩ := hd d (by simp)
      obtain ⟨c, hc⟩ := cell_any sc k
      have hcr : 0 ≤ c % 10 ^ 20 := Int.emod_nonneg _ (by decide)
      generalize hC : c % 10 ^ 20 = C at hcr
      obtain ⟨mx, hmx⟩ := mixed_makes (c := C) (k := (k : Int)) ⟨by omega, by omega⟩
      obtain ⟨t, m', ht, t1, t2⟩ := term_makes hn 100 3 mx (by decide)
      have q4 : setOs 4 (two (callF 2 F__law_cell (cons1 (rdS 0) (cons1 (rdS 3) nil1))) (two (cI 10) (cI 20) powI) modI) [.shr (.scr (sc.map D.int)), .shr nm, .shr b, .shr (.int (k : Int)), u4, u5, u6] = .ok (.nx [.shr (.scr (sc.map D.int)), .shr nm, .shr b, .shr (.int (k : Int)), .shr (.int C), u5, u6]) := by
        rw [← hC]
        exact (setOs_ok (two_ok (call_ok (cons_ok rfl (cons_ok rfl rfl)) rfl hc) (h20 _) (mod_ok hp20))).trans rfl
      have q5 : setOs 5 (two (callF 4 (F__law_term 100) (cons1 (callF 2 F__law_mixed (cons1 (rdS 4) (cons1 (rdS 3) nil1))) (cons1 (rdS 1) (cons1 (cI 3) (cons1 (cI 3) nil1))))) (cI 1) ixD) [.shr (.scr (sc.map D.int)), .shr nm, .shr b, .shr (.int (k : Int)), .shr (.int C), u5, u6] = .ok (.nx [.shr (.scr (sc.map D.int)), .shr nm, .shr b, .shr (.int (k : Int)), .shr (.int C), .shr t, u6]) :=
        (setOs_ok (two_ok (call_ok (ds := [.int mx, nm, .int ((3 : Nat) : Int), .int 3]) (cons_ok (call_ok (cons_ok rfl (cons_ok rfl rfl)) rfl hmx) (cons_ok rfl (cons_ok rfl (cons_ok rfl rfl)))) rfl ht) rfl rfl)).trans rfl
      have q6 : ∃ (t' : D) (u : Slot), tp t' = true ∧ hgt t' ≤ 60 ∧ ifO (asB (two (two (rdS 4) (cI 5) modI) (cI 2) eqR)) (forO (rngF (cons1 (two (two (rdS 4) (cI 5) divI) (cI 51) modI) nil1)) (gN 6) (setOs 5 (tupF (cons1 (two (rdS 1) (two (two (two (rdS 4) (cI 255) divI) (two (rdS 6) (rdS 6) mulI) addD) (cI 4) modI) ixD) (cons1 (rdS 5) nil1))))) nxO [.shr (.scr (sc.map D.int)), .shr nm, .shr b, .shr (.int (k : Int)), .shr (.int C), .shr t, u6] = .ok (.nx [.shr (.scr (sc.map D.int)), .shr nm, .shr b, .shr (.int (k : Int)), .shr (.int C), .shr t', u]) := by
        have htst : asB (two (two (rdS 4) (cI 5) modI) (cI 2) eqR) [.shr (.scr (sc.map D.int)), .shr nm, .shr b, .shr (.int (k : Int)), .shr (.int C), .shr t, u6] = .ok (C % 5 == 2) := asB_ok (two_ok (two_ok rfl rfl rfl) rfl eqR_int)
        cases e : (C % 5 == 2) with
        | false => exact ⟨t, u6, t1, by omega, (if_f (by rw [htst, e])).trans rfl⟩
        | true =>
          obtain ⟨env2, l2, t', u, rfl, g1, g2, _⟩ := forD_inv (body := turnD (gN 6) (setOs 5 (tupF (cons1 (two (rdS 1) (two (two (two (rdS 4) (cI 255) divI) (two (rdS 6) (rdS 6) mulI) addD) (cI 4) modI) ixD) (cons1 (rdS 5) nil1)))))
            (fun ds env => ∃ (t' : D) (u : Slot), env = [.shr (.scr (sc.map D.int)), .shr nm, .shr b, .shr (.int (k : Int)), .shr (.int C), .shr t', u] ∧ tp t' = true ∧ hgt t' + ds.length ≤ 60 ∧ ∀ d ∈ ds, ∃ j : Int, d = .int j ∧ 0 ≤ j ∧ j < 51)
            (by
              rintro d ds env ⟨t', u, rfl, g1, g2, hd⟩
              obtain ⟨j, rfl, j0, j51⟩ := hd d (by simp)
              obtain ⟨y, hy⟩ := four_ix hn ((C / 255 + j * j) % 4) (by omega) (by omega)
              simp only [List.length_cons] at g2
              refine ⟨[.shr (.scr (sc.map D.int)), .shr nm, .shr b, .shr (.int (k : Int)), .shr (.int C), .shr (.tup [.str y, t']), .shr (.int j)], ?_, _, _, rfl, tp_nd (by simp) (fun x hx => by
                simp only [List.mem_cons, List.not_mem_nil, or_false] at hx
                rw [hx]; exact g1), by simp [hgt, hgts]; omega, fun d hd' => hd d (by simp [hd'])⟩
              rw [turn_ok (env' := [.shr (.scr (sc.map D.int)), .shr nm, .shr b, .shr (.int (k : Int)), .shr (.int C), .shr t', .shr (.int j)]) rfl]
              exact (setOs_ok (tup_ok (ds := [.str y, t']) (cons_ok (two_ok rfl (two_ok (two_ok (two_ok rfl rfl (div_ok (by decide))) (two_ok rfl rfl (mul_ok (mul_small (by omega) (by omega)))) rfl) rfl rfl) hy) (cons_ok rfl rfl)) (small_of (show 2 ≤ 20000 by decide)))).trans rfl)
            (intsD 0 (C / 5 % 51).toNat) [.shr (.scr (sc.map D.int)), .shr nm, .shr b, .shr (.int (k : Int)), .shr (.int C), .shr t, u6] ⟨t, u6, rfl, t1, by rw [intsD_len]; omega, fun d hd => by
              obtain ⟨j, e, h0, h1⟩ := mem_intsD hd
              exact ⟨j, e, by omega, by omega⟩⟩
          simp only [List.length_nil, Nat.add_zero] at g2
          exact ⟨t', u, g1, g2, (if_t (by rw [htst, e])).trans ((for_ok (rng1_ok (j := C / 5 % 51) (cons_ok (two_ok (two_ok rfl rfl (div_ok (by decide))) rfl rfl) rfl) (by omega))).trans l2)⟩
      obtain ⟨t', u, g1, g2, q6⟩ := q6
      obtain ⟨w, hw, w1, w2⟩ := turned_makes hn g1 (C / 5)
      refine ⟨[.shr (.scr (sc.map D.int)), .shr nm, .shr t', .shr (.int (k : Int)), .shr (.int C), .shr t', u], ?_, _, _, _, _, _, rfl, g1, g2, fun d hd' => hd d (by simp [hd'])⟩
      rw [turn_ok (env' := [.shr (.scr (sc.map D.int)), .shr nm, .shr b, .shr (.int (k : Int)), u4, u5, u6]) rfl]
      rw [seq_nx q4, seq_nx q5, seq_nx q6]
      have x1 : orB (notB (asB (callF 2 F__law_asked (cons1 (rdS 5) (cons1 (rdS 2) nil1))))) (notB (asB (callF 2 F__law_asked (cons1 (rdS 5) (cons1 (rdS 5) nil1))))) [.shr (.scr (sc.map D.int)), .shr nm, .shr b, .shr (.int (k : Int)), .shr (.int C), .shr t', u] = .ok false :=
        or_ok (b := false) (b2 := false) (notB_ok (b := true) (asB_ok (call_ok (cons_ok rfl (cons_ok rfl rfl)) rfl (asked1 g1 hb1 (by omega) (by omega))))) (notB_ok (b := true) (asB_ok (call_ok (cons_ok rfl (cons_ok rfl rfl)) rfl (asked1 g1 g1 (by omega) (by omega)))))
      have x2 : notB (asB (callF 2 F__law_asked (cons1 (rdS 5) (cons1 (callF 3 F__law_turned (cons1 (rdS 5) (cons1 (rdS 1) (cons1 (two (rdS 4) (cI 5) divI) nil1)))) nil1)))) [.shr (.scr (sc.map D.int)), .shr nm, .shr b, .shr (.int (k : Int)), .shr (.int C), .shr t', u] = .ok false :=
        notB_ok (b := true) (asB_ok (call_ok (cons_ok rfl (cons_ok (call_ok (cons_ok rfl (cons_ok rfl (cons_ok (two_ok rfl rfl (div_ok (by decide))) rfl))) rfl hw) rfl)) rfl (asked1 g1 w1 (by omega) (by omega))))
      rw [seq_nx ((if_f x1).trans rfl), seq_nx ((if_f x2).trans rfl)]
      rfl)
    (intsD 1 (N - 1).toNat) [.shr (.scr (sc.map D.int)), .shr nm, .shr (.tup [.str z0]), .un, .un, .un, .un] ⟨_, .un, .un, .un, .un, rfl, tp_nd (by simp) (fun _ h => nomatch h), by simp [hgt, hgts], fun d hd => by
      obtain ⟨j, e, h0, h1⟩ := mem_intsD hd
      exact ⟨j.toNat, by rw [e]; congr 1; omega, by omega⟩⟩
  refine run_t ?_
  show g_law F__law_names F__law_cell (F__law_term 100) F__law_asked F__law_mixed F__law_turned [.shr (.scr (sc.map D.int)), .un, .un, .un, .un, .un, .un] = _
  unfold g_law
  rw [seq_nx s1, seq_nx s2]
  have hr : rng2F (cons1 (cI 1) (cons1 (app (cons1 (cI 101) (cons1 (app (cons1 (cI 2) (cons1 (app (cons1 (rdS 0) nil1) lenD) nil1)) maxD) nil1)) minD) nil1)) [.shr (.scr (sc.map D.int)), .shr nm, .shr (.tup [.str z0]), .un, .un, .un, .un] = .ok (intsD 1 (N - 1).toNat) := rng2_ok (cons_ok rfl (cons_ok hN rfl)) (by omega)
  rw [seq_nx ((for_ok hr).trans l1)]
  rfl
end G

open PySem PySem.W PyProof.Rows
set_option maxRecDepth 100000 in
set_option maxHeartbeats 0 in
theorem PySem.Challenge.cw_endwise_k71_beyond_holds : PySem.Challenge.rw_endwise_k71_beyond.Holds := by
  w_on; o_law; k_head; (case hw => w_witness2)
  k_fill
  refine M.walk_law (l := PySem.Challenge.rw_endwise_k71_beyond) (n := 63) (k := 104) (x := "_law_script") (F := G.F_law) rfl (by decide) rfl ⟨rfl, by decide, by decide⟩ (fun w h Y => PySem.W.kIn_of Y) ?F G.law_true
  case F =>
    intro w mg fa h KX Gn hmg
    refine' G.all_mk KX Gn hmg ?a0 ?l0 ?c0 ?k0 ?a1 ?l1 ?c1 ?k1 ?a2 ?l2 ?c2 ?k2 ?a3 ?l3 ?c3 ?k3 ?a4 ?l4 ?c4 ?k4 ?a5 ?l5 ?c5 ?k5 ?a6 ?l6 ?c6 ?k6 ?a7 ?l7 ?c7 ?k7 ?a8 ?l8 ?c8 ?k8 ?a9 ?l9 ?c9 ?k9 ?a10 ?l10 ?c10 ?k10 ?a11 ?l11 ?c11 ?k11 ?a12 ?l12 ?c12 ?k12 ?z0 ?z1 ?z2 ?z3 ?z4 ?z5 ?z6 ?z7 ?z8 ?z9 ?z10
    (case a0 => k_is)
    (case l0 => k_is)
    (case c0 => k_is)
    (case k0 => k_is)
    (case a1 => k_is)
    (case l1 => k_is)
    (case c1 => k_is)
    (case k1 => k_is)
    (case a2 => k_is)
    (case l2 => k_is)
    (case c2 => k_is)
    (case k2 => k_is)
    (case a3 => k_is)
    (case l3 => k_is)
    (case c3 => k_is)
    (case k3 => k_is)
    (case a4 => k_is)
    (case l4 => k_is)
    (case c4 => k_is)
    (case k4 => k_is)
    (case a5 => k_is)
    (case l5 => k_is)
    (case c5 => k_is)
    (case k5 => k_is)
    (case a6 => k_is)
    (case l6 => k_is)
    (case c6 => k_is)
    (case k6 => k_is)
    (case a7 => k_is)
    (case l7 => k_is)
    (case c7 => k_is)
    (case k7 => k_is)
    (case a8 => k_is)
    (case l8 => k_is)
    (case c8 => k_is)
    (case k8 => k_is)
    (case a9 => k_is)
    (case l9 => k_is)
    (case c9 => k_is)
    (case k9 => k_is)
    (case a10 => k_is)
    (case l10 => k_is)
    (case c10 => k_is)
    (case k10 => k_is)
    (case a11 => k_is)
    (case l11 => k_is)
    (case c11 => k_is)
    (case k11 => k_is)
    (case a12 => k_is)
    (case l12 => k_is)
    (case c12 => k_is)
    (case k12 => k_is)
    (case z0 => k_is)
    (case z1 => k_is)
    (case z2 => k_is)
    (case z3 => k_is)
    (case z4 => k_is)
    (case z5 => k_is)
    (case z6 => k_is)
    (case z7 => k_is)
    (case z8 => k_is)
    (case z9 => k_is)
    (case z10 => k_is)
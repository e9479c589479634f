import PyProof.Rows.All
import Wide.All
import OpenK.AllK
import Wide.FinOn
import Lean
import PyProof.EqAt
import PyProof.EqKinds
import PyProof.TupleCall
import PyProof.NeKinds
import KE.IntBitsLaws
import KE.KDictList
import KE.KRevIter
import KE.KSortTup
import KE.KDictSum
import PyProof.EnumMake
import PyProof.EnumFor
import PyProof.LayNew
import PyProof.Rows.EnumRows
import PyProof.SumAny
import PyProof.ListRange
import PyProof.FString5
import OpenK.KRaise
import PyProof.StationsW
import KE.KTryMore
import PyProof.NsDelKeeps
import KE.KEqDict
import PyProof.ExcArgs
import PyProof.Draws
import PySem.Challenge.RW_endwise_k02_parts_and_paths
set_option Elab.async false
set_option linter.all false
set_option maxRecDepth 100000
/-! THE HAND LAYER, for ints, bools, texts, own classes, LISTS and tuples (index, slices, in, append, pop ..), calls, loops. Paste it whole ahead of your own text; what your proof does not reach may be deleted. -/
namespace L2
open PySem PySem.Spec PyProof.Rows

/-- a key: an int or a str -/
abbrev Key := Sum Int Str
def keyIs : Key → Value → Bool
  | .inl k, v => Value.isInt k v
  | .inr x, v => Value.isStrOf x v
def keyH (w : World) : Key → Int
  | .inl k => hashInt k
  | .inr x => hashStr w x
theorem keyIs_shape : ∀ {k : Key} {v : Value}, keyIs k v = true → (∃ i t, k = Sum.inl i ∧ v = Value.int i t) ∨ (∃ x t, k = Sum.inr x ∧ v = Value.str x t)
  | .inl i, v, h => by
    obtain ⟨t, e⟩ := Value.isInt_shape (k := i) (v := v) h
    exact .inl ⟨i, t, rfl, e⟩
  | .inr x, v, h => by
    obtain ⟨t, e⟩ := Value.isStrOf_shape (x := x) (v := v) h
    exact .inr ⟨x, t, rfl, e⟩
theorem key_ll (a b : Int) : decide ((Sum.inl a : Key) = Sum.inl b) = (a == b) := by
  by_cases e : a = b
  · subst e; simp
  · have h : ¬ (Sum.inl a : Key) = Sum.inl b := fun q => e (Sum.inl.inj q)
    rw [decide_eq_false h]
    exact (beq_eq_false_iff_ne.mpr e).symm
theorem key_rr (a b : Str) : decide ((Sum.inr a : Key) = Sum.inr b) = decide (a = b) := by
  by_cases e : a = b
  · subst e; simp
  · have h : ¬ (Sum.inr a : Key) = Sum.inr b := fun q => e (Sum.inr.inj q)
    rw [decide_eq_false h, decide_eq_false e]
theorem key_lr (a : Int) (b : Str) : decide ((Sum.inl a : Key) = Sum.inr b) = false := decide_eq_false (fun q => nomatch q)
theorem key_rl (a : Str) (b : Int) : decide ((Sum.inr a : Key) = Sum.inl b) = false := decide_eq_false (fun q => nomatch q)

def mixKind (prog : Program) (w : World) : PySem.KeyKind prog w Key where
  is := keyIs
  hash := keyH w
  inj := fun v a b ha hb => by
    rcases keyIs_shape ha with ⟨i, t, rfl, rfl⟩ | ⟨x, t, rfl, rfl⟩
    · rcases keyIs_shape hb with ⟨j, u, rfl, e⟩ | ⟨y, u, rfl, e⟩
      · injection e with e1 _; rw [e1]
      · exact nomatch e
    · rcases keyIs_shape hb with ⟨j, u, rfl, e⟩ | ⟨y, u, rfl, e⟩
      · exact nomatch e
      · injection e with e1 _; rw [e1]
  byValue := fun k v h => by
    rcases keyIs_shape h with ⟨i, t, rfl, rfl⟩ | ⟨x, t, rfl, rfl⟩ <;> rfl
  pyHash := fun hv h => by
    rcases keyIs_shape hv with ⟨i, t, rfl, rfl⟩ | ⟨x, t, rfl, rfl⟩
    · exact wpAny_pyHash_int h
    · exact wpAny_pyHash_str h
  eqBool := fun hu hv h => by
    rcases keyIs_shape hu with ⟨i, t, rfl, rfl⟩ | ⟨x, t, rfl, rfl⟩
    · rcases keyIs_shape hv with ⟨j, u, rfl, rfl⟩ | ⟨y, u, rfl, rfl⟩
      · rw [key_ll] at h; exact wpAny_eqBool_int h
      · rw [key_lr] at h; exact SeqAt.EqAt.int_str i t y u _ _ _ _ h
    · rcases keyIs_shape hv with ⟨j, u, rfl, rfl⟩ | ⟨y, u, rfl, rfl⟩
      · rw [key_rl] at h; exact SeqAt.EqAt.str_int x t j u _ _ _ _ h
      · rw [key_rr] at h; exact wpAny_eqBool_str h
  «strs» := fun k x t v h => by
    rcases keyIs_shape h with ⟨i, u, rfl, e⟩ | ⟨y, u, rfl, e⟩
    · exact nomatch e
    · injection e with e1 _
      subst e1
      cases v <;> rfl

end L2

namespace L2
open PySem PySem.Spec PyProof.Rows

/-- a value, without the heap -/
inductive V where
  | non | bl (b : Bool) | int (i : Int) | str (x : Str) | byt (b : Array UInt8) | flt (b : UInt64) | ref (a : Addr) | ty (n : String)
  deriving DecidableEq

def RelV : V → Value → Prop
  | .non, u => u = Value.none
  | .bl b, u => u = Value.bool b
  | .int i, u => ∃ t, u = Value.int i t
  | .str x, u => ∃ t, u = Value.str x t
  | .byt b, u => ∃ t, u = Value.bytes b t
  | .flt b, u => ∃ t, u = Value.float b t
  | .ref a, u => u = Value.ref a
  | .ty n, u => u = Value.type n

abbrev Vals : List V → List Value → Prop := Paired RelV
theorem Vals.length {xs : List V} {us : List Value} (r : Vals xs us) : xs.length = us.length := Paired.length r
theorem Vals.get : ∀ {xs : List V} {us : List Value} {i : Nat} {x : V}, Vals xs us → xs[i]? = some x → ∃ u, us[i]? = some u ∧ RelV x u
  | _, _, _, _, .nil, e => by simp at e
  | _, _, 0, _, .cons r _, e => by simp at e; subst e; exact ⟨_, rfl, r⟩
  | _, _, i + 1, x, .cons _ t, e => by
    obtain ⟨u, h1, h2⟩ := Vals.get (i := i) (x := x) t (by simpa using e)
    exact ⟨u, by simpa using h1, h2⟩
theorem Vals.set {x : V} {u : Value} (r : RelV x u) : ∀ {xs : List V} {us : List Value} (i : Nat), Vals xs us → Vals (xs.set i x) (us.set i u)
  | _, _, _, .nil => .nil
  | _, _, 0, .cons _ t => .cons r t
  | _, _, i + 1, .cons q t => .cons q (Vals.set r i t)
theorem Vals.append : ∀ {xs ys : List V} {us ws : List Value}, Vals xs us → Vals ys ws → Vals (xs ++ ys) (us ++ ws)
  | _, _, _, _, .nil, s => s
  | _, _, _, _, .cons r t, s => .cons r (Vals.append t s)
theorem Vals.take : ∀ {xs : List V} {us : List Value} (n : Nat), Vals xs us → Vals (xs.take n) (us.take n)
  | _, _, 0, _ => .nil
  | _, _, _ + 1, .nil => .nil
  | _, _, n + 1, .cons r t => .cons r (Vals.take n t)
theorem Vals.drop : ∀ {xs : List V} {us : List Value} (n : Nat), Vals xs us → Vals (xs.drop n) (us.drop n)
  | _, _, 0, r => r
  | _, _, _ + 1, .nil => .nil
  | _, _, n + 1, .cons _ t => Vals.drop n t
def RelO : Option V → Option Value → Prop
  | some v, some u => RelV v u
  | none, none => True
  | _, _ => False
def KV {κ : Type} : List (κ × V) → List (κ × Value) → Prop := Paired fun (p : κ × V) (q : κ × Value) => p.1 = q.1 ∧ RelV p.2 q.2

/-- a key of a dict (00_mix): an int or a text -/
def kV : Key → V
  | .inl i => .int i
  | .inr x => .str x

/-- what stands at a tracked address -/
inductive HO where
  /-- a list -/
  | lst (xs : List V)
  /-- a tuple (never changes) -/
  | tup (xs : List V)
  /-- a dict whose keys are ints and texts; one whose keys are tuples of ints and texts (the empty one is both) -/
  | dK (kvs : List (Key × V)) | dT (kvs : List (List Key × V))
  /-- a set of ints: its members, its size -/
  | set (S : Int → Bool) (n : Nat)
  /-- an instance of the class at C, its dict at dx, its attributes -/
  | ins (C dx : Addr) (fs : List (Str × V))
  /-- the dict of the instance at x -/
  | own (x : Addr)
  /-- the dict of an exception -/
  | xd (fs : List (Str × V))
  /-- a bound method, f of x -/
  | met (f x : Addr)
  /-- a range object lo, lo + 1, .. below hi -/
  | rng (lo hi : Int)
  /-- a thing that is known to the object (the script; a dict while a loop walks it): read, never written while it is so -/
  | frz (o : Obj) (u : HO)
  /-- a code object's table -/
  | tbl (ps : Array Value)
  /-- any other thing, by what is true of its one object (a def of one's own: SetO a S n := HO.ext fun h => ..) -/
  | ext (φ : Heap → Prop)

abbrev Hp := Addr → Option HO
def upd (H : Hp) (a : Addr) (o : HO) : Hp := fun b => if b = a then some o else H b
theorem upd_same {H : Hp} {a : Addr} {o : HO} : upd H a o a = some o := by unfold upd; rw [if_pos rfl]
theorem upd_ne {H : Hp} {a b : Addr} {o : HO} (h : b ≠ a) : upd H a o b = H b := by unfold upd; rw [if_neg h]
theorem ne_of_none {H : Hp} {a b : Addr} {o : HO} (h : H a = some o) (h' : H b = none) : a ≠ b := by
  intro e; subst e; rw [h] at h'; cases h'

section
variable (P : Program) (w : World)
def ObjOk (H : Hp) (h : Heap) (a : Addr) : HO → Prop
  | .lst xs => xs.length ≤ sizeLine ∧ ∃ (its : List Value) (n : Nat), Vals xs its ∧ h.get? a = some { cls := .type "list", data := .seq its.toArray n }
  | .tup xs => xs.length ≤ sizeLine ∧ ∃ its : List Value, Vals xs its ∧ IsTup h a its.toArray
  | .dK kvs => kvs.length ≤ sizeLine ∧ (a == sysModules) = false ∧ ∃ vs, KV kvs vs ∧ h.DictOf (mixKind P w) a vs
  | .dT kvs => kvs.length ≤ sizeLine ∧ (a == sysModules) = false ∧ ∃ xs : List (List Key × Addr × Value),
      Paired (fun (p : List Key × V) (q : List Key × Addr × Value) => p.1 = q.1 ∧ H q.2.1 = some (.tup (p.1.map kV)) ∧ RelV p.2 q.2.2) kvs xs ∧
      ∃ o es ep, h.get? a = some o ∧ o.ExactDict ∧ o.data = .dict es ep ∧ es.toList = xs.map (entryOfKey (tupleKind (mixKind P w))) ∧ (xs.map (·.1)).Nodup
  | .set S n => h.SetOf (intKind P w) a S n
  | .ins C dx fs => H dx = some (.own a) ∧ fs.length ≤ 1000 ∧ dx ≠ a ∧ h.get? a = some (PySem.W.instObj C dx) ∧
      ∃ mA, h.Ns1 dx mA ∧ (∀ f, RelO (fs.lookup f) (mA f)) ∧ PySem.Within mA (fs.map (·.1))
  | .own _ => ∃ o, h.get? a = some o
  | .xd fs => ∃ mA, h.Ns1 a mA ∧ ∀ f, RelO (fs.lookup f) (mA f)
  | .rng lo hi => ∃ t u v, h.get? a = some { cls := .type "range", data := .fields #[.int lo t, .int hi u, .int 1 v] }
  | .frz o u => h.get? a = some o ∧ ObjOk H h a u
  | .tbl ps => h.get? a = some { cls := .none, data := .fields ps }
  | .met f x => h.get? a = some (PySem.W.methodObj (.ref f) (.ref x))
  | .ext φ => φ h ∧ (∃ o, h.get? a = some o) ∧ ∀ h1 h2 : Heap, φ h1 → (∀ o, h1.get? a = some o → h2.get? a = some o) → φ h2
/-- the abstract heap is held -/
def HOk (H : Hp) (h : Heap) : Prop := ∀ a o, H a = some o → ObjOk P w H h a o
end

section
variable {P : Program} {w : World} {H H' : Hp} {h h' : Heap} {a : Addr} {o : HO}
theorem ObjOk.lt (x : ObjOk P w H h a o) : a < h.objs.size := by
  cases o with
  | lst xs => obtain ⟨_, _, _, _, e⟩ := x; exact Heap.lt_size e
  | tup xs => obtain ⟨_, _, _, p⟩ := x; exact p.lt
  | dK kvs => obtain ⟨_, _, _, _, o, _, _, e, _⟩ := x; exact Heap.lt_size e
  | dT kvs => obtain ⟨_, _, _, _, o, _, _, e, _⟩ := x; exact Heap.lt_size e
  | set S n => obtain ⟨o, _, _, _, e, _⟩ := x; exact Heap.lt_size e
  | ins C dx fs => obtain ⟨_, _, _, e, _⟩ := x; exact Heap.lt_size e
  | own y => obtain ⟨_, e⟩ := x; exact Heap.lt_size e
  | xd fs => obtain ⟨_, ⟨_, _, _, e, _⟩, _⟩ := x; exact Heap.lt_size e
  | rng lo hi => obtain ⟨_, _, _, e⟩ := x; exact Heap.lt_size e
  | frz ob u => obtain ⟨e, _⟩ := x; exact Heap.lt_size e
  | tbl ps => exact Heap.lt_size (show h.get? a = some _ from x)
  | met f y => exact Heap.lt_size (show h.get? a = some _ from x)
  | ext φ => obtain ⟨_, ⟨_, e⟩, _⟩ := x; exact Heap.lt_size e
theorem Paired.mapP {α β : Type} {F G : α → β → Prop} : ∀ {l₁ : List α} {l₂ : List β}, Paired F l₁ l₂ → (∀ a b, F a b → G a b) → Paired G l₁ l₂
  | _, _, .nil, _ => .nil
  | _, _, .cons r t, f => .cons (f _ _ r) (Paired.mapP t f)
/-- what an object's description leans on: its own object, its own dict, the tuples -/
theorem ObjOk.stay (x : ObjOk P w H h a o) (k : ∀ b u, (b = a ∨ H b = some (.own a)) → h.get? b = some u → h'.get? b = some u)
    (ho : ∀ b, H b = some (.own a) → H' b = some (.own a)) (ht : ∀ b xs, H b = some (.tup xs) → H' b = some (.tup xs)) : ObjOk P w H' h' a o := by
  induction o with
  | lst xs => obtain ⟨z, its, n, r, e⟩ := x; exact ⟨z, its, n, r, k _ _ (.inl rfl) e⟩
  | tup xs => obtain ⟨z, its, r, ob, e, c⟩ := x; exact ⟨z, its, r, ob, k _ _ (.inl rfl) e, c⟩
  | dK kvs => obtain ⟨z, y, vs, r, ob, es, ep, e, c⟩ := x; exact ⟨z, y, vs, r, ob, es, ep, k _ _ (.inl rfl) e, c⟩
  | dT kvs =>
    obtain ⟨z, y, xs, r, ob, es, ep, e, c⟩ := x
    exact ⟨z, y, xs, Paired.mapP r fun p q z => ⟨z.1, ht _ _ z.2.1, z.2.2⟩, ob, es, ep, k _ _ (.inl rfl) e, c⟩
  | set S n => obtain ⟨ob, es, ep, t, e, c⟩ := x; exact ⟨ob, es, ep, t, k _ _ (.inl rfl) e, c⟩
  | ins C dx fs =>
    obtain ⟨d, z, ne, e, mA, ⟨od, es, ep, e2, c⟩, r⟩ := x
    exact ⟨ho _ d, z, ne, k _ _ (.inl rfl) e, mA, ⟨od, es, ep, k _ _ (.inr d) e2, c⟩, r⟩
  | own y => obtain ⟨ob, e⟩ := x; exact ⟨ob, k _ _ (.inl rfl) e⟩
  | xd fs => obtain ⟨mA, ⟨od, es, ep, e, c⟩, r⟩ := x; exact ⟨mA, ⟨od, es, ep, k _ _ (.inl rfl) e, c⟩, r⟩
  | rng lo hi => obtain ⟨t, u, v, e⟩ := x; exact ⟨t, u, v, k _ _ (.inl rfl) e⟩
  | frz ob u ih => obtain ⟨e, q⟩ := x; exact ⟨k _ _ (.inl rfl) e, ih q⟩
  | tbl ps =>
    have e : h.get? a = some { cls := .none, data := .fields ps } := x
    show h'.get? a = some { cls := .none, data := .fields ps }
    exact k a _ (.inl rfl) e
  | met f y =>
    have e : h.get? a = some (PySem.W.methodObj (.ref f) (.ref y)) := x
    show h'.get? a = some (PySem.W.methodObj (.ref f) (.ref y))
    exact k a _ (.inl rfl) e
  | ext φ => obtain ⟨p, ⟨o, e⟩, st⟩ := x; exact ⟨st _ _ p fun o q => k _ _ (.inl rfl) q, ⟨o, k _ _ (.inl rfl) e⟩, st⟩
theorem HOk.lt (x : HOk P w H h) (e : H a = some o) : a < h.objs.size := (x a o e).lt
theorem HOk.fresh (x : HOk P w H h) (e : h.objs.size ≤ a) : H a = none := by
  cases q : H a with
  | none => rfl
  | some u => exact absurd (Nat.lt_of_lt_of_le (x.lt q) e) (Nat.lt_irrefl _)
/-- every object of the heap is kept -/
theorem HOk.kept (x : HOk P w H h) (k : ∀ b u, h.get? b = some u → h'.get? b = some u) : HOk P w H h' := fun a o e =>
  (x a o e).stay (fun b u _ q => k b u q) (fun _ q => q) fun _ _ q => q
/-- a new object is laid and tracked -/
theorem HOk.laid (x : HOk P w H h) (k : ∀ b u, h.get? b = some u → h'.get? b = some u) (hp : h.objs.size ≤ a) (new : ObjOk P w (upd H a o) h' a o) : HOk P w (upd H a o) h' := fun b u e => by
  have hn := x.fresh hp
  by_cases hb : b = a
  · subst hb; rw [upd_same] at e; cases e; exact new
  · rw [upd_ne hb] at e
    exact (x b u e).stay (fun c v _ q => k c v q) (fun c q => by rw [upd_ne (ne_of_none q hn)]; exact q) fun c xs q => by rw [upd_ne (ne_of_none q hn)]; exact q
end

/-- what may be read as u: it is u, or a known u -/
def Rd (H : Hp) (a : Addr) (u : HO) : Prop := H a = some u ∨ ∃ o, H a = some (.frz o u)
theorem Rd.of {H : Hp} {a : Addr} {u : HO} (h : H a = some u) : Rd H a u := .inl h
theorem Rd.ok {P : Program} {w : World} {H : Hp} {h : Heap} {a : Addr} {u : HO} (r : Rd H a u) (x : HOk P w H h) : ObjOk P w H h a u := by
  rcases r with r | ⟨o, r⟩
  · exact x a u r
  · obtain ⟨_, q⟩ := x a _ r
    exact q
/-- what may be written -/
def Mut : Option HO → Prop
  | some (.lst _) => True
  | some (.dK _) => True
  | some (.dT _) => True
  | some (.set _ _) => True
  | some (.ins _ _ _) => True
  | some (.ext _) => True
  | _ => False
section
variable {P : Program} {w : World} {H : Hp} {h h' : Heap} {x e : Addr} {o' : HO}
/-- the object at e is changed: x itself, or the dict of the instance x -/
theorem HOk.write (ok : HOk P w H h) (mu : Mut (H x)) (he : e = x ∨ H e = some (.own x)) (k : ∀ b u, b ≠ e → h.get? b = some u → h'.get? b = some u) (heo : ∃ u, h'.get? e = some u)
    (new : ObjOk P w (upd H x o') h' x o') : HOk P w (upd H x o') h' := fun b u q => by
  have nown : ∀ c y, H c = some (.own y) → c ≠ x := fun c y r z => by subst z; rw [r] at mu; exact mu
  have ntup : ∀ c xs, H c = some (.tup xs) → c ≠ x := fun c xs r z => by subst z; rw [r] at mu; exact mu
  by_cases hb : b = x
  · subst hb; rw [upd_same] at q; cases q; exact new
  · rw [upd_ne hb] at q
    by_cases hbe : b = e
    · have q' : H b = some (.own x) := by
        rcases he with z | z
        · exact absurd (hbe.trans z) hb
        · rw [hbe]; exact z
      rw [q] at q'; cases q'
      obtain ⟨v, hv⟩ := heo
      exact ⟨v, by rw [hbe]; exact hv⟩
    · refine (ok b u q).stay (fun c v hc r => k c v ?_ r) (fun c r => by rw [upd_ne (nown c b r)]; exact r) fun c xs r => by rw [upd_ne (ntup c xs r)]; exact r
      rcases hc with rfl | hc
      · exact hbe
      · rintro rfl
        rcases he with z | z
        · exact nown c b hc z
        · rw [hc] at z; cases z; exact hb rfl
end

/-! ### kept unless tracked; of the frames at fs (the callers') the slots may change (an exception that passes writes there); of the records at ex (iterators) nothing is said -/
structure Un (fs ex : List Addr) (H H' : Hp) (h h' : Heap) : Prop where
  keep : ∀ b o, h.get? b = some o → H b = none → b ∉ fs → b ∉ ex → h'.get? b = some o
  slot : ∀ b o, h.get? b = some o → H b = none → b ∈ fs → b ∉ ex → ∃ sl, h'.get? b = some { o with slots := sl }
  free : ∀ b o, h.get? b = some o → H b = none → b ∉ ex → H' b = none
  there : ∀ b o, h.get? b = some o → b ∉ ex → ∃ o', h'.get? b = some o'
  tups : ∀ b xs, H b = some (.tup xs) → H' b = some (.tup xs)
  frzs : ∀ b o u, H b = some (.frz o u) → H' b = some (.frz o u)
  tbls : ∀ b ps, H b = some (.tbl ps) → ∃ more, H' b = some (.tbl (ps ++ more))
section
variable {fs fs' ex ex' : List Addr} {H H1 H2 : Hp} {h h1 h2 h' : Heap} {a x e : Addr} {o : HO}
theorem Un.any (u : Un fs ex H H1 h h1) {b : Addr} {ob : Obj} (q : h.get? b = some ob) (n : H b = none) (hx : b ∉ ex) : ∃ sl, h1.get? b = some { ob with slots := sl } := by
  by_cases hb : b ∈ fs
  · exact u.slot b ob q n hb hx
  · exact ⟨ob.slots, u.keep b ob q n hb hx⟩
theorem Un.kept (k : ∀ b u, h.get? b = some u → h'.get? b = some u) : Un fs ex H H h h' :=
  ⟨fun b ob q _ _ _ => k b ob q, fun b ob q _ _ _ => ⟨ob.slots, k b ob q⟩, fun _ _ _ n _ => n, fun b ob q _ => ⟨ob, k b ob q⟩, fun _ _ q => q, fun _ _ _ q => q, fun _ ps q => ⟨#[], by rw [q]; simp⟩⟩
theorem Un.refl : Un fs ex H H h h := Un.kept fun _ _ q => q
theorem Un.laid (k : ∀ b u, h.get? b = some u → h'.get? b = some u) (hp : h.objs.size ≤ a) (hn : H a = none) : Un fs ex H (upd H a o) h h' where
  keep := fun b u q _ _ _ => k b u q
  slot := fun b u q _ _ _ => ⟨u.slots, k b u q⟩
  free := fun b u q n _ => by rw [upd_ne (Nat.ne_of_lt (Nat.lt_of_lt_of_le (Heap.lt_size q) hp))]; exact n
  there := fun b u q _ => ⟨u, k b u q⟩
  tups := fun b xs q => by rw [upd_ne (ne_of_none q hn)]; exact q
  frzs := fun b u xs q => by rw [upd_ne (ne_of_none q hn)]; exact q
  tbls := fun b ps q => ⟨#[], by rw [upd_ne (ne_of_none q hn), q]; simp⟩
theorem Un.write (mu : Mut (H x)) (he : e = x ∨ H e = some (.own x)) (k : ∀ b u, b ≠ e → h.get? b = some u → h'.get? b = some u) (heo : ∃ u, h'.get? e = some u) : Un fs ex H (upd H x o) h h' := by
  have hx : ∀ b, H b = none → b ≠ x := fun b n z => by subst z; rw [n] at mu; exact mu
  have hb : ∀ b, H b = none → b ≠ e := fun b n z => by
    subst z
    rcases he with r | r
    · exact hx b n r
    · rw [n] at r; cases r
  have hm : ∀ b u, H b = some u → ¬ Mut (some u) → b ≠ x := fun b u q nm z => by subst z; rw [q] at mu; exact nm mu
  refine ⟨fun b u q n _ _ => k b u (hb b n) q, fun b u q n _ _ => ⟨u.slots, k b u (hb b n) q⟩, fun b u q n _ => by rw [upd_ne (hx b n)]; exact n, fun b u q _ => ?_,
    fun b xs q => by rw [upd_ne (hm b _ q fun z => z)]; exact q, fun b u xs q => by rw [upd_ne (hm b _ q fun z => z)]; exact q, fun b ps q => ⟨#[], by rw [upd_ne (hm b _ q fun z => z), q]; simp⟩⟩
  by_cases hbe : b = e
  · subst hbe; exact heo
  · exact ⟨u, k b u hbe q⟩
end

/-! ### the heap without what is tracked -/
def trk (h : Heap) (H : Hp) : List Addr := (List.range h.objs.size).filter fun a => (H a).isSome
def hidT (h : Heap) (H : Hp) : Heap := PySem.W.hideAll h (trk h H)
theorem hidT_size (h : Heap) (H : Hp) : (hidT h H).objs.size = h.objs.size := PySem.W.hideAll_size _ _
theorem hidT_get {h : Heap} {H : Hp} {b : Addr} {o : Obj} (e : h.get? b = some o) (n : H b = none) : (hidT h H).get? b = some o :=
  PySem.W.hideAll_get _ e fun hm => by
    have q : (H b).isSome = true := (List.mem_filter.mp hm).2
    rw [n] at q; simp at q
theorem of_hidT {h : Heap} {H : Hp} {b : Addr} {o : Obj} (e : (hidT h H).get? b = some o) : h.get? b = some o ∧ H b = none := by
  have e' : h.get? b = some o := PySem.W.of_hideAll (trk h H) e
  refine ⟨e', ?_⟩
  cases q : H b with
  | none => rfl
  | some x =>
    have hm : b ∈ trk h H := List.mem_filter.mpr ⟨List.mem_range.mpr (Heap.lt_size e'), by simp [q]⟩
    have z : (hidT h H).get? b = none := PySem.W.hideAll_none (trk h H) hm
    rw [z] at e; cases e

/-! ### OpenK's ledger, filled with every new object but one -/
def allNews (g h : Heap) (L : Addr) : List (Addr × Obj) := (List.range h.objs.size).filterMap fun a => if a = L ∨ (g.get? a).isSome = true then none else (h.get? a).map fun o => (a, o)
def rest (g h : Heap) (L d : Addr) : List (Addr × Obj) := (allNews g h L).filter fun p => decide (p.1 ≠ d)
end L2

namespace L2
open PySem PySem.Spec PyProof.Rows

/-- the module's facts, over the base: the heap at the law's entry without what is tracked there -/
structure Mod (K : PySem.W.Frag) (mg : Str → Option Value) (base : Heap) : Prop where
  kin : K.In base
  glob : base.Ns mainGlobals mg
  blt : ∃ mb, base.Ns builtinsNs mb ∧ ∀ x : Str, x ≠ "__name__" → mb x = bootBuiltins x
  nolimit : base.NoLimit

/-- the context: a def's body (or a comprehension's block) running. base: fixed through the whole law; s₀, H₀: the entry; outer: the frames whose slots others may change (a def's callers); stack: all frames that run;
   ex: iterators that were made ahead of the entry and are walked here (a comprehension's); fn: the names whose cells were made at the entry (a def: all; a comprehension's block: its own); calm: not within an except suite; pn: pins that every state bears; xe: what is wanted of an exception that leaves the code -/
structure Cx where
  prog : Program
  w : World
  K : PySem.W.Frag
  mg : Str → Option Value
  base : Heap
  A : Around
  N : List Str
  s₀ : Shared
  H₀ : Hp
  env : Env
  outer : List Env
  stack : List Env
  ex : List Addr
  fn : Str → Bool
  calm : Bool
  pn : List (Addr × Obj)
  xe : Value → Shared → Prop
/-- the callers' frames -/
def frs (l : List Env) : List Addr := l.filterMap (·.frame)
abbrev Cx.fs (X : Cx) : List Addr := frs X.outer

def Vis (sc : Scope) (x : Str) : Prop := sc.names.lookup x = some .local ∨ sc.names.lookup x = some .cell ∨ sc.names.lookup x = some .free
def Loc (sc : Scope) (x : Str) : Prop := sc.names.lookup x = some .local ∨ sc.names.lookup x = some .cell
def Look (env : Env) (h : Heap) (m : Str → Option Value) (x : Str) (u : Value) : Prop :=
  (env.kindOf x = some .local ∧ m x = some u) ∨ ((env.kindOf x = some .cell ∨ env.kindOf x = some .free) ∧ ∃ c, env.cells.lookup x = some c ∧ h.IsCell c (some u))

structure Cx.Ok (X : Cx) : Prop where
  mod : Mod X.K X.mg X.base
  kind : X.env.scope.kind = .function
  glob : X.env.globals = mainGlobals
  blt : X.env.builtins = builtinsNs
  above : X.s₀.heap.objs.size ≤ X.env.locals
  inj : ∀ x y c, X.env.cells.lookup x = some c → X.env.cells.lookup y = some c → x = y
  has : ∀ x, (X.env.kindOf x = some .cell ∨ X.env.kindOf x = some .free) → ∃ c, X.env.cells.lookup x = some c
  cab : ∀ x c, X.fn x = true → X.env.cells.lookup x = some c → X.s₀.heap.objs.size ≤ c
  hd : X.calm = true → X.A.handled = none
  frames : X.A.frames = some X.stack
  stk : X.stack = X.outer ∨ (X.stack = X.env :: X.outer ∧ X.env.frame = some X.env.locals)
  exf : ∀ b ∈ X.ex, b ≠ X.env.locals ∧ ∀ x c, X.env.cells.lookup x = some c → c ≠ b
  bs : ∀ b o, X.base.get? b = some o → X.s₀.heap.get? b = some o ∧ X.H₀ b = none
  bsz : X.base.objs.size ≤ X.s₀.heap.objs.size
  noex : ∀ b o, X.base.get? b = some o → b ∉ X.ex
  exfs : ∀ b ∈ X.ex, b ∉ X.fs
  funs : X.s₀.heap.FunFrames X.base X.outer
  frf : ∀ b ∈ X.fs, X.H₀ b = none

structure Inv (X : Cx) (pins : List (Addr × Obj)) (σ : List (Option V)) (H : Hp) (s : Shared) : Prop where
  ok : X.Ok
  os : s.os = X.s₀.os
  bare : AllBare s.gens
  base : Un X.fs X.ex X.H₀ H X.s₀.heap s.heap
  loc : ∃ m, s.heap.Ns X.env.locals m ∧ ∀ (i : Nat) (x : Str) (v : V), X.N[i]? = some x → σ[i]? = some (some v) → Vis X.env.scope x → ∃ u, RelV v u ∧ Look X.env s.heap m x u
  cell : ∀ x c, X.env.cells.lookup x = some c → ∃ v, s.heap.IsCell c v
  free : H X.env.locals = none
  freeC : ∀ x c, X.env.cells.lookup x = some c → H c = none
  pin : ∀ p ∈ X.pn ++ pins, s.heap.get? p.1 = some p.2 ∧ H p.1 = none ∧ p.1 ≠ X.env.locals ∧ p.1 ∉ X.fs ∧ ∀ v, p.2.data ≠ .cell v
  hok : HOk X.prog X.w H s.heap
  len : σ.length = X.N.length

section
variable {X : Cx} {pins : List (Addr × Obj)} {σ : List (Option V)} {H H' : Hp} {s : Shared} {h' : Heap}

theorem Cx.Ok.nofr (ok : X.Ok) {b : Addr} {o : Obj} (e : X.base.get? b = some o) : b ∉ X.fs := fun hb => by
  have := (ok.funs.mem hb).1
  rw [e] at this; cases this
theorem Inv.bs (I : Inv X pins σ H s) : ∀ b o, X.base.get? b = some o → s.heap.get? b = some o ∧ H b = none := fun b o e =>
  ⟨I.base.keep b o (I.ok.bs b o e).1 (I.ok.bs b o e).2 (I.ok.nofr e) (I.ok.noex b o e), I.base.free b o (I.ok.bs b o e).1 (I.ok.bs b o e).2 (I.ok.noex b o e)⟩
theorem Inv.bk (I : Inv X pins σ H s) : ∀ b o, X.base.get? b = some o → s.heap.get? b = some o := fun b o e => (I.bs b o e).1
theorem Inv.mod (I : Inv X pins σ H s) : Mod X.K X.mg X.base := I.ok.mod
theorem Inv.kIn (I : Inv X pins σ H s) : X.K.In s.heap := I.ok.mod.kin.keeps I.bk
theorem Inv.lt (I : Inv X pins σ H s) : X.env.locals < s.heap.objs.size := let ⟨_, hn, _⟩ := I.loc; hn.lt
theorem Inv.sz (I : Inv X pins σ H s) : X.s₀.heap.objs.size ≤ s.heap.objs.size := Nat.le_trans I.ok.above (Nat.le_of_lt I.lt)
theorem Inv.nofs (I : Inv X pins σ H s) {a : Addr} (h : s.heap.objs.size ≤ a) : a ∉ X.fs := fun hb => by
  obtain ⟨_, o, ho, _⟩ := I.ok.funs.mem hb
  exact absurd (Nat.lt_of_lt_of_le (Heap.lt_size ho) (Nat.le_trans I.sz h)) (Nat.lt_irrefl _)
theorem Inv.cne (I : Inv X pins σ H s) : ∀ x c, X.env.cells.lookup x = some c → c ≠ X.env.locals := fun x c e z => by
  obtain ⟨v, o, ho, hd⟩ := I.cell x c e
  obtain ⟨m, ⟨o', es, ep, ho', hd', _⟩, _⟩ := I.loc
  rw [z, ho'] at ho; cases ho; rw [hd'] at hd; cases hd
theorem Inv.funs (I : Inv X pins σ H s) : s.heap.FunFrames X.base X.outer := by
  have all : ∀ (l : List Env), (∀ b ∈ frs l, b ∈ X.fs) → X.s₀.heap.FunFrames X.base l → s.heap.FunFrames X.base l := by
    intro l
    induction l with
    | nil => intro _ _; trivial
    | cons env r ih =>
      intro hs hl
      obtain ⟨hk, ⟨L, o, hf, hn, ho, hd⟩, hr⟩ := hl
      have hL : L ∈ X.fs := hs L (by unfold frs; rw [List.filterMap_cons, hf]; exact List.mem_cons_self)
      obtain ⟨sl, e⟩ := I.base.slot L o ho (I.ok.frf L hL) hL fun z => I.ok.exfs L z hL
      exact ⟨hk, ⟨L, _, hf, hn, e, hd⟩, ih (fun b hb => hs b (by unfold frs; rw [List.filterMap_cons, hf]; exact List.mem_cons_of_mem _ hb)) hr⟩
  exact all X.outer (fun _ hb => hb) I.ok.funs

/-- the frames that run, for a call -/
theorem Inv.stack (I : Inv X pins σ H s) : s.heap.FunFrames X.base X.stack := by
  rcases I.ok.stk with e | ⟨e, hf⟩
  · rw [e]; exact I.funs
  · rw [e]
    obtain ⟨m, hn, _⟩ := I.loc
    refine .cons (by rw [I.ok.kind]; decide) hf hn ?_ I.funs
    exact Heap.get?_none_of_le (Nat.le_trans I.ok.bsz I.ok.above)
theorem Inv.stkSub (I : Inv X pins σ H s) : ∀ b ∈ frs X.stack, b ∈ X.env.locals :: X.fs := fun b hb => by
  rcases I.ok.stk with e | ⟨e, hf⟩
  · rw [e] at hb; exact List.mem_cons_of_mem _ hb
  · rw [e] at hb
    unfold frs at hb
    rw [List.filterMap_cons, hf] at hb
    exact hb
theorem Inv.stkFree (I : Inv X pins σ H s) : ∀ b ∈ frs X.stack, H b = none := fun b hb => by
  rcases List.mem_cons.mp (I.stkSub b hb) with e | hb
  · rw [e]; exact I.free
  · obtain ⟨_, o, ho, _⟩ := I.ok.funs.mem hb
    exact I.base.free b o ho (I.ok.frf b hb) fun z => I.ok.exfs b z hb

/-- THE STEP: the untracked objects but the frame and the records at ch are kept (the callers' frames up to slots), the frame's map is kept, the new abstract heap is held -/
theorem Inv.step {g' : Array GenState} {t' : Nat} {d' : Drawn} {ch : List Addr} (I : Inv X pins σ H s)
    (hch : ∀ b ∈ ch, (b ∈ X.ex ∨ X.s₀.heap.objs.size ≤ b) ∧ b ≠ X.env.locals ∧ (∀ x c, X.env.cells.lookup x = some c → c ≠ b) ∧ ∀ p ∈ X.pn ++ pins, p.1 ≠ b)
    (keep : ∀ b o, b ≠ X.env.locals → b ∉ X.fs → b ∉ ch → s.heap.get? b = some o → H b = none → h'.get? b = some o)
    (slot : ∀ b o, b ≠ X.env.locals → b ∈ X.fs → b ∉ ch → s.heap.get? b = some o → H b = none → ∃ sl, h'.get? b = some { o with slots := sl }) (free : ∀ b o, b ∉ ch → s.heap.get? b = some o → H b = none → H' b = none)
    (there : ∀ b o, b ∉ ch → s.heap.get? b = some o → ∃ o', h'.get? b = some o')
    (tups : ∀ b xs, H b = some (.tup xs) → H' b = some (.tup xs)) (frzs : ∀ b o u, H b = some (.frz o u) → H' b = some (.frz o u)) (tbls : ∀ b ps, H b = some (.tbl ps) → ∃ more, H' b = some (.tbl (ps ++ more)))
    (ns : ∀ m, s.heap.Ns X.env.locals m → h'.Ns X.env.locals m) (hok : HOk X.prog X.w H' h') (hg : AllBare g') :
    Inv X pins σ H' { s with heap := h', gens := g', drawn := d', toks := t' } := by
  have neL : ∀ b o, X.s₀.heap.get? b = some o → b ≠ X.env.locals := fun b o e => Nat.ne_of_lt (Nat.lt_of_lt_of_le (Heap.lt_size e) I.ok.above)
  have neC : ∀ b o, X.s₀.heap.get? b = some o → b ∉ X.ex → b ∉ ch := fun b o e hx hb => by
    rcases (hch b hb).1 with z | z
    · exact hx z
    · exact absurd (Nat.lt_of_lt_of_le (Heap.lt_size e) z) (Nat.lt_irrefl _)
  have cellK : ∀ x c, X.env.cells.lookup x = some c → ∀ v, s.heap.IsCell c v → h'.IsCell c v := fun x c e v ⟨o, ho, hd⟩ => by
    have nch : c ∉ ch := fun z => (hch c z).2.2.1 x c e rfl
    by_cases hc : c ∈ X.fs
    · obtain ⟨sl, q⟩ := slot c o (I.cne x c e) hc nch ho (I.freeC x c e)
      exact ⟨_, q, hd⟩
    · exact ⟨o, keep c o (I.cne x c e) hc nch ho (I.freeC x c e), hd⟩
  refine ⟨I.ok, I.os, hg, ⟨fun b o e n hb hx => ?_, fun b o e n hb hx => ?_, fun b o e n hx => ?_, fun b o e hx => ?_, fun b xs e => tups b xs (I.base.tups b xs e), fun b o xs e => frzs b o xs (I.base.frzs b o xs e), fun b ps e => ?_⟩, ?_, fun x c e => ?_, ?_, fun x c e => ?_, fun p hp => ?_, hok, I.len⟩
  · exact keep b o (neL b o e) hb (neC b o e hx) (I.base.keep b o e n hb hx) (I.base.free b o e n hx)
  · obtain ⟨sl, e1⟩ := I.base.slot b o e n hb hx
    obtain ⟨sl', e2⟩ := slot b _ (neL b o e) hb (neC b o e hx) e1 (I.base.free b o e n hx)
    exact ⟨sl', e2⟩
  · obtain ⟨o', e1⟩ := I.base.there b o e hx
    exact free b o' (neC b o e hx) e1 (I.base.free b o e n hx)
  · obtain ⟨o', e1⟩ := I.base.there b o e hx
    exact there b o' (neC b o e hx) e1
  · obtain ⟨m1, e1⟩ := I.base.tbls b ps e
    obtain ⟨m2, e2⟩ := tbls b _ e1
    exact ⟨m1 ++ m2, by rw [e2, Array.append_assoc]⟩
  · obtain ⟨m, hn, hl⟩ := I.loc
    refine ⟨m, ns m hn, fun i x v e1 e2 e3 => ?_⟩
    obtain ⟨u, r, l⟩ := hl i x v e1 e2 e3
    refine ⟨u, r, ?_⟩
    rcases l with l | ⟨k, c, e, z⟩
    · exact .inl l
    · exact .inr ⟨k, c, e, cellK x c e _ z⟩
  · obtain ⟨v, z⟩ := I.cell x c e
    exact ⟨v, cellK x c e v z⟩
  · obtain ⟨m, ⟨o, _, _, ho, _⟩, _⟩ := I.loc
    exact free _ o (fun z => (hch _ z).2.1 rfl) ho I.free
  · obtain ⟨v, o, ho, hd⟩ := I.cell x c e
    exact free c o (fun z => (hch c z).2.2.1 x c e rfl) ho (I.freeC x c e)
  · obtain ⟨e, n, ne, nf, d⟩ := I.pin p hp
    have nch : p.1 ∉ ch := fun z => (hch p.1 z).2.2.2 p hp rfl
    exact ⟨keep p.1 p.2 ne nf nch e n, free p.1 p.2 nch e n, ne, nf, d⟩
/-- .. where the frame's own object is kept too -/
theorem Inv.un {t' : Nat} (I : Inv X pins σ H s) (u : Un X.fs [] H H' s.heap h') (hok : HOk X.prog X.w H' h') : Inv X pins σ H' { s with heap := h', toks := t' } := by
  obtain ⟨m, ⟨o, es, ep, ho, r⟩, _⟩ := id I.loc
  obtain ⟨sl, hL⟩ := u.any ho I.free (by simp)
  exact I.step (g' := s.gens) (d' := s.drawn) (ch := []) (fun _ z => nomatch z) (fun b o _ hb _ e n => u.keep b o e n hb (by simp)) (fun b o _ hb _ e n => u.slot b o e n hb (by simp)) (fun b o _ e n => u.free b o e n (by simp)) (fun b o _ e => u.there b o e (by simp)) u.tups u.frzs u.tbls (fun m' hm => by
    obtain ⟨o', es', ep', ho', r'⟩ := hm
    rw [ho] at ho'; cases ho'
    exact ⟨_, es', ep', hL, r'⟩) hok I.bare
/-- behind a call (or a comprehension's block): the slots of this frame may have changed too, the records at ch may have turned -/
theorem Inv.call {g' : Array GenState} {t' : Nat} {d' : Drawn} {ch : List Addr} (I : Inv X pins σ H s) (u : Un (frs X.stack) ch H H' s.heap h') (hok : HOk X.prog X.w H' h') (hg : AllBare g')
    (hch : ∀ b ∈ ch, (b ∈ X.ex ∨ X.s₀.heap.objs.size ≤ b) ∧ b ≠ X.env.locals ∧ (∀ x c, X.env.cells.lookup x = some c → c ≠ b) ∧ ∀ p ∈ X.pn ++ pins, p.1 ≠ b) :
    Inv X pins σ H' { s with heap := h', gens := g', drawn := d', toks := t' } := by
  obtain ⟨m, ⟨o, es, ep, ho, r⟩, _⟩ := id I.loc
  obtain ⟨sl, hL⟩ := u.any ho I.free fun z => (hch _ z).2.1 rfl
  exact I.step (ch := ch) hch (fun b o hL hb hc e n => u.keep b o e n (fun z => (List.mem_cons.mp (I.stkSub b z)).elim hL hb) hc) (fun b o _ _ hc e n => u.any e n hc) (fun b o hc e n => u.free b o e n hc) (fun b o hc e => u.there b o e hc) u.tups u.frzs u.tbls (fun m' hm => by
    obtain ⟨o', es', ep', ho', r'⟩ := hm
    rw [ho] at ho'; cases ho'
    exact ⟨_, es', ep', hL, r'⟩) hok hg
/-- an untracked record of ours (an iterator) has turned -/
theorem Inv.turned {t' : Nat} {it : Addr} (I : Inv X pins σ H s) (k : ∀ b o, b ≠ it → s.heap.get? b = some o → h'.get? b = some o) (hn : H it = none) (hL : it ≠ X.env.locals)
    (h1 : it ∈ X.ex ∨ X.s₀.heap.objs.size ≤ it) (h2 : ∀ x c, X.env.cells.lookup x = some c → c ≠ it) (h3 : ∀ p ∈ X.pn ++ pins, p.1 ≠ it) : Inv X pins σ H { s with heap := h', toks := t' } := by
  have nit : ∀ b u, H b = some u → b ≠ it := fun b u e z => by rw [z, hn] at e; cases e
  refine I.step (g' := s.gens) (d' := s.drawn) (ch := [it]) (fun b hb => ?_) (fun b o _ _ hc e _ => k b o (fun z => hc (by simp [z])) e) (fun b o _ _ hc e _ => ⟨o.slots, k b o (fun z => hc (by simp [z])) e⟩) (fun _ _ _ _ n => n)
    (fun b o hc e => ⟨o, k b o (fun z => hc (by simp [z])) e⟩) (fun _ _ e => e) (fun _ _ _ e => e) (fun b ps e => ⟨#[], by rw [e]; simp⟩) (fun m hm => ?_) (fun b u e => ?_) I.bare
  · have e : b = it := by simpa using hb
    subst e
    exact ⟨h1, hL, h2, h3⟩
  · obtain ⟨o, es, ep, ho, r⟩ := hm
    exact ⟨o, es, ep, k _ o (Ne.symm hL) ho, r⟩
  · refine (I.hok b u e).stay (fun c v hc q => k c v ?_ q) (fun _ q => q) fun _ _ q => q
    rcases hc with z | z
    · rw [z]; exact nit b u e
    · exact nit c _ z
theorem Inv.tok (I : Inv X pins σ H s) (t : Nat) : Inv X pins σ H { s with toks := t } := I.un (h' := s.heap) (t' := t) Un.refl I.hok
/-- all objects kept -/
theorem Inv.kept {t' : Nat} (I : Inv X pins σ H s) (k : ∀ b u, s.heap.get? b = some u → h'.get? b = some u) : Inv X pins σ H { s with heap := h', toks := t' } := I.un (Un.kept k) (I.hok.kept k)
/-- a new object laid and tracked -/
theorem Inv.laid {a : Addr} {o : HO} {t' : Nat} (I : Inv X pins σ H s) (k : ∀ b u, s.heap.get? b = some u → h'.get? b = some u) (hp : s.heap.objs.size ≤ a) (new : ObjOk X.prog X.w (upd H a o) h' a o) :
    Inv X pins σ (upd H a o) { s with heap := h', toks := t' } := I.un (Un.laid k hp (I.hok.fresh hp)) (I.hok.laid k hp new)
/-- an object written -/
theorem Inv.write {x e : Addr} {o : HO} {t' : Nat} (I : Inv X pins σ H s) (mu : Mut (H x)) (he : e = x ∨ H e = some (.own x)) (k : ∀ b u, b ≠ e → s.heap.get? b = some u → h'.get? b = some u) (heo : ∃ u, h'.get? e = some u)
    (new : ObjOk X.prog X.w (upd H x o) h' x o) : Inv X pins σ (upd H x o) { s with heap := h', toks := t' } := I.un (Un.write mu he k heo) (I.hok.write mu he k heo new)
theorem Inv.pins_of {pins' : List (Addr × Obj)} (I : Inv X pins σ H s) (h : ∀ p ∈ pins', s.heap.get? p.1 = some p.2 ∧ H p.1 = none ∧ p.1 ≠ X.env.locals ∧ p.1 ∉ X.fs ∧ ∀ v, p.2.data ≠ .cell v) : Inv X pins' σ H s :=
  ⟨I.ok, I.os, I.bare, I.base, I.loc, I.cell, I.free, I.freeC, fun p hp => (List.mem_append.mp hp).elim (fun z => I.pin p (List.mem_append_left _ z)) (h p), I.hok, I.len⟩

theorem nodup_ix {N : List Str} (hN : N.Nodup) {i j : Nat} {x : Str} (a : N[i]? = some x) (b : N[j]? = some x) : i = j := by
  obtain ⟨h1, e1⟩ := List.getElem?_eq_some_iff.mp a
  obtain ⟨h2, e2⟩ := List.getElem?_eq_some_iff.mp b
  exact (List.getElem_inj hN).mp (e1.trans e2.symm)

/-- a name is stored; what changed -/
theorem store_ok2 {M : Model} {A : Around} {E : Value → Shared → Prop} {i : Nat} {x : Str} {v : V} {u : Value} {Q : Unit → Shared → Prop} (I : Inv X pins σ H s) (hN : X.N.Nodup) (hi : X.N[i]? = some x) (hx : Loc X.env.scope x) (r : RelV v u)
    (h : ∀ s', Inv X pins (σ.set i (some v)) H s' → (∃ a, Heap.SameBut a s.heap s'.heap ∧ (a = X.env.locals ∨ X.env.cells.lookup x = some a)) → Q () s') (hf : X.fn x = true ∨ X.env.scope.names.lookup x = some .local := by first | exact .inl rfl | exact .inr rfl | assumption) : wpAny M A (storeName X.env x u) Q E s := by
  obtain ⟨m, hn, hl⟩ := id I.loc
  have hcls : (X.env.scope.kind == .class || (X.env.scope.kind == .module && X.env.locals != X.env.globals)) = false := by rw [I.ok.kind]; rfl
  have hiσ : i < σ.length := by rw [I.len]; exact (List.getElem?_eq_some_iff.mp hi).1
  have cne := I.cne
  have tracked : ∀ {a : Addr} {h' : Heap}, (∃ o, s.heap.get? a = some o ∧ H a = none) → Heap.SameBut a s.heap h' → HOk X.prog X.w H h' := fun {a h'} ha hs b ob e => by
    obtain ⟨_, _, hfree⟩ := ha
    refine (I.hok b ob e).stay (fun c w' hc q => (hs.2 c ?_).trans q) (fun _ q => q) fun _ _ q => q
    rintro rfl
    rcases hc with rfl | hc
    · rw [hfree] at e; cases e
    · rw [hfree] at hc; cases hc
  rcases hx with hk | hk
  · refine wpAny_storeName_local hk hn (fun h' hn' hs => ?_) hcls
    obtain ⟨oL, _, _, hoL, _⟩ := id hn
    refine h _ ⟨I.ok, I.os, I.bare, ⟨fun b o e n hb hx => ?_, fun b o e n hb hx => ?_, I.base.free, fun b o e hx => ?_, I.base.tups, I.base.frzs, I.base.tbls⟩, ⟨_, hn', fun j y v' e1 e2 e3 => ?_⟩, fun y c e => ?_, I.free, I.freeC, fun p hp => ?_, tracked ⟨oL, hoL, I.free⟩ hs, by simpa using I.len⟩ ⟨_, hs, .inl rfl⟩
    · exact (hs.2 b (Nat.ne_of_lt (Nat.lt_of_lt_of_le (Heap.lt_size e) I.ok.above))).trans (I.base.keep b o e n hb hx)
    · obtain ⟨sl, e1⟩ := I.base.slot b o e n hb hx
      exact ⟨sl, (hs.2 b (Nat.ne_of_lt (Nat.lt_of_lt_of_le (Heap.lt_size e) I.ok.above))).trans e1⟩
    · obtain ⟨o', e1⟩ := I.base.there b o e hx
      exact ⟨o', (hs.2 b (Nat.ne_of_lt (Nat.lt_of_lt_of_le (Heap.lt_size e) I.ok.above))).trans e1⟩
    · by_cases hj : j = i
      · subst hj
        rw [hi] at e1; cases e1
        rw [List.getElem?_set_self hiσ] at e2
        cases e2
        exact ⟨u, r, .inl ⟨hk, by simp⟩⟩
      · rw [List.getElem?_set_ne (Ne.symm hj)] at e2
        obtain ⟨u', r', q⟩ := hl j y v' e1 e2 e3
        refine ⟨u', r', ?_⟩
        rcases q with ⟨k, e⟩ | ⟨k, c, e, z⟩
        · refine .inl ⟨k, ?_⟩
          have : y ≠ x := fun e => hj (nodup_ix hN e1 (e ▸ hi))
          simp [this, e]
        · exact .inr ⟨k, c, e, z.sameBut hs (cne y c e)⟩
    · obtain ⟨w', z⟩ := I.cell y c e
      exact ⟨w', z.sameBut hs (cne y c e)⟩
    · obtain ⟨e, n, ne, nf, d⟩ := I.pin p hp
      exact ⟨(hs.2 p.1 ne).trans e, n, ne, nf, d⟩
  · have hfn : X.fn x = true := by
      rcases hf with z | z
      · exact z
      · rw [z] at hk; cases hk
    obtain ⟨c, hc⟩ := I.ok.has x (.inl hk)
    obtain ⟨w', z⟩ := I.cell x c hc
    refine wpAny_storeName_cell I.ok.kind hk hc z (fun h' hc' hs => ?_)
    obtain ⟨oc, hoc, hocd⟩ := id z
    refine h { s with heap := h' } ⟨I.ok, I.os, I.bare, ⟨fun b o e n hb hx => ?_, fun b o e n hb hx => ?_, I.base.free, fun b o e hx => ?_, I.base.tups, I.base.frzs, I.base.tbls⟩, ⟨m, hn.sameBut hs (Ne.symm (cne x c hc)), fun j y v' e1 e2 e3 => ?_⟩, fun y c' e => ?_, I.free, I.freeC, fun p hp => ?_, tracked ⟨oc, hoc, I.freeC x c hc⟩ hs, by simpa using I.len⟩ ⟨c, hs, .inr hc⟩
    · exact (hs.2 b (Nat.ne_of_lt (Nat.lt_of_lt_of_le (Heap.lt_size e) (I.ok.cab x c hfn hc)))).trans (I.base.keep b o e n hb hx)
    · obtain ⟨sl, e1⟩ := I.base.slot b o e n hb hx
      exact ⟨sl, (hs.2 b (Nat.ne_of_lt (Nat.lt_of_lt_of_le (Heap.lt_size e) (I.ok.cab x c hfn hc)))).trans e1⟩
    · obtain ⟨o', e1⟩ := I.base.there b o e hx
      exact ⟨o', (hs.2 b (Nat.ne_of_lt (Nat.lt_of_lt_of_le (Heap.lt_size e) (I.ok.cab x c hfn hc)))).trans e1⟩
    · by_cases hj : j = i
      · subst hj
        rw [hi] at e1; cases e1
        rw [List.getElem?_set_self hiσ] at e2
        cases e2
        exact ⟨u, r, .inr ⟨.inl hk, c, hc, hc'⟩⟩
      · rw [List.getElem?_set_ne (Ne.symm hj)] at e2
        obtain ⟨u', r', q⟩ := hl j y v' e1 e2 e3
        refine ⟨u', r', ?_⟩
        rcases q with q | ⟨k, c', e, z'⟩
        · exact .inl q
        · refine .inr ⟨k, c', e, z'.sameBut hs ?_⟩
          rintro rfl
          exact hj (nodup_ix hN e1 (I.ok.inj _ _ _ e hc ▸ hi))
    · by_cases hcc : c' = c
      · subst hcc; exact ⟨_, hc'⟩
      · obtain ⟨w2, z2⟩ := I.cell y c' e
        exact ⟨w2, z2.sameBut hs hcc⟩
    · obtain ⟨e, n, ne, nf, d⟩ := I.pin p hp
      refine ⟨(hs.2 p.1 ?_).trans e, n, ne, nf, d⟩
      intro q
      rw [q, hoc] at e
      have q' : oc = p.2 := Option.some.inj e
      exact d w' (by rw [← q']; exact hocd)
theorem store_ok {M : Model} {A : Around} {E : Value → Shared → Prop} {i : Nat} {x : Str} {v : V} {u : Value} {Q : Unit → Shared → Prop} (I : Inv X pins σ H s) (hN : X.N.Nodup) (hi : X.N[i]? = some x) (hx : Loc X.env.scope x) (r : RelV v u)
    (h : ∀ s', Inv X pins (σ.set i (some v)) H s' → Q () s') (hf : X.fn x = true ∨ X.env.scope.names.lookup x = some .local := by first | exact .inl rfl | exact .inr rfl | assumption) : wpAny M A (storeName X.env x u) Q E s :=
  store_ok2 I hN hi hx r (fun s' I' _ => h s' I') hf
/-- behind a call or a block, the state as it is -/
theorem Inv.call' {s' : Shared} {ch : List Addr} (I : Inv X pins σ H s) (ho : s'.os = s.os) (u : Un (frs X.stack) ch H H' s.heap s'.heap) (hok : HOk X.prog X.w H' s'.heap) (hg : AllBare s'.gens)
    (hch : ∀ b ∈ ch, (b ∈ X.ex ∨ X.s₀.heap.objs.size ≤ b) ∧ b ≠ X.env.locals ∧ (∀ x c, X.env.cells.lookup x = some c → c ≠ b) ∧ ∀ p ∈ X.pn ++ pins, p.1 ≠ b) : Inv X pins σ H' s' := by
  obtain ⟨h', g', d', t', o'⟩ := s'
  have e : o' = s.os := ho
  subst e
  exact I.call (g' := g') (t' := t') (d' := d') u hok hg hch
end

/-! ### the judgements -/
/-- an exception: its class, its own dict's address (where it has one), the abstract heap behind it -/
abbrev XK := Value → Option Addr → Hp → Prop
abbrev St := List (Option V)
abbrev VK := V → Hp → Prop
/-- an expression's reading; a test's; an argument list's -/
abbrev TE := St → Hp → VK → Prop
abbrev TT := St → Hp → (Bool → Hp → Prop) → Prop
abbrev TA := St → Hp → (List V → Hp → Prop) → Prop
/-- what is wanted behind a statement -/
structure Ends where
  nx : St → Hp → Prop
  rt : VK
  bk : St → Hp → Prop := fun _ _ => False
  ct : St → Hp → Prop := fun _ _ => False
abbrev TS := Ends → St → Hp → Prop

def EP (X : Cx) (pins : List (Addr × Obj)) (σ : St) (Q : VK) (u : Value) (s' : Shared) : Prop := ∃ v H', Inv X pins σ H' s' ∧ RelV v u ∧ Q v H'
def TP (X : Cx) (pins : List (Addr × Obj)) (σ : St) (Q : Bool → Hp → Prop) (b : Bool) (s' : Shared) : Prop := ∃ H', Inv X pins σ H' s' ∧ Q b H'
def AP (X : Cx) (pins : List (Addr × Obj)) (σ : St) (Q : List V → Hp → Prop) (us : List Value) (s' : Shared) : Prop := ∃ vs H', Inv X pins σ H' s' ∧ Vals vs us ∧ Q vs H'
def SP (X : Cx) (pins : List (Addr × Obj)) (D : Ends) (f : Flow) (s' : Shared) : Prop :=
  match f with
  | .next => ∃ σ' H', Inv X pins σ' H' s' ∧ D.nx σ' H'
  | .brk => ∃ σ' H', Inv X pins σ' H' s' ∧ D.bk σ' H'
  | .cont => ∃ σ' H', Inv X pins σ' H' s' ∧ D.ct σ' H'
  | .ret u => ∃ v σ' H', Inv X pins σ' H' s' ∧ RelV v u ∧ D.rt v H'

def PE (X : Cx) (e : Expr) (t : TE) : Prop :=
  ∀ (pins : List (Addr × Obj)) (s : Shared) (σ : St) (H : Hp) (Q : VK), Inv X pins σ H s → t σ H Q → wpAny (model X.prog X.w) X.A (eval e X.env) (EP X pins σ Q) X.xe s
def PT (X : Cx) (e : Expr) (t : TT) : Prop :=
  ∀ (pins : List (Addr × Obj)) (s : Shared) (σ : St) (H : Hp) (Q : Bool → Hp → Prop), Inv X pins σ H s → t σ H Q → wpAny (model X.prog X.w) X.A (isTrue e X.env (eval e X.env)) (TP X pins σ Q) X.xe s
/-- a test whatever its 'whole' is (and, or) -/
def PW (X : Cx) (e : Expr) (t : TT) : Prop :=
  ∀ (whole : Sem Value) (pins : List (Addr × Obj)) (s : Shared) (σ : St) (H : Hp) (Q : Bool → Hp → Prop), Inv X pins σ H s → t σ H Q → wpAny (model X.prog X.w) X.A (isTrue e X.env whole) (TP X pins σ Q) X.xe s
theorem PW.pt {X : Cx} {e : Expr} {t : TT} (h : PW X e t) : PT X e t := h _
/-- an argument list (no star), from the left -/
def PA (X : Cx) (es : List Expr) (t : TA) : Prop :=
  ∀ (pos : Pos) (pins : List (Addr × Obj)) (s : Shared) (σ : St) (H : Hp) (Q : List V → Hp → Prop), Inv X pins σ H s → t σ H Q → wpAny (model X.prog X.w) X.A (spliced (backTo pos (starEach es X.env))) (AP X pins σ Q) X.xe s
def PS (X : Cx) (st : Stmt) (t : TS) : Prop :=
  ∀ (pins : List (Addr × Obj)) (s : Shared) (σ : St) (H : Hp) (D : Ends), Inv X pins σ H s → t D σ H → wpAny (model X.prog X.w) X.A (exec st X.env) (SP X pins D) X.xe s
def PSs (X : Cx) (st : List Stmt) (t : TS) : Prop :=
  ∀ (pins : List (Addr × Obj)) (s : Shared) (σ : St) (H : Hp) (D : Ends), Inv X pins σ H s → t D σ H → wpAny (model X.prog X.w) X.A (execs st X.env) (SP X pins D) X.xe s
/-- weaken the end -/
theorem thn {α : Type} {t : Sem α} {Q Q' : α → Shared → Prop} {M : Model} {A : Around} {E : Value → Shared → Prop} {s : Shared} (h : wpAny M A t Q E s) (hQ : ∀ a s, Q a s → Q' a s) : wpAny M A t Q' E s := wpAny_mono h hQ fun _ _ x => x
end L2

namespace L2
open PySem PySem.Spec PyProof.Rows
section
variable {X : Cx}

/-- two expressions in a row -/
theorem bin {a b : Expr} {ta tb : TE} (ha : PE X a ta) (hb : PE X b tb) {pins : List (Addr × Obj)} {s : Shared} {σ : St} {H : Hp} {R : V → V → Hp → Prop} (I : Inv X pins σ H s) (h : ta σ H fun x H1 => tb σ H1 fun y H2 => R x y H2)
    {α : Type} {Q : α → Shared → Prop} {f : Value → Value → Sem α}
    (hf : ∀ v u s2 x y H2, Inv X pins σ H2 s2 → RelV x v → RelV y u → R x y H2 → wpAny (model X.prog X.w) X.A (f v u) Q X.xe s2) :
    wpAny (model X.prog X.w) X.A (eval a X.env) (fun v s₁ => wpAny (model X.prog X.w) X.A (eval b X.env) (fun u s₂ => wpAny (model X.prog X.w) X.A (f v u) Q X.xe s₂) X.xe s₁) X.xe s := by
  refine thn (ha pins s σ H _ I h) fun v s1 ⟨x, H1, I1, r1, q1⟩ => ?_
  refine thn (hb pins s1 σ H1 _ I1 q1) fun u s2 ⟨y, H2, I2, r2, q2⟩ => ?_
  exact hf v u s2 x y H2 I2 r1 r2 q2

/-! ### names and constants -/
def tVar (i : Nat) : TE := fun σ H Q => ∃ v, σ[i]? = some (some v) ∧ Q v H
def tC (v : V) : TE := fun _ H Q => Q v H
theorem pe_var {i : Nat} {x : Str} {pos : Pos} (hN : X.N[i]? = some x) (hv : Vis X.env.scope x) (hd : (x == ("__debug__" : Str)) = false := by decide) (hcd : (x == ("__classdict__" : Str)) = false := by decide) : PE X (.Name x pos) (tVar i) := by
  intro pins s σ H Q I h
  obtain ⟨v, e, h⟩ := h
  obtain ⟨m, hn, hl⟩ := I.loc
  obtain ⟨u, r, l⟩ := hl i x v hN e hv
  have fin : EP X pins σ Q u s := ⟨v, H, I, r, h⟩
  rcases l with ⟨hk, hm⟩ | ⟨hk, c, hc, hcell⟩
  · exact wpAny_Name (wpAny_loadName_local I.ok.kind hk hn hm fin) hd
  · rcases hk with hk | hk
    · exact wpAny_Name (wpAny_loadName_cell I.ok.kind hk hc hcell fin) hd
    · exact wpAny_Name (wpAny_loadName_free I.ok.kind hk hc hcell fin hcd) hd
theorem pe_int {i j pos} : PE X (.Constant (.int i) j pos) (tC (.int i)) := fun _ _ _ H _ I h => wpAny_Constant_int ⟨.int i, H, I.tok _, ⟨_, rfl⟩, h⟩
theorem pe_bl {b j pos} : PE X (.Constant (.bool b) j pos) (tC (.bl b)) := fun _ _ _ H _ I h => Constant_bool ⟨.bl b, H, I, rfl, h⟩
theorem pe_non {j pos} : PE X (.Constant .none j pos) (tC .non) := fun _ _ _ H _ I h => Constant_none ⟨.non, H, I, rfl, h⟩
theorem pe_str {x j pos} : PE X (.Constant (.str x) j pos) (tC (.str x)) := fun _ _ _ H _ I h => Calls.Constant_str ⟨.str x, H, I.tok _, ⟨_, rfl⟩, h⟩

/-- a global name of the def -/
def Gl (X : Cx) (x : Str) : Prop := X.env.kindOf x = some .globalImplicit
theorem ld_glob {E : Value → Shared → Prop} {pins : List (Addr × Obj)} {s : Shared} {σ : St} {H : Hp} {x : Str} {u : Value} {pos : Pos} {Q : Value → Shared → Prop} (I : Inv X pins σ H s) (hg : Gl X x) (hm : X.mg x = some u) (h : Q u s)
    (hd : (x == ("__debug__" : Str)) = false := by decide) : wpAny (model X.prog X.w) X.A (eval (.Name x pos) X.env) Q E s :=
  Calls.Name_function_global I.ok.kind hg (Calls.loadGlobal_global (by rw [I.ok.glob]; exact I.mod.glob.keeps I.bk) hm h) hd
theorem ld_blt {E : Value → Shared → Prop} {pins : List (Addr × Obj)} {s : Shared} {σ : St} {H : Hp} {x : Str} {u : Value} {pos : Pos} {Q : Value → Shared → Prop} (I : Inv X pins σ H s) (hg : Gl X x) (hm : X.mg x = none) (hv : bootBuiltins x = some u) (h : Q u s)
    (hn : x ≠ "__name__" := by decide) (hd : (x == ("__debug__" : Str)) = false := by decide) : wpAny (model X.prog X.w) X.A (eval (.Name x pos) X.env) Q E s := by
  obtain ⟨mb, h1, h2⟩ := I.mod.blt
  exact Calls.Name_function_global I.ok.kind hg (Calls.loadGlobal_builtin (by rw [I.ok.glob]; exact I.mod.glob.keeps I.bk) hm (by rw [I.ok.blt]; exact h1.keeps I.bk) ((h2 x hn).trans hv) h) hd
/-- a module's constant, a class, a function, as a value -/
theorem pe_glob {x : Str} {v : V} {u : Value} {pos : Pos} (hg : Gl X x) (hm : X.mg x = some u) (r : RelV v u) (hd : (x == ("__debug__" : Str)) = false := by decide) : PE X (.Name x pos) (tC v) :=
  fun _ _ _ H _ I h => ld_glob I hg hm ⟨v, H, I, r, h⟩ hd
theorem pe_bltn {x : Str} {v : V} {u : Value} {pos : Pos} (hg : Gl X x) (hm : X.mg x = none) (hv : bootBuiltins x = some u) (r : RelV v u) (hn : x ≠ "__name__" := by decide) (hd : (x == ("__debug__" : Str)) = false := by decide) : PE X (.Name x pos) (tC v) :=
  fun _ _ _ H _ I h => ld_blt I hg hm hv ⟨v, H, I, r, h⟩ hn hd

/-! ### arithmetic -/
/-- two ints -/
def t2I (ta tb : TE) (k : Int → Int → Hp → Prop) : St → Hp → Prop := fun σ H => ta σ H fun x H1 => tb σ H1 fun y H2 => ∃ i j, x = .int i ∧ y = .int j ∧ k i j H2
def tAdd (ta tb : TE) : TE := fun σ H Q => t2I ta tb (fun i j H2 => Q (.int (i + j)) H2) σ H
def tSub (ta tb : TE) : TE := fun σ H Q => t2I ta tb (fun i j H2 => Q (.int (i - j)) H2) σ H
/-- the left factor below 2^64 -/
def tMul (ta tb : TE) : TE := fun σ H Q => t2I ta tb (fun i j H2 => (-(2 ^ 64) < i ∧ i < 2 ^ 64) ∧ Q (.int (i * j)) H2) σ H
variable {a b : Expr} {ta tb : TE} {pos : Pos}
/-! ### comparisons -/
def PC (X : Cx) (op : CmpOp) (a b : Expr) (t : TE) : Prop :=
  ∀ (pins : List (Addr × Obj)) (s : Shared) (σ : St) (H : Hp) (Q : VK), Inv X pins σ H s → t σ H Q →
    wpAny (model X.prog X.w) X.A (eval a X.env) (fun v s₁ => wpAny (model X.prog X.w) X.A (eval b X.env) (fun u s₂ => wpAny (model X.prog X.w) X.A (compareOp op v u) (EP X pins σ Q) X.xe s₂) X.xe s₁) X.xe s
def tCmp (p : Int → Int → Bool) (ta tb : TE) : TE := fun σ H Q => t2I ta tb (fun i j H2 => Q (.bl (p i j)) H2) σ H
abbrev tLt : TE → TE → TE := tCmp fun i j => decide (i < j)
abbrev tLe : TE → TE → TE := tCmp fun i j => decide (i ≤ j)
abbrev tGt : TE → TE → TE := tCmp fun i j => decide (j < i)
abbrev tGe : TE → TE → TE := tCmp fun i j => decide (j ≤ i)
abbrev tEqI : TE → TE → TE := tCmp fun i j => decide (i = j)
abbrev tNeI : TE → TE → TE := tCmp fun i j => !decide (i = j)
/-- is None -/
def tIsN (ta : TE) : TE := fun σ H Q => ta σ H fun x H1 => Q (.bl (decide (x = .non))) H1
def tNotN (ta : TE) : TE := fun σ H Q => ta σ H fun x H1 => Q (.bl (!decide (x = .non))) H1
/-- a comparison as a value, as a test -/
def tB (t : TE) : TT := fun σ H Q => t σ H fun x H1 => ∃ c, x = .bl c ∧ Q c H1
theorem pt_cmp {op : CmpOp} {t : TE} (h : PC X op a b t) (h1 : behindInMarks op b = false := by first | exact nobehind _ (by decide) (by decide) | rfl) : PT X (.Compare a [op] [b] pos) (tB t) := by
  intro pins s σ H Q I hw
  refine wpAny_isTrue_Compare1 (thn (h pins s σ H _ I hw) fun v s1 h1 => thn h1 fun u s2 h2 => thn h2 fun c s3 ⟨x, H1, I1, r1, q1⟩ => ?_) h1
  obtain ⟨d, rfl, q⟩ := q1
  cases r1
  exact wpAny_truthy_bool ⟨H1, I1, q⟩
/-- an expression whose value is a bool, as a test -/
theorem pt_val {e : Expr} {t : TE} (h : PE X e t) (he : ∀ whole, isTrue e X.env whole = (do let v ← whole; standAt e.pos; holding [v] (truthy v)) := by intro _; rfl) : PT X e (tB t) := by
  intro pins s σ H Q I hw
  refine isTrue_plain (thn (h pins s σ H _ I hw) fun v s1 ⟨x, H1, I1, r1, q1⟩ => ?_) (he _)
  obtain ⟨d, rfl, q⟩ := q1
  cases r1
  exact wpAny_truthy_bool ⟨H1, I1, q⟩

/-! ### and, or, not -/
variable {tA tB' : TT} {rest : List Expr}
def tAnd (t u : TT) : TT := fun σ H Q => t σ H fun c H1 => if c = true then u σ H1 Q else Q false H1
def tOr (t u : TT) : TT := fun σ H Q => t σ H fun c H1 => if c = true then Q true H1 else u σ H1 Q
def tNot (t : TT) : TT := fun σ H Q => t σ H fun c H1 => Q (!c) H1
theorem pw_and1 (ha : PT X a tA) : PW X (.BoolOp .And [a] pos) tA := by
  intro wh pins s σ H Q I h
  refine isTrue_and (thn (ha pins s σ H Q I h) fun c s1 e => ?_)
  cases c with
  | true => exact isTrue_and_nil e
  | false => exact e
theorem pw_or1 (ha : PT X a tA) : PW X (.BoolOp .Or [a] pos) tA := by
  intro wh pins s σ H Q I h
  refine isTrue_or (thn (ha pins s σ H Q I h) fun c s1 e => ?_)
  cases c with
  | false => exact isTrue_or_nil e
  | true => exact e
theorem pw_and (ha : PT X a tA) (hb : PW X (.BoolOp .And (b :: rest) pos) tB') : PW X (.BoolOp .And (a :: b :: rest) pos) (tAnd tA tB') := by
  intro wh pins s σ H Q I h
  refine isTrue_and (thn (ha pins s σ H _ I h) fun c s1 ⟨H1, I1, q1⟩ => ?_)
  cases c with
  | true => exact hb wh pins s1 σ H1 Q I1 q1
  | false => exact ⟨H1, I1, q1⟩
theorem pw_or (ha : PT X a tA) (hb : PW X (.BoolOp .Or (b :: rest) pos) tB') : PW X (.BoolOp .Or (a :: b :: rest) pos) (tOr tA tB') := by
  intro wh pins s σ H Q I h
  refine isTrue_or (thn (ha pins s σ H _ I h) fun c s1 ⟨H1, I1, q1⟩ => ?_)
  cases c with
  | true => exact ⟨H1, I1, q1⟩
  | false => exact hb wh pins s1 σ H1 Q I1 q1
theorem pt_not (ha : PT X a tA) : PT X (.UnaryOp .Not a pos) (tNot tA) := by
  intro pins s σ H Q I h
  exact isTrue_not (ha pins s σ H (fun c H1 => Q (!c) H1) I h)
/-- .. as values (bools) -/
def tAndV (ta tb : TE) : TE := fun σ H Q => ta σ H fun x H1 => ∃ c, x = .bl c ∧ if c = true then tb σ H1 Q else Q (.bl false) H1
def tOrV (ta tb : TE) : TE := fun σ H Q => ta σ H fun x H1 => ∃ c, x = .bl c ∧ if c = true then Q (.bl true) H1 else tb σ H1 Q
def tNotV (ta : TE) : TE := fun σ H Q => ta σ H fun x H1 => ∃ c, x = .bl c ∧ Q (.bl (!c)) H1
theorem pe_one {op} {t : TE} (h : PE X a t) : PE X (.BoolOp op [a] pos) t := fun pins s σ H Q I hw => BoolOp_one (h pins s σ H Q I hw)
theorem pe_and (ha : PE X a ta) (hb : PE X (.BoolOp .And (b :: rest) pos) tb) : PE X (.BoolOp .And (a :: b :: rest) pos) (tAndV ta tb) := by
  intro pins s σ H Q I h
  refine BoolOp_and (thn (ha pins s σ H _ I h) fun v s1 ⟨x, H1, I1, r1, q1⟩ => ?_)
  obtain ⟨c, rfl, q1⟩ := q1
  cases r1
  refine wpAny_truthy_bool ?_
  cases c with
  | true => exact hb pins s1 σ H1 Q I1 q1
  | false => exact ⟨.bl false, H1, I1, rfl, q1⟩
theorem pe_not (ha : PE X a ta) : PE X (.UnaryOp .Not a pos) (tNotV ta) := by
  intro pins s σ H Q I h
  refine UnaryOp_ (thn (ha pins s σ H _ I h) fun v s1 ⟨x, H1, I1, r1, q1⟩ => ?_)
  obtain ⟨c, rfl, q1⟩ := q1
  cases r1
  exact not_of (wpAny_truthy_bool ⟨.bl (!c), H1, I1, rfl, q1⟩)
/-- a if t else b -/
def tIf (t : TT) (ta tb : TE) : TE := fun σ H Q => t σ H fun c H1 => if c = true then ta σ H1 Q else tb σ H1 Q
theorem pe_ifExp {c : Expr} (hc : PT X c tA) (ha : PE X a ta) (hb : PE X b tb) : PE X (.IfExp c a b pos) (tIf tA ta tb) := by
  intro pins s σ H Q I h
  refine wpAny_IfExp (thn (hc pins s σ H _ I h) fun d s1 ⟨H1, I1, q1⟩ => ?_)
  cases d with
  | true => exact ha pins s1 σ H1 Q I1 q1
  | false => exact hb pins s1 σ H1 Q I1 q1
end
end L2

namespace L2
open PySem PySem.Spec PyProof.Rows

/-! ### a list, a tuple that is read: tracked, frozen, or an object of the module -/
def SqL (K : PySem.W.Frag) (H : Hp) (a : Addr) (xs : List V) : Prop :=
  Rd H a (.lst xs) ∨
    ∃ (o : Obj) (its : Array Value) (n : Nat), K.lookup a = some o ∧ o.cls = .type "list" ∧ o.dict = none ∧ o.data = .seq its n ∧ its.size ≤ sizeLine ∧ Vals xs its.toList
def SqT (K : PySem.W.Frag) (H : Hp) (a : Addr) (xs : List V) : Prop :=
  Rd H a (.tup xs) ∨
    ∃ (o : Obj) (its : Array Value) (n : Nat), K.lookup a = some o ∧ o.cls = .type "tuple" ∧ o.data = .seq its n ∧ its.size ≤ sizeLine ∧ Vals xs its.toList
def absV : Value → Option V
  | .none => some .non
  | .bool b => some (.bl b)
  | .int i _ => some (.int i)
  | .str x _ => some (.str x)
  | .bytes b _ => some (.byt b)
  | .float b _ => some (.flt b)
  | .ref a => some (.ref a)
  | .type n => some (.ty n)
  | _ => none
theorem RelV.abs {x : V} {u : Value} (r : RelV x u) : absV u = some x := by
  cases x with
  | non => cases r; rfl
  | bl _ => cases r; rfl
  | int _ => obtain ⟨t, rfl⟩ := r; rfl
  | str _ => obtain ⟨t, rfl⟩ := r; rfl
  | byt _ => obtain ⟨t, rfl⟩ := r; rfl
  | flt _ => obtain ⟨t, rfl⟩ := r; rfl
  | ref _ => cases r; rfl
  | ty _ => cases r; rfl
theorem RelV.inj {x y : V} {u : Value} (r : RelV x u) (q : RelV y u) : x = y := Option.some.inj (r.abs.symm.trans q.abs)
theorem Vals.inj : ∀ {xs ys : List V} {us : List Value}, Vals xs us → Vals ys us → xs = ys
  | _, _, _, .nil, .nil => rfl
  | _, _, _, .cons r t, .cons r' t' => by rw [r.inj r', Vals.inj t t']
section
variable {X : Cx} {pins : List (Addr × Obj)} {σ : St} {H : Hp} {s : Shared} {a : Addr} {xs ys : List V}
theorem SqL.of {K : PySem.W.Frag} (h : H a = some (.lst xs)) : SqL K H a xs := .inl (.inl h)
theorem SqT.of {K : PySem.W.Frag} (h : H a = some (.tup xs)) : SqT K H a xs := .inl (.inl h)
theorem Inv.list (I : Inv X pins σ H s) (h : SqL X.K H a xs) : ∃ its : List Value, Vals xs its ∧ PlainL s.heap a its.toArray ∧ xs.length ≤ sizeLine := by
  rcases h with h | ⟨o, its, n, hk, hc, hd, hs, hz, r⟩
  · obtain ⟨z, its, n, r, e⟩ := h.ok I.hok
    exact ⟨its, r, ⟨_, n, e, rfl, rfl, rfl⟩, z⟩
  · refine ⟨its.toList, r, ⟨o, n, I.kIn a o hk, hc, hd, by simpa using hs⟩, ?_⟩
    have e := r.length
    simp only [Array.length_toList] at e
    omega
theorem Inv.tuple (I : Inv X pins σ H s) (h : SqT X.K H a xs) : ∃ its : List Value, Vals xs its ∧ IsTup s.heap a its.toArray ∧ xs.length ≤ sizeLine := by
  rcases h with h | ⟨o, its, n, hk, hc, hs, hz, r⟩
  · obtain ⟨z, its, r, p⟩ := h.ok I.hok
    exact ⟨its, r, p, z⟩
  · refine ⟨its.toList, r, ⟨o, I.kIn a o hk, hc, n, by simpa using hs⟩, ?_⟩
    have e := r.length
    simp only [Array.length_toList] at e
    omega
theorem Inv.list_inj (I : Inv X pins σ H s) (h : SqL X.K H a xs) (h' : SqL X.K H a ys) : xs = ys := by
  obtain ⟨its, r, ⟨o, n, e, _, _, d⟩, _⟩ := I.list h
  obtain ⟨its', r', ⟨o', n', e', _, _, d'⟩, _⟩ := I.list h'
  rw [e] at e'; cases e'
  rw [d] at d'
  injection d' with d1 _
  have : its = its' := by simpa using congrArg Array.toList d1
  subst this
  exact r.inj r'
theorem Inv.tuple_inj (I : Inv X pins σ H s) (h : SqT X.K H a xs) (h' : SqT X.K H a ys) : xs = ys := by
  obtain ⟨its, r, ⟨o, e, _, n, d⟩, _⟩ := I.tuple h
  obtain ⟨its', r', ⟨o', e', _, n', d'⟩, _⟩ := I.tuple h'
  rw [e] at e'; cases e'
  rw [d] at d'
  injection d' with d1 _
  have : its = its' := by simpa using congrArg Array.toList d1
  subst this
  exact r.inj r'
end

/-! ### another wish about exceptions -/
abbrev Cx.wish (X : Cx) (E : Value → Shared → Prop) : Cx := { X with xe := E }
/-- no exception leaves -/
abbrev Cx.nox (X : Cx) : Cx := X.wish fun _ _ => False
theorem Cx.Ok.wish {X : Cx} (ok : X.Ok) (E : Value → Shared → Prop) : (X.wish E).Ok :=
  ⟨ok.mod, ok.kind, ok.glob, ok.blt, ok.above, ok.inj, ok.has, ok.cab, ok.hd, ok.frames, ok.stk, ok.exf, ok.bs, ok.bsz, ok.noex, ok.exfs, ok.funs, ok.frf⟩
theorem Cx.Ok.unwish {X : Cx} {E : Value → Shared → Prop} (ok : (X.wish E).Ok) : X.Ok :=
  ⟨ok.mod, ok.kind, ok.glob, ok.blt, ok.above, ok.inj, ok.has, ok.cab, ok.hd, ok.frames, ok.stk, ok.exf, ok.bs, ok.bsz, ok.noex, ok.exfs, ok.funs, ok.frf⟩
section
variable {X : Cx} {pins : List (Addr × Obj)} {σ : St} {H : Hp} {s : Shared} {E : Value → Shared → Prop}
theorem Inv.wish (I : Inv X pins σ H s) (E : Value → Shared → Prop) : Inv (X.wish E) pins σ H s := ⟨I.ok.wish E, I.os, I.bare, I.base, I.loc, I.cell, I.free, I.freeC, I.pin, I.hok, I.len⟩
theorem Inv.unwish (I : Inv (X.wish E) pins σ H s) : Inv X pins σ H s := ⟨I.ok.unwish, I.os, I.bare, I.base, I.loc, I.cell, I.free, I.freeC, I.pin, I.hok, I.len⟩
theorem SP.unwish {D : Ends} {f : Flow} {s' : Shared} (h : SP (X.wish E) pins D f s') : SP X pins D f s' := by
  cases f with
  | next => obtain ⟨σ', H', I, q⟩ := h; exact ⟨σ', H', I.unwish, q⟩
  | brk => obtain ⟨σ', H', I, q⟩ := h; exact ⟨σ', H', I.unwish, q⟩
  | cont => obtain ⟨σ', H', I, q⟩ := h; exact ⟨σ', H', I.unwish, q⟩
  | ret u => obtain ⟨v, σ', H', I, r, q⟩ := h; exact ⟨v, σ', H', I.unwish, r, q⟩
theorem PSs.nox {st : List Stmt} {t : TS} (h : PSs X.nox st t) : PSs X st t := fun pins s σ H D I hw =>
  wpAny_mono (h pins s σ H D (I.wish _) hw) (fun _ _ q => q.unwish) fun _ _ z => False.elim z
end

/-! ### blocks and small statements -/
section
variable {X : Cx} {st : Stmt} {rest : List Stmt} {t u : TS} {e : Expr} {te : TE} {pos : Pos}
def tNext : TS := fun D σ H => D.nx σ H
def tSeq (t u : TS) : TS := fun D σ H => t { D with nx := u D } σ H
theorem pss_nil : PSs X [] tNext := fun _ _ σ H _ I h => wpAny_execs_nil ⟨σ, H, I, h⟩
theorem pss_cons (h1 : PS X st t) (h2 : PSs X rest u) : PSs X (st :: rest) (tSeq t u) := by
  intro pins s σ H D I h
  refine wpAny_execs_cons (thn (h1 pins s σ H { D with nx := u D } I h) fun f s1 q => ?_)
  cases f with
  | next =>
    obtain ⟨σ', H', I', q⟩ := q
    exact h2 pins s1 σ' H' D I' q
  | ret v => exact q
  | brk => exact q
  | cont => exact q
theorem pss_one (h1 : PS X st t) : PSs X [st] t := by
  intro pins s σ H D I h
  refine wpAny_execs_cons (thn (h1 pins s σ H D I h) fun f s1 q => ?_)
  cases f with
  | next => exact wpAny_execs_nil q
  | ret v => exact q
  | brk => exact q
  | cont => exact q
def tBreak : TS := fun D σ H => D.bk σ H
def tCont : TS := fun D σ H => D.ct σ H
/-- in a def's body nothing is shown -/
theorem Inv.quiet {pins : List (Addr × Obj)} {σ : St} {H : Hp} {s : Shared} (I : Inv X pins σ H s) : interactive X.env = false := by simp [interactive, I.ok.kind]
/-- an expression whose value is dropped -/
def tDrop (te : TE) : TS := fun D σ H => te σ H fun _ H1 => D.nx σ H1
theorem ps_expr (he : PE X e te) (hs : swapsWith e none pos.line X.env = pure false := by rfl) : PS X (.Expr e pos) (tDrop te) := by
  intro pins s σ H D I h
  exact wpAny_Expr_any (thn (he pins s σ H _ I h) fun v s1 ⟨x, H1, I1, r1, q1⟩ => ⟨σ, H1, I1, q1⟩) I.quiet hs
def tRet (te : TE) : TS := fun D σ H => te σ H D.rt
theorem ps_ret (he : PE X e te) : PS X (.Return (some e) pos) (tRet te) := by
  intro pins s σ H D I h
  exact wpAny_Return_some (thn (he pins s σ H _ I h) fun v s1 ⟨x, H1, I1, r1, q1⟩ => ⟨x, σ, H1, I1, r1, q1⟩)
def tRetN : TS := fun D _ H => D.rt .non H
def tIfS (c : TT) (t u : TS) : TS := fun D σ H => c σ H fun b H1 => if b = true then t D σ H1 else u D σ H1
theorem ps_if {c : Expr} {a b : List Stmt} {tc : TT} (hc : PT X c tc) (ha : PSs X a t) (hb : PSs X b u) : PS X (.If c a b pos) (tIfS tc t u) := by
  intro pins s σ H D I h
  refine wpAny_If (thn (hc pins s σ H _ I h) fun d s1 ⟨H1, I1, q1⟩ => ?_)
  cases d with
  | true => exact ha pins s1 σ H1 D I1 q1
  | false => exact hb pins s1 σ H1 D I1 q1
/-- code that the proof never comes to -/
def tNever : TS := fun _ _ _ => False
end

/-! ### targets -/
abbrev TG := V → St → Hp → (St → Hp → Prop) → Prop
abbrev TGs := List V → St → Hp → (St → Hp → Prop) → Prop
def PG (X : Cx) (target : Expr) (t : TG) : Prop :=
  ∀ (pins : List (Addr × Obj)) (s : Shared) (σ : St) (H : Hp) (v : V) (u : Value) (Q : St → Hp → Prop), Inv X pins σ H s → RelV v u → t v σ H Q →
    wpAny (model X.prog X.w) X.A (assign target X.env u) (fun _ s' => ∃ σ' H', Inv X pins σ' H' s' ∧ Q σ' H') X.xe s
/-- several targets, one after another -/
def PGs (X : Cx) (ts : List Expr) (t : TGs) : Prop :=
  ∀ (pins : List (Addr × Obj)) (s : Shared) (σ : St) (H : Hp) (vs : List V) (us : List Value) (Q : St → Hp → Prop), Inv X pins σ H s → Vals vs us → t vs σ H Q →
    wpAny (model X.prog X.w) X.A (assignInOrder ((assignEach ts X.env).map (·.2)) us) (fun _ s' => ∃ σ' H', Inv X pins σ' H' s' ∧ Q σ' H') X.xe s
/-- o[i] = v, by values -/
abbrev TSet := V → V → V → Hp → (Hp → Prop) → Prop
def PSet (X : Cx) (t : TSet) : Prop :=
  ∀ (pins : List (Addr × Obj)) (s : Shared) (σ : St) (H : Hp) (o i v : V) (ov iv u : Value) (Q : Hp → Prop), Inv X pins σ H s → RelV o ov → RelV i iv → RelV v u → t o i v H Q →
    wpAny (model X.prog X.w) X.A (setItem ov iv u) (fun _ s' => ∃ H', Inv X pins σ H' s' ∧ Q H') X.xe s
/-- a op= b, by values -/
abbrev TIp := V → V → Hp → VK → Prop
def PIp (X : Cx) (op : Operator) (t : TIp) : Prop :=
  ∀ (pins : List (Addr × Obj)) (s : Shared) (σ : St) (H : Hp) (x y : V) (v u : Value) (Q : VK), Inv X pins σ H s → RelV x v → RelV y u → t x y H Q →
    wpAny (model X.prog X.w) X.A (inplaceOp op v u) (EP X pins σ Q) X.xe s
section
variable {X : Cx} {pos : Pos}
def gName (i : Nat) : TG := fun v σ H Q => Q (σ.set i (some v)) H
theorem pg_name {i : Nat} {x : Str} (hN : X.N.Nodup) (hi : X.N[i]? = some x) (hx : Loc X.env.scope x) (hf : X.fn x = true ∨ X.env.scope.names.lookup x = some .local := by first | exact .inl rfl | exact .inr rfl | assumption) : PG X (.Name x pos) (gName i) := by
  intro pins s σ H v u Q I r h
  exact wpAny_assign_Name (store_ok I hN hi hx r (fun s' I' => ⟨_, H, I', h⟩) hf)
def gNil : TGs := fun vs σ H Q => vs = [] ∧ Q σ H
def gCons (t : TG) (u : TGs) : TGs := fun vs σ H Q => ∃ v r, vs = v :: r ∧ t v σ H fun σ' H' => u r σ' H' Q
theorem pgs_nil : PGs X [] gNil := by
  intro pins s σ H vs us Q I r h
  obtain ⟨e, h⟩ := h
  subst e
  cases r
  exact assignInOrder_nil ⟨σ, H, I, h⟩
theorem pgs_cons {e : Expr} {es : List Expr} {t : TG} {u : TGs} (h1 : PG X e t) (h2 : PGs X es u)
    (hs : (assignEach (e :: es) X.env).map (·.2) = assign e X.env :: (assignEach es X.env).map (·.2) := by rfl) : PGs X (e :: es) (gCons t u) := by
  intro pins s σ H vs us Q I r h
  obtain ⟨v, vr, e1, h⟩ := h
  subst e1
  cases r with
  | cons r rr =>
    rw [hs]
    refine assignInOrder_cons (thn (h1 pins s σ H _ _ _ I r h) fun _ s1 ⟨σ1, H1, I1, q1⟩ => ?_)
    exact h2 pins s1 σ1 H1 _ _ Q I1 rr q1
/-- (a, b, ..) = a tuple of that length -/
def gTup (K : PySem.W.Frag) (n : Nat) (t : TGs) : TG := fun v σ H Q => ∃ a xs, v = .ref a ∧ SqT K H a xs ∧ xs.length = n ∧ t xs σ H Q
theorem pg_tup {es : List Expr} {k : Nat} {t : TGs} {n : Nat} (hc : X.calm = true) (h : PGs X es t)
    (hn : (assignEach es X.env).length = n := by rfl) (hst : (assignEach es X.env).findIdx? (·.1) = none := by rfl) : PG X (.Tuple es k pos) (gTup X.K n t) := by
  intro pins s σ H v u Q I r hw
  obtain ⟨a, xs, e1, hq, hl, hw⟩ := hw
  subst e1
  cases r
  obtain ⟨its, rv, ht, hz⟩ := I.tuple hq
  refine assign_Tuple_tuple (I.ok.hd hc) ht (by simp [hn, ← hl, rv.length]) hst fun h' hx => ?_
  have I1 : Inv X pins σ H { s with heap := h' } := I.kept (t' := s.toks) fun b o e => hx b o (Nat.ne_of_lt (Heap.lt_size e)) e
  exact h pins _ σ H xs _ Q I1 (by simpa using rv) hw
/-- o[i] = .. -/
def gSub (to ti : TE) (t : TSet) : TG := fun v σ H Q => to σ H fun o H1 => ti σ H1 fun i H2 => t o i v H2 fun H3 => Q σ H3
theorem pg_sub {o i : Expr} {to ti : TE} {t : TSet} (ho : PE X o to) (hi : PE X i ti) (hs : PSet X t)
    (ha : ∀ v, assign (.Subscript o i pos) X.env v = (do
      let ov ← holding [v] (eval o X.env)
      let iv ← holding [v, ov] (eval i X.env)
      standAt pos
      holding [v, ov, iv] (setItem ov iv v)
      release [v, ov, iv] []) := by intro _; rfl) : PG X (.Subscript o i pos) (gSub to ti t) := by
  intro pins s σ H v u Q I r h
  rw [ha]
  refine wpAny_bind (wpAny_holding (thn (ho pins s σ H _ I h) fun ov s1 ⟨x, H1, I1, r1, q1⟩ => ?_))
  refine wpAny_bind (wpAny_holding (thn (hi pins s1 σ H1 _ I1 q1) fun iv s2 ⟨y, H2, I2, r2, q2⟩ => ?_))
  refine wpAny_bind (wpAny_standAt (wpAny_bind (wpAny_holding (thn (hs pins s2 σ H2 x y v ov iv u _ I2 r1 r2 r q2) fun _ s3 ⟨H3, I3, q3⟩ => ?_))))
  exact wpAny_release ⟨σ, H3, I3, q3⟩
/-- target = value -/
def tAsg (te : TE) (g : TG) : TS := fun D σ H => te σ H fun x H1 => g x σ H1 D.nx
theorem ps_asg {tg e : Expr} {te : TE} {g : TG} (he : PE X e te) (hg : PG X tg g) (hs : swapsWithSole [tg] e pos.line X.env = pure false := by rfl) (hw : swappedStores [tg] e X.env = pure none := by rfl)
    (h1 : (assignEach [tg] X.env).map (·.2) = [assign tg X.env] := by rfl) : PS X (.Assign [tg] e pos) (tAsg te g) := by
  intro pins s σ H D I h
  refine wpAny_Assign_stores (thn (he pins s σ H _ I h) fun v s1 ⟨x, H1, I1, r1, q1⟩ => ?_) hs hw
  rw [h1]
  exact thn (hg pins s1 σ H1 x v _ I1 r1 q1) fun _ s2 q => q
/-- name = value -/
theorem ps_set {i : Nat} {x : Str} {e : Expr} {te : TE} {pos' : Pos} (hN : X.N.Nodup) (hi : X.N[i]? = some x) (hx : Loc X.env.scope x) (he : PE X e te) (hs : swapsWith e (some (.Name x pos')) pos.line X.env = pure false := by rfl) (hf : X.fn x = true ∨ X.env.scope.names.lookup x = some .local := by first | exact .inl rfl | exact .inr rfl | assumption) :
    PS X (.Assign [.Name x pos'] e pos) (tAsg te (gName i)) := by
  intro pins s σ H D I h
  refine wpAny_Assign_Name (thn (he pins s σ H _ I h) fun v s1 ⟨y, H1, I1, r1, q1⟩ => ?_) hs
  exact store_ok I1 hN hi hx r1 (fun s2 I2 => ⟨_, H1, I2, q1⟩) hf
/-- a, b = x, y with plain local names: stored from the right; the pair itself is not tracked (the opening rows as in PyProof/Rows/TupAssign.lean:23) -/
def tPar (i j : Nat) (ta : TA) : TS := fun D σ H => ta σ H fun vs H1 => ∃ v w, vs = [v, w] ∧ D.nx ((σ.set i (some v)).set j (some w)) H1
/-- name op= e -/
def tAug (i : Nat) (te : TE) (ti : TIp) : TS := fun D σ H => ∃ x, σ[i]? = some (some x) ∧ te σ H fun y H1 => ti x y H1 fun z H2 => D.nx (σ.set i (some z)) H2
theorem ps_aug {i : Nat} {x : Str} {e : Expr} {te : TE} {op : Operator} {ti : TIp} {pos' : Pos} (hN : X.N.Nodup) (hi : X.N[i]? = some x) (hx : Loc X.env.scope x) (he : PE X e te) (ho : PIp X op ti) (hf : X.fn x = true ∨ X.env.scope.names.lookup x = some .local := by first | exact .inl rfl | exact .inr rfl | assumption) :
    PS X (.AugAssign (.Name x pos') op e pos) (tAug i te ti) := by
  intro pins s σ H D I h
  obtain ⟨v, e1, h⟩ := h
  obtain ⟨m, hn, hl⟩ := I.loc
  have vis : Vis X.env.scope x := by rcases hx with k | k; exact .inl k; exact .inr (.inl k)
  obtain ⟨u, r, l⟩ := hl i x v hi e1 vis
  refine wpAny_AugAssign_Name ?_
  have go : wpAny (model X.prog X.w) X.A (eval e X.env) (fun w s₂ => wpAny (model X.prog X.w) X.A (inplaceOp op u w) (fun r s₃ => wpAny (model X.prog X.w) X.A (storeName X.env x r) (fun _ => SP X pins D .next) X.xe s₃) X.xe s₂) X.xe s := by
    refine thn (he pins s σ H _ I h) fun w s1 ⟨y, H1, I1, r1, q1⟩ => ?_
    refine thn (ho pins s1 σ H1 v y u w _ I1 r r1 q1) fun z s2 ⟨zv, H2, I2, r2, q2⟩ => ?_
    exact store_ok I2 hN hi hx r2 (fun s3 I3 => ⟨_, H2, I3, q2⟩) hf
  rcases l with ⟨hk, hm⟩ | ⟨hk, c, hc, hcell⟩
  · exact wpAny_loadName_local I.ok.kind hk hn hm go
  · rcases hk with hk | hk
    · exact wpAny_loadName_cell I.ok.kind hk hc hcell go
    · rcases hx with k | k
      · have : X.env.scope.names.lookup x = some .free := hk
        rw [k] at this; cases this
      · have : X.env.scope.names.lookup x = some .free := hk
        rw [k] at this; cases this
/-- o[i] op= e -/
def tAugS (to ti te : TE) (tget : V → V → Hp → VK → Prop) (tip : TIp) (tset : TSet) : TS := fun D σ H => to σ H fun o H1 => ti σ H1 fun i H2 => tget o i H2 fun x H3 => te σ H3 fun y H4 => tip x y H4 fun z H5 => tset o i z H5 fun H6 => D.nx σ H6
/-- o[i], by values -/
def PGet (X : Cx) (t : V → V → Hp → VK → Prop) : Prop :=
  ∀ (pins : List (Addr × Obj)) (s : Shared) (σ : St) (H : Hp) (o i : V) (ov iv : Value) (Q : VK), Inv X pins σ H s → RelV o ov → RelV i iv → t o i H Q →
    wpAny (model X.prog X.w) X.A (getItem ov iv) (EP X pins σ Q) X.xe s
/-- ints -/
def ipI (f : Int → Int → Int) : TIp := fun x y H Q => ∃ i j, x = .int i ∧ y = .int j ∧ Q (.int (f i j)) H
theorem ip_add : PIp X .Add (ipI fun i j => i + j) := by
  intro pins s σ H x y v u Q I r1 r2 h
  obtain ⟨i, j, e1, e2, q⟩ := h
  subst e1; subst e2
  obtain ⟨t, rfl⟩ := r1
  obtain ⟨t', rfl⟩ := r2
  exact iadd_int ⟨.int _, H, I.tok _, ⟨_, rfl⟩, q⟩
end

/-! ### while -/
section
variable {X : Cx} {pos : Pos}
/-- the invariant W with its measure -/
def tWhile (c : TT) (tb : TS) : TS := fun D σ H => ∃ W : Nat → St → Hp → Prop, (∃ m, W m σ H) ∧ ∀ m σ H, W m σ H →
  c σ H fun b H1 => if b = true then ∃ N : St → Hp → Prop, (∀ σ' H', N σ' H' → ∃ m', m' < m ∧ W m' σ' H') ∧ tb { D with nx := N, ct := N, bk := D.nx } σ H1 else D.nx σ H1
theorem ps_while {c : Expr} {body : List Stmt} {tc : TT} {tb : TS} (hp : PassesOwn (model X.prog X.w) X.A X.env X.xe) (hc : PT X c tc) (hb : PSs X body tb) : PS X (.While c body [] pos) (tWhile tc tb) := by
  intro pins s σ H D I h
  obtain ⟨W, ⟨m0, w0⟩, turn⟩ := h
  refine wpAny_While (codeAny_whileLoop (fun n s' => ∃ σ' H', Inv X pins σ' H' s' ∧ W n σ' H') ?_ m0 ⟨σ, H, I, w0⟩)
  rintro n s1 ⟨σ1, H1, I1, w1⟩
  refine wpAny_passesOwn hp (thn (hc pins s1 σ1 H1 _ I1 (turn n σ1 H1 w1)) fun b s2 ⟨H2, I2, q2⟩ => ?_)
  cases b with
  | true =>
    obtain ⟨N, hN, q2⟩ := q2
    rw [if_pos rfl]
    refine wpAny_passesOwn hp (thn (hb pins s2 σ1 H2 _ I2 q2) fun f s3 q3 => ?_)
    cases f with
    | next =>
      obtain ⟨σ3, H3, I3, n3⟩ := q3
      obtain ⟨m', hm, w3⟩ := hN σ3 H3 n3
      exact ⟨m', hm, σ3, H3, I3, w3⟩
    | cont =>
      obtain ⟨σ3, H3, I3, n3⟩ := q3
      obtain ⟨m', hm, w3⟩ := hN σ3 H3 n3
      exact ⟨m', hm, σ3, H3, I3, w3⟩
    | brk => exact q3
    | ret v => exact q3
  | false =>
    rw [if_neg Bool.false_ne_true]
    exact wpAny_execs_nil ⟨σ1, H2, I2, q2⟩
end

/-! ### what a loop or a comprehension walks -/
/-- at turn i: it yields x (the heap may grow), or it stops -/
structure It where
  go : Nat → Hp → Prop
  yld : Nat → Hp → V → Hp → Prop
  stop : Nat → Hp → Prop
/-- the iterator's own objects may turn: they are not the frame's, not pinned, younger than the entry (or a comprehension's own) -/
def FpOk (X : Cx) (pins : List (Addr × Obj)) (H : Hp) (b : Addr) : Prop :=
  H b = none ∧ b ≠ X.env.locals ∧ b ∉ X.fs ∧ (b ∈ X.ex ∨ X.s₀.heap.objs.size ≤ b) ∧ (∀ x c, X.env.cells.lookup x = some c → c ≠ b) ∧ ∀ p ∈ X.pn ++ pins, p.1 ≠ b
theorem Inv.fpOk {X : Cx} {pins : List (Addr × Obj)} {σ : St} {H H' : Hp} {s : Shared} {b : Addr} (I : Inv X pins σ H s) (hb : s.heap.objs.size ≤ b) (hn : H' b = none) : FpOk X pins H' b := by
  refine ⟨hn, Nat.ne_of_gt (Nat.lt_of_lt_of_le I.lt hb), I.nofs hb, .inr (Nat.le_trans I.sz hb), fun x c e z => ?_, fun p hp z => ?_⟩
  · obtain ⟨v, q⟩ := I.cell x c e
    exact absurd (Nat.lt_of_lt_of_le q.lt (by rw [z]; exact hb)) (Nat.lt_irrefl _)
  · exact absurd (Nat.lt_of_lt_of_le (Heap.lt_size (I.pin p hp).1) (by rw [z]; exact hb)) (Nat.lt_irrefl _)
structure Turn (P : Program) (w : World) (K : PySem.W.Frag) (tg : Expr) (J : It) (fp : List Addr) (it : Addr) (tn : Nat → Heap → Prop) : Prop where
  mem : it ∈ fp
  obj : ∀ i h, tn i h → ∀ b ∈ fp, ∃ o, h.get? b = some o ∧ ∀ v, o.data ≠ .cell v
  keep : ∀ i h h', tn i h → (∀ b ∈ fp, ∀ o, h.get? b = some o → h'.get? b = some o) → tn i h'
  item : ∀ (X : Cx), X.prog = P → X.w = w → X.K = K → X.calm = true → ∀ (i : Nat) (pins : List (Addr × Obj)) (s : Shared) (σ : St) (H : Hp) (E : Value → Shared → Prop), Inv X pins σ H s → (∀ b ∈ fp, FpOk X pins H b) → tn i s.heap → J.go i H →
    wpAny (model P w) X.A (pyNext (.ref it)) (fun r s1 => ∃ u, r = some u ∧
      wpAny (model P w) X.A (letOwnedTupleGo tg (.ref it) u) (fun _ s2 => ∃ x H', Inv X pins σ H' s2 ∧ RelV x u ∧ J.yld i H x H' ∧ tn (i + 1) s2.heap ∧ ∀ b ∈ fp, H' b = none) E s1) E s
  done : ∀ (X : Cx), X.prog = P → X.w = w → X.K = K → X.calm = true → ∀ (i : Nat) (pins : List (Addr × Obj)) (s : Shared) (σ : St) (H : Hp) (E : Value → Shared → Prop), Inv X pins σ H s → (∀ b ∈ fp, FpOk X pins H b) → tn i s.heap → J.stop i H →
    wpAny (model P w) X.A (pyNext (.ref it)) (fun r s1 => r = none ∧ Inv X pins σ H s1) E s
  self : ∀ (A : Around) (i : Nat) (s : Shared) (Q : Value → Shared → Prop) (E : Value → Shared → Prop), tn i s.heap → Q (.ref it) s → wpAny (model P w) A (pyIter (.ref it)) Q E s
abbrev TI := St → Hp → (It → Hp → Prop) → Prop
/-- an iterator has come -/
def PIE (X : Cx) (pins : List (Addr × Obj)) (σ : St) (tg : Expr) (R : It → Hp → Prop) (itv : Value) (s2 : Shared) : Prop :=
  ∃ (it : Addr) (fp : List Addr) (tn : Nat → Heap → Prop) (J : It) (H' : Hp), itv = .ref it ∧ Inv X pins σ H' s2 ∧ Turn X.prog X.w X.K tg J fp it tn ∧ tn 0 s2.heap ∧ (∀ b ∈ fp, FpOk X pins H' b) ∧ R J H'
def PI (X : Cx) (tg iter : Expr) (wi : TI) : Prop :=
  ∀ (pins : List (Addr × Obj)) (s : Shared) (σ : St) (H : Hp) (R : It → Hp → Prop), Inv X pins σ H s → wi σ H R →
    wpAny (model X.prog X.w) X.A (eval iter X.env) (fun v s1 => wpAny (model X.prog X.w) X.A (pyIter v) (PIE X pins σ tg R) X.xe s1) X.xe s

/-- the step ahead of the store is nothing for an iterator that keeps no tuple -/
theorem go_of {M : Model} {A : Around} {E : Value → Shared → Prop} {s : Shared} {tg : Expr} {it : Addr} {u : Value} {o : Obj} {n : String} {vs : Array Value} {Q : Unit → Shared → Prop} (ho : s.heap.get? it = some o) (hc : o.cls = .type n) (hd : o.data = .fields vs)
    (hn : ["enumerate", "zip", "dict_itemiterator", "dict_reverseitemiterator", "odict_iterator", "itertools.zip_longest", "itertools.pairwise"].contains n = false) (hQ : Q () s) : wpAny M A (letOwnedTupleGo tg (.ref it) u) Q E s := by
  unfold letOwnedTupleGo
  cases tg <;> first
    | exact wpAny_pure hQ
    | (cases u <;> first
        | exact wpAny_pure hQ
        | (refine wpAny_bind (wpAny_load ho ?_)
           rw [hc, hd]
           show wpAny M A (if (["enumerate", "zip", "dict_itemiterator", "dict_reverseitemiterator", "odict_iterator", "itertools.zip_longest", "itertools.pairwise"].contains n && vs[0]? == some (rawInt _)) = true then _ else _) Q E s
           rw [if_neg (by intro h; rw [hn, Bool.false_and] at h; cases h)]
           exact wpAny_pure hQ))

/-- the list at a, as it stands at each turn (a loop may append to it) -/
def Itl (K : PySem.W.Frag) (a : Addr) : It :=
  ⟨fun i H => ∃ xs x, SqL K H a xs ∧ xs[i]? = some x, fun i H x H' => H' = H ∧ ∀ xs, SqL K H a xs → xs[i]? = some x, fun i H => ∃ xs, SqL K H a xs ∧ xs.length ≤ i⟩
def Itt (K : PySem.W.Frag) (a : Addr) : It :=
  ⟨fun i H => ∃ xs x, SqT K H a xs ∧ xs[i]? = some x, fun i H x H' => H' = H ∧ ∀ xs, SqT K H a xs → xs[i]? = some x, fun i H => ∃ xs, SqT K H a xs ∧ xs.length ≤ i⟩
/-- lo, lo + 1, .. (n of them) -/
def Itr (lo : Int) (n : Nat) : It := ⟨fun i _ => i < n, fun i H x H' => H' = H ∧ x = .int (lo + i), fun i _ => n ≤ i⟩
theorem turn_list {P : Program} {w : World} {K : PySem.W.Frag} {tg : Expr} (a it : Addr) : Turn P w K tg (Itl K a) [it] it (fun i h => h.IsListIter it a i) where
  mem := by simp
  obj := fun i h st b hb => by
    have e : b = it := by simpa using hb
    subst e
    obtain ⟨o, e, c, d⟩ := st
    exact ⟨o, e, fun v z => by rw [d] at z; cases z⟩
  keep := fun i h h' st k => st.at fun o e => k it (by simp) o e
  item := by
    intro X hP hw hK hc i pins s σ H E I hf st hg
    subst hP hw hK
    obtain ⟨xs, x, hq, hx⟩ := hg
    obtain ⟨its, rv, p, hz⟩ := I.list hq
    obtain ⟨u, hu, ru⟩ := rv.get hx
    obtain ⟨f0, f1, f2, f3, f4, f5⟩ := hf it (by simp)
    refine wpAny_pyNext_list_item st p.isList (x := u) (by simpa using hu) fun h' st' sb => ?_
    have I1 : Inv X pins σ H { s with heap := h' } := I.turned (t' := s.toks) (fun b o hb e => (sb.2 b hb).trans e) f0 f1 f3 f4 f5
    obtain ⟨o, e, c, d⟩ := id st'
    exact ⟨u, rfl, go_of (s := { s with heap := h' }) e c d (by decide) ⟨x, H, I1, ru, ⟨rfl, fun ys hy => by rw [I.list_inj hy hq]; exact hx⟩, st', fun b hb => (hf b hb).1⟩⟩
  done := by
    intro X hP hw hK hc i pins s σ H E I hf st hg
    subst hP hw hK
    obtain ⟨xs, hq, hx⟩ := hg
    obtain ⟨its, rv, p, hz⟩ := I.list hq
    obtain ⟨f0, f1, f2, f3, f4, f5⟩ := hf it (by simp)
    have hl := rv.length
    exact wpAny_pyNext_list_end (I.ok.hd hc) st p.isList (by simp; omega) fun h' eb => ⟨rfl, I.turned (t' := s.toks) (fun b o hb e => eb b o hb e) f0 f1 f3 f4 f5⟩
  self := fun _ _ _ _ _ st h => wpAny_pyIter_listiter st h
theorem turn_tuple {P : Program} {w : World} {K : PySem.W.Frag} {tg : Expr} (a it : Addr) : Turn P w K tg (Itt K a) [it] it (fun i h => h.IsTupleIter it a i) where
  mem := by simp
  obj := fun i h st b hb => by
    have e : b = it := by simpa using hb
    subst e
    obtain ⟨o, e, c, d⟩ := st
    exact ⟨o, e, fun v z => by rw [d] at z; cases z⟩
  keep := fun i h h' st k => st.at fun o e => k it (by simp) o e
  item := by
    intro X hP hw hK hc i pins s σ H E I hf st hg
    subst hP hw hK
    obtain ⟨xs, x, hq, hx⟩ := hg
    obtain ⟨its, rv, p, hz⟩ := I.tuple hq
    obtain ⟨u, hu, ru⟩ := rv.get hx
    obtain ⟨f0, f1, f2, f3, f4, f5⟩ := hf it (by simp)
    refine wpAny_pyNext_tuple_item st (show s.heap.IsTuple a its.toArray from p) (x := u) (by simpa using hu) fun h' st' sb => ?_
    have I1 : Inv X pins σ H { s with heap := h' } := I.turned (t' := s.toks) (fun b o hb e => (sb.2 b hb).trans e) f0 f1 f3 f4 f5
    obtain ⟨o, e, c, d⟩ := id st'
    exact ⟨u, rfl, go_of (s := { s with heap := h' }) e c d (by decide) ⟨x, H, I1, ru, ⟨rfl, fun ys hy => by rw [I.tuple_inj hy hq]; exact hx⟩, st', fun b hb => (hf b hb).1⟩⟩
  done := by
    intro X hP hw hK hc i pins s σ H E I hf st hg
    subst hP hw hK
    obtain ⟨xs, hq, hx⟩ := hg
    obtain ⟨its, rv, p, hz⟩ := I.tuple hq
    obtain ⟨f0, f1, f2, f3, f4, f5⟩ := hf it (by simp)
    have hl := rv.length
    exact wpAny_pyNext_tuple_end (I.ok.hd hc) st (show s.heap.IsTuple a its.toArray from p) (by simp; omega) fun h' eb => ⟨rfl, I.turned (t' := s.toks) (fun b o hb e => eb b o hb e) f0 f1 f3 f4 f5⟩
  self := fun _ _ _ _ _ st h => wpAny_pyIter_tupleiter st h
theorem turn_range {P : Program} {w : World} {K : PySem.W.Frag} {tg : Expr} (it : Addr) (lo : Int) (n : Nat) : Turn P w K tg (Itr lo n) [it] it (fun i h => IsRangeIter h it (lo + (i : Nat) * 1) ((n : Int) - (i : Nat)) 1) where
  mem := by simp
  obj := fun i h st b hb => by
    have e : b = it := by simpa using hb
    subst e
    exact ⟨_, st, fun v z => by
      have z' : Data.fields _ = Data.cell v := z
      cases z'⟩
  keep := fun i h h' st k => k it (by simp) _ st
  item := by
    intro X hP hw hK hc i pins s σ H E I hf st hg
    subst hP hw hK
    obtain ⟨f0, f1, f2, f3, f4, f5⟩ := hf it (by simp)
    have W := Walks.range (prog := X.prog) (w := X.w) (I.ok.hd hc) it lo 1 n
    refine W.item i s _ _ hg st fun v h' tk hv st' kk => ?_
    obtain ⟨t, rfl⟩ := hv
    have I1 : Inv X pins σ H { s with heap := h', toks := tk } := I.turned (fun b o hb e => kk b o (by simpa using hb) e) f0 f1 f3 f4 f5
    refine ⟨_, rfl, go_of (s := { s with heap := h', toks := tk }) (n := "range_iterator") st' rfl rfl (by decide) ⟨.int (lo + i), H, I1, ⟨t, ?_⟩, ⟨rfl, rfl⟩, st', fun b hb => (hf b hb).1⟩⟩
    rw [Int.mul_one]
  done := by
    intro X hP hw hK hc i pins s σ H E I hf st hg
    subst hP hw hK
    obtain ⟨f0, f1, f2, f3, f4, f5⟩ := hf it (by simp)
    exact wpAny_pyNext_range_end (I.ok.hd hc) st (by have : n ≤ i := hg; omega) fun h' eb => ⟨rfl, I.turned (t' := s.toks) (fun b o hb e => eb b o hb e) f0 f1 f3 f4 f5⟩
  self := fun _ _ _ _ _ st h => wpAny_pyIter_rangeiter st h
end L2

namespace L2
open PySem PySem.Spec PyProof.Rows
section
variable {X : Cx} {tg : Expr}
def iList (K : PySem.W.Frag) (tl : TE) : TI := fun σ H R => tl σ H fun x H1 => ∃ a, x = .ref a ∧ (∃ xs, SqL K H1 a xs) ∧ R (Itl K a) H1
def iTup (K : PySem.W.Frag) (tl : TE) : TI := fun σ H R => tl σ H fun x H1 => ∃ a, x = .ref a ∧ (∃ xs, SqT K H1 a xs) ∧ R (Itt K a) H1
/-- a range object just made, walked -/
theorem range_it {pins : List (Addr × Obj)} {σ : St} {H : Hp} {s : Shared} {R : It → Hp → Prop} {E : Value → Shared → Prop} {lo hi : Int} {t u v : Tok} {tk : Nat} (I : Inv X pins σ H s) (h1 : -(2 ^ 62) ≤ lo) (h2 : lo < 2 ^ 62) (h3 : -(2 ^ 62) ≤ hi) (h4 : hi < 2 ^ 62)
    (q : R (Itr lo (hi - lo).toNat) H) : wpAny (model X.prog X.w) X.A (pyIter (.ref s.heap.objs.size)) (PIE X pins σ tg R) E { s with heap := s.heap.push { cls := .type "range", data := .fields #[.int lo t, .int hi u, .int 1 v] }, toks := tk } := by
  refine wpAny_pyIter_range (IsRange.new ..) (small_one h1 h2 h3 h4) ?_
  have I1 : Inv X pins σ H { s with heap := s.heap.push { cls := .type "range", data := .fields #[.int lo t, .int hi u, .int 1 v] }, toks := tk } := I.kept fun b o e => Heap.get?_push_of_some _ e
  refine ⟨(s.heap.push { cls := .type "range", data := .fields #[.int lo t, .int hi u, .int 1 v] }).objs.size, [(s.heap.push { cls := .type "range", data := .fields #[.int lo t, .int hi u, .int 1 v] }).objs.size], _, _, H, rfl,
    I1.kept (t' := tk) fun b o e => Heap.get?_push_of_some _ e, turn_range _ lo (hi - lo).toNat, ?_, fun b hb => ?_, q⟩
  · have e1 : lo + ((0 : Nat) : Int) * 1 = lo := by simp
    have e2 : (((hi - lo).toNat : Nat) : Int) - ((0 : Nat) : Int) = Builtin.Range.rangeSize lo hi 1 := by rw [rangeSize_one]; split <;> omega
    show IsRangeIter _ _ (lo + ((0 : Nat) : Int) * 1) ((((hi - lo).toNat : Nat) : Int) - ((0 : Nat) : Int)) 1
    rw [e1, e2]
    exact Heap.get?_push_size _ rfl
  · have e : b = (s.heap.push { cls := .type "range", data := .fields #[.int lo t, .int hi u, .int 1 v] }).objs.size := by simpa using hb
    subst e
    exact I1.fpOk (Nat.le_refl _) (I1.hok.fresh (Nat.le_refl _))
def iRng1 (ta : TA) : TI := fun σ H R => ta σ H fun vs H1 => ∃ j : Int, vs = [.int j] ∧ -(2 ^ 62) ≤ j ∧ j < 2 ^ 62 ∧ R (Itr 0 j.toNat) H1
def iRng2 (ta : TA) : TI := fun σ H R => ta σ H fun vs H1 => ∃ i j : Int, vs = [.int i, .int j] ∧ (-(2 ^ 62) ≤ i ∧ i < 2 ^ 62 ∧ -(2 ^ 62) ≤ j ∧ j < 2 ^ 62) ∧ R (Itr i (j - i).toNat) H1
theorem pi_range1 {a : Expr} {ta : TA} {p pos : Pos} (hg : Gl X "range") (hm : X.mg "range" = none) (ha : PA X [a] ta) (hs : starEach [a] X.env = [(false, eval a X.env)] := by rfl) : PI X tg (.Call (.Name "range" p) [a] [] pos) (iRng1 ta) := by
  intro pins s σ H R I h
  refine Call_ (ld_blt I hg hm boot_range (PyProof.Rows.callWith_type1 (thn (ha pos pins s σ H _ I h) fun us s1 ⟨vs, H1, I1, r1, q1⟩ => ?_) hs rfl))
  obtain ⟨j, e, q1, q2, q⟩ := q1
  subst e
  cases r1 with
  | cons r rr =>
    cases rr
    obtain ⟨t, rfl⟩ := r
    exact call_range_1 (range_it I1 (by omega) (by omega) q1 q2 (by simpa using q))
theorem pi_range2 {a b : Expr} {ta : TA} {p pos : Pos} (hg : Gl X "range") (hm : X.mg "range" = none) (ha : PA X [a, b] ta) (hs : starEach [a, b] X.env = [(false, eval a X.env), (false, eval b X.env)] := by rfl) (hs2 : starEach [b] X.env = [(false, eval b X.env)] := by rfl) :
    PI X tg (.Call (.Name "range" p) [a, b] [] pos) (iRng2 ta) := by
  intro pins s σ H R I h
  refine Call_ (ld_blt I hg hm boot_range (PyProof.Rows.callWith_type1 (thn (ha pos pins s σ H _ I h) fun us s1 ⟨vs, H1, I1, r1, q1⟩ => ?_) (by rw [hs, hs2]) (by rw [hs2]; rfl)))
  obtain ⟨i, j, e, ⟨q1, q2, q3, q4⟩, q⟩ := q1
  subst e
  cases r1 with
  | cons r rr =>
    cases rr with
    | cons r' rr =>
      cases rr
      obtain ⟨t, rfl⟩ := r
      obtain ⟨t', rfl⟩ := r'
      exact call_range_2 (range_it I1 q1 q2 q3 q4 q)

/-! ### for -/
/-- W: the invariant by the turn and a measure; N: what the body is to reach -/
def tFor (wi : TI) (g : TG) (tb : TS) : TS := fun D σ H => wi σ H fun J H1 => ∃ W : Nat → Nat → St → Hp → Prop, (∃ m, W 0 m σ H1) ∧ ∀ i m σ H, W i m σ H →
  (J.stop i H ∧ D.nx σ H) ∨ (J.go i H ∧ ∃ N : St → Hp → Prop, (∀ σ' H', N σ' H' → ∃ m', m' < m ∧ W (i + 1) m' σ' H') ∧ ∀ x H', J.yld i H x H' → g x σ H' fun σ2 H2 => tb { D with nx := N, ct := N, bk := D.nx } σ2 H2)
/-- the records at fp as they stand -/
def pinsAt (fp : List Addr) (h : Heap) : List (Addr × Obj) := fp.filterMap fun b => (h.get? b).map fun o => (b, o)
theorem mem_pinsAt {fp : List Addr} {h : Heap} {b : Addr} {o : Obj} (hb : b ∈ fp) (e : h.get? b = some o) : (b, o) ∈ pinsAt fp h := List.mem_filterMap.mpr ⟨b, hb, by rw [e]; rfl⟩
theorem of_pinsAt {fp : List Addr} {h : Heap} {p : Addr × Obj} (hp : p ∈ pinsAt fp h) : p.1 ∈ fp ∧ h.get? p.1 = some p.2 := by
  obtain ⟨b, hb, e⟩ := List.mem_filterMap.mp hp
  cases q : h.get? b with
  | none => rw [q] at e; cases e
  | some o =>
    rw [q] at e
    have e' : (b, o) = p := Option.some.inj e
    subst e'
    exact ⟨hb, q⟩
theorem Inv.pinned {pins : List (Addr × Obj)} {σ : St} {H : Hp} {s : Shared} {fp : List Addr} (I : Inv X pins σ H s) (hf : ∀ b ∈ fp, FpOk X pins H b) (ho : ∀ b ∈ fp, ∃ o, s.heap.get? b = some o ∧ ∀ v, o.data ≠ .cell v) : Inv X (pins ++ pinsAt fp s.heap) σ H s :=
  I.pins_of fun p hp => (List.mem_append.mp hp).elim (fun z => I.pin p (List.mem_append_right _ z)) fun z => by
    obtain ⟨hb, e⟩ := of_pinsAt z
    obtain ⟨f0, f1, f2, _⟩ := hf p.1 hb
    obtain ⟨o, e', d⟩ := ho p.1 hb
    rw [e] at e'; cases e'
    exact ⟨e, f0, f1, f2, d⟩
theorem Inv.unpinned {pins pl : List (Addr × Obj)} {σ : St} {H : Hp} {s : Shared} (I : Inv X (pins ++ pl) σ H s) : Inv X pins σ H s := I.pins_of fun p hp => I.pin p (List.mem_append_right _ (List.mem_append_left _ hp))
theorem ps_for {iter : Expr} {body : List Stmt} {wi : TI} {g : TG} {tb : TS} {pos : Pos} (hp : PassesOwn (model X.prog X.w) X.A X.env X.xe) (hc : X.calm = true) (hi : PI X tg iter wi) (hg : PG X tg g) (hb : PSs X body tb)
    (hs : ∀ x, foldedSetIterable iter X.env x = pure x := by intro _; rfl) : PS X (.For tg iter body [] pos) (tFor wi g tb) := by
  intro pins s σ H D I h
  refine wpAny_For (thn (hi pins s σ H _ I h) fun v s1 h1 => thn h1 fun itv s2 h2 => ?_) hs
  obtain ⟨it, fp, tn, J, H2, e, I2, T, st2, f2, W, ⟨m0, w0⟩, turn⟩ := h2
  subst e
  -- what stays true of the iterator's objects through the loop
  have stat : ∀ {H' : Hp}, (∀ b ∈ fp, H' b = none) → ∀ b ∈ fp, FpOk X pins H' b := fun hn b hb => ⟨hn b hb, (f2 b hb).2⟩
  refine codeAny_forLoop_any (fun n s' => ∃ i σ' H', Inv X pins σ' H' s' ∧ tn i s'.heap ∧ (∀ b ∈ fp, H' b = none) ∧ W i n σ' H') ?_ m0 ⟨0, σ, H2, I2, st2, fun b hb => (f2 b hb).1, w0⟩
  rintro n s3 ⟨i, σ3, H3, I3, st3, fr3, w3⟩
  rcases turn i n σ3 H3 w3 with ⟨stop, qn⟩ | ⟨go, N, hN, step⟩
  · refine wpAny_passesOwn hp (thn (T.done X rfl rfl rfl hc i pins s3 σ3 H3 X.xe I3 (stat fr3) st3 stop) fun r s4 ⟨hr, I4⟩ => ?_)
    subst hr
    exact wpAny_execs_nil ⟨σ3, H3, I4, qn⟩
  · refine wpAny_passesOwn hp (thn (T.item X rfl rfl rfl hc i pins s3 σ3 H3 X.xe I3 (stat fr3) st3 go) fun r s4 ⟨u, hr, h4⟩ => ?_)
    subst hr
    refine wpAny_passesOwn hp (thn h4 fun _ s5 ⟨x, H5, I5, r5, y5, st5, fr5⟩ => ?_)
    have I5' := I5.pinned (stat fr5) (T.obj _ _ st5)
    refine wpAny_passesOwn hp (thn (hg _ s5 σ3 H5 x u _ I5' r5 (step x H5 y5)) fun _ s6 ⟨σ6, H6, I6, q6⟩ => ?_)
    refine wpAny_passesOwn hp (thn (hb _ s6 σ6 H6 _ I6 q6) fun f s7 q7 => ?_)
    have again : ∀ {σ7 : St} {H7 : Hp}, Inv X (pins ++ pinsAt fp s5.heap) σ7 H7 s7 → N σ7 H7 → ∃ m, m < n ∧ ∃ i σ' H', Inv X pins σ' H' s7 ∧ tn i s7.heap ∧ (∀ b ∈ fp, H' b = none) ∧ W i m σ' H' := fun {σ7 H7} I7 n7 => by
      obtain ⟨m', hm, w7⟩ := hN σ7 H7 n7
      refine ⟨m', hm, i + 1, σ7, H7, I7.unpinned, T.keep _ _ _ st5 fun b hb o e => (I7.pin (b, o) (List.mem_append_right _ (List.mem_append_right _ (mem_pinsAt hb e)))).1, fun b hb => ?_, w7⟩
      obtain ⟨o, e, d⟩ := T.obj _ _ st5 b hb
      exact (I7.pin (b, o) (List.mem_append_right _ (List.mem_append_right _ (mem_pinsAt hb e)))).2.1
    cases f with
    | next => obtain ⟨σ7, H7, I7, n7⟩ := q7; exact again I7 n7
    | cont => obtain ⟨σ7, H7, I7, n7⟩ := q7; exact again I7 n7
    | brk => obtain ⟨σ7, H7, I7, q7⟩ := q7; exact ⟨σ7, H7, I7.unpinned, q7⟩
    | ret v => obtain ⟨x7, σ7, H7, I7, r7, q7⟩ := q7; exact ⟨x7, σ7, H7, I7.unpinned, r7, q7⟩
end

/-! ### the forms one uses -/
end L2

namespace L2
open PySem PySem.Spec PyProof.Rows

abbrev R2 := V → V → Hp → VK → Prop
/-- a two-place operation on values: f is binaryOp op, inplaceOp op or compareOp op -/
def OpR (X : Cx) (f : Value → Value → Sem Value) (r : R2) : Prop :=
  ∀ (pins : List (Addr × Obj)) (s : Shared) (σ : St) (H : Hp) (x y : V) (v u : Value) (Q : VK), Inv X pins σ H s → RelV x v → RelV y u → r x y H Q →
    wpAny (model X.prog X.w) X.A (f v u) (EP X pins σ Q) X.xe s
/-- a one-place operation -/
def UnR (X : Cx) (f : Value → Sem Value) (r : V → Hp → VK → Prop) : Prop :=
  ∀ (pins : List (Addr × Obj)) (s : Shared) (σ : St) (H : Hp) (x : V) (v : Value) (Q : VK), Inv X pins σ H s → RelV x v → r x H Q →
    wpAny (model X.prog X.w) X.A (f v) (EP X pins σ Q) X.xe s
/-- a call of a value that is known (a builtin, a type) with values -/
def CallR (X : Cx) (f : Value) (r : List V → Hp → VK → Prop) : Prop :=
  ∀ (pins : List (Addr × Obj)) (s : Shared) (σ : St) (H : Hp) (xs : List V) (us : List Value) (Q : VK), Inv X pins σ H s → Vals xs us → r xs H Q →
    wpAny (model X.prog X.w) X.A (call f us) (EP X pins σ Q) X.xe s
/-- a value's truth -/
def TruR (X : Cx) (r : V → Hp → (Bool → Hp → Prop) → Prop) : Prop :=
  ∀ (pins : List (Addr × Obj)) (s : Shared) (σ : St) (H : Hp) (x : V) (v : Value) (Q : Bool → Hp → Prop), Inv X pins σ H s → RelV x v → r x H Q →
    wpAny (model X.prog X.w) X.A (truthy v) (TP X pins σ Q) X.xe s

def tOp (r : R2) (ta tb : TE) : TE := fun σ H Q => ta σ H fun x H1 => tb σ H1 fun y H2 => r x y H2 Q
def tUn (r : V → Hp → VK → Prop) (ta : TE) : TE := fun σ H Q => ta σ H fun x H1 => r x H1 Q
/-- ints in, under C, and a value out -/
def rI (C : Int → Int → Prop) (g : Int → Int → V) : R2 := fun x y H Q => ∃ i j, x = .int i ∧ y = .int j ∧ C i j ∧ Q (g i j) H
def rI0 (g : Int → Int → V) : R2 := fun x y H Q => ∃ i j, x = .int i ∧ y = .int j ∧ Q (g i j) H
def rU (g : Int → V) : V → Hp → VK → Prop := fun x H Q => ∃ i, x = .int i ∧ Q (g i) H

section
variable {X : Cx} {a b c : Expr} {ta tb tc : TE} {pos : Pos}

theorem binT (ha : PE X a ta) (hb : PE X b tb) {pins : List (Addr × Obj)} {s : Shared} {σ : St} {H : Hp} {R : V → V → Hp → Prop} (I : Inv X pins σ H s)
    (h : ta σ H fun x H1 => tb σ H1 fun y H2 => R x y H2) {Q : Value → Shared → Prop} {f : Value → Value → Sem Value}
    (hf : ∀ v u s2 x y H2, Inv X pins σ H2 s2 → RelV x v → RelV y u → R x y H2 → wpAny (model X.prog X.w) X.A (f v u) Q X.xe s2) :
    wpAny (model X.prog X.w) X.A (eval a X.env) (fun v s₁ => wpAny (model X.prog X.w) X.A (eval b X.env) (fun u s₂ => wpAny (model X.prog X.w) X.A (f v u) Q X.xe s₂) X.xe s₁) X.xe s := by
  refine thn (ha pins s σ H _ I h) fun v s1 ⟨x, H1, I1, r1, q1⟩ => ?_
  refine thn (hb pins s1 σ H1 _ I1 q1) fun u s2 ⟨y, H2, I2, r2, q2⟩ => ?_
  exact hf v u s2 x y H2 I2 r1 r2 q2

theorem pe_op {op : Operator} {r : R2} (ho : OpR X (binaryOp op) r) (ha : PE X a ta) (hb : PE X b tb) : PE X (.BinOp a op b pos) (tOp r ta tb) := by
  intro pins s σ H Q I h
  exact wpAny_BinOp (binT ha hb I h fun v u s2 x y H2 I2 rx ry q => ho pins s2 σ H2 x y v u Q I2 rx ry q)
theorem pe_un {op : UnaryOp} {r : V → Hp → VK → Prop} (ho : UnR X (unaryOp op) r) (ha : PE X a ta) : PE X (.UnaryOp op a pos) (tUn r ta) := by
  intro pins s σ H Q I h
  exact UnaryOp_ (thn (ha pins s σ H _ I h) fun v s1 ⟨x, H1, I1, r1, q1⟩ => ho pins s1 σ H1 x v Q I1 r1 q1)
/-! ### ints -/
theorem opI {f : Value → Value → Sem Value} {C : Int → Int → Prop} {g : Int → Int → Int}
    (rule : ∀ (i j : Int) (t u : Tok) (s : Shared) (Q : Value → Shared → Prop) (E : Value → Shared → Prop), C i j → Q (.int (g i j) s.toks) { s with toks := s.toks + 1 } → wpAny (model X.prog X.w) X.A (f (.int i t) (.int j u)) Q E s) :
    OpR X f (rI C fun i j => .int (g i j)) := by
  intro pins s σ H x y v u Q I rx ry h
  obtain ⟨i, j, rfl, rfl, hc, q⟩ := h
  obtain ⟨t, rfl⟩ := rx
  obtain ⟨t', rfl⟩ := ry
  exact rule i j t t' s _ _ hc ⟨.int (g i j), H, I.tok _, ⟨_, rfl⟩, q⟩
theorem opI0 {f : Value → Value → Sem Value} {g : Int → Int → Int}
    (rule : ∀ (i j : Int) (t u : Tok) (s : Shared) (Q : Value → Shared → Prop) (E : Value → Shared → Prop), Q (.int (g i j) s.toks) { s with toks := s.toks + 1 } → wpAny (model X.prog X.w) X.A (f (.int i t) (.int j u)) Q E s) :
    OpR X f (rI0 fun i j => .int (g i j)) := by
  intro pins s σ H x y v u Q I rx ry h
  obtain ⟨i, j, rfl, rfl, q⟩ := h
  obtain ⟨t, rfl⟩ := rx
  obtain ⟨t', rfl⟩ := ry
  exact rule i j t t' s _ _ ⟨.int (g i j), H, I.tok _, ⟨_, rfl⟩, q⟩
theorem opB0 {f : Value → Value → Sem Value} {g : Int → Int → Bool}
    (rule : ∀ (i j : Int) (t u : Tok) (s : Shared) (Q : Value → Shared → Prop) (E : Value → Shared → Prop), Q (.bool (g i j)) s → wpAny (model X.prog X.w) X.A (f (.int i t) (.int j u)) Q E s) :
    OpR X f (rI0 fun i j => .bl (g i j)) := by
  intro pins s σ H x y v u Q I rx ry h
  obtain ⟨i, j, rfl, rfl, q⟩ := h
  obtain ⟨t, rfl⟩ := rx
  obtain ⟨t', rfl⟩ := ry
  exact rule i j t t' s _ _ ⟨.bl (g i j), H, I, rfl, q⟩

def CDiv (i j : Int) : Prop := 0 < j ∧ j < 1073741824
def CDivN (i j : Int) : Prop := j ≠ 0 ∧ j.natAbs < 1073741824
def CPow (i j : Int) : Prop := 0 ≤ j ∧ j ≤ 1000000 ∧ i.natAbs < 2 ^ 64
def CMul (i j : Int) : Prop := (-(2 ^ 64) < i ∧ i < 2 ^ 64) ∨ (-(2 ^ 64) < j ∧ j < 2 ^ 64)
theorem op_add : OpR X (binaryOp .Add) (rI0 fun i j => .int (i + j)) := opI0 fun _ _ _ _ _ _ _ q => add_int q
theorem op_sub : OpR X (binaryOp .Sub) (rI0 fun i j => .int (i - j)) := opI0 fun _ _ _ _ _ _ _ q => sub_int q
/-- // by a positive divisor -/
theorem op_fdiv : OpR X (binaryOp .FloorDiv) (rI CDiv fun i j => .int (i / j)) := opI fun i j _ _ _ _ _ hc q => by
  have h1 : (0 : Int) < j := hc.1
  have h2 : j < 1073741824 := hc.2
  exact floordiv_int (by omega) (by rw [Int.fdiv_eq_ediv_of_nonneg i (by omega)]; exact q) (.inl (PyProof.noPylong_small (by omega)))
/-- % by a positive divisor of any size -/
theorem op_mod : OpR X (binaryOp .Mod) (rI (fun _ j => 0 < j) fun i j => .int (i % j)) := opI fun i j _ _ _ _ _ hc q => by
  have h1 : (0 : Int) < j := hc
  exact mod_int' (by omega) (by rw [Int.fmod_eq_emod_of_nonneg i (by omega)]; exact q)
theorem op_pow : OpR X (binaryOp .Pow) (rI CPow fun i j => .int (i ^ j.toNat)) := opI fun _ _ _ _ _ _ _ hc q => pow_int_small hc.1 hc.2.1 hc.2.2 q
theorem unI {f : Value → Sem Value} {g : Int → Int}
    (rule : ∀ (i : Int) (t : Tok) (s : Shared) (Q : Value → Shared → Prop) (E : Value → Shared → Prop), Q (.int (g i) s.toks) { s with toks := s.toks + 1 } → wpAny (model X.prog X.w) X.A (f (.int i t)) Q E s) :
    UnR X f (rU fun i => .int (g i)) := by
  intro pins s σ H x v Q I rx h
  obtain ⟨i, rfl, q⟩ := h
  obtain ⟨t, rfl⟩ := rx
  exact rule i t s _ _ ⟨.int (g i), H, I.tok _, ⟨_, rfl⟩, q⟩
theorem un_neg : UnR X (unaryOp .USub) (rU fun i => .int (-i)) := unI fun _ _ _ _ _ q => neg_int q
/-! ### bools among ints: n += (a < b) -/
end

/-! ### comparisons -/
/-- the scalars that == tells apart as data does -/
def scal : V → V → Bool
  | .non, .non => true | .non, .int _ => true | .int _, .non => true | .non, .bl _ => true | .bl _, .non => true | .non, .str _ => true | .str _, .non => true
  | .int _, .int _ => true | .bl _, .bl _ => true | .str _, .str _ => true | .byt _, .byt _ => true
  | .int _, .str _ => true | .str _, .int _ => true | .bl _, .str _ => true | .str _, .bl _ => true
  | _, _ => false
def rEq : R2 := fun x y H Q => scal x y = true ∧ Q (.bl (decide (x = y))) H
def rNe : R2 := fun x y H Q => scal x y = true ∧ Q (.bl (!decide (x = y))) H

section
variable {X : Cx} {a b c : Expr} {ta tb tc : TE} {pos : Pos}
theorem fin_bl {pins : List (Addr × Obj)} {σ : St} {H : Hp} {s : Shared} {Q : VK} {k k' : Bool} (I : Inv X pins σ H s) (q : Q (.bl k) H) (e : k = k') : EP X pins σ Q (.bool k') s := by
  subst e
  exact ⟨.bl k, H, I, rfl, q⟩
theorem op_lt : OpR X (compareOp .Lt) (rI0 fun i j => .bl (decide (i < j))) := opB0 fun _ _ _ _ _ _ _ q => lt_int q
theorem op_le : OpR X (compareOp .LtE) (rI0 fun i j => .bl (decide (i ≤ j))) := opB0 fun _ _ _ _ _ _ _ q => le_int q
theorem op_gt : OpR X (compareOp .Gt) (rI0 fun i j => .bl (decide (j < i))) := opB0 fun _ _ _ _ _ _ _ q => gt_int q
theorem op_notN : OpR X (compareOp .IsNot) (fun x y H Q => y = .non ∧ Q (.bl (!decide (x = .non))) H) := by
  intro pins s σ H x y v u Q I rx ry h
  obtain ⟨rfl, q⟩ := h
  cases ry
  refine isnot_none_gen (fin_bl I q ?_)
  cases x <;> first
    | (cases rx; rfl)
    | (obtain ⟨t, rfl⟩ := rx; rfl)

/-- is, is not of two objects that are tracked lists or instances -/
def isObj : HO → Bool
  | .lst _ => true
  | .ins _ _ _ => true
  | _ => false
/-- two rules for one operation: by cases -/
theorem OpR.or {f : Value → Value → Sem Value} {r r' : R2} (h : OpR X f r) (h' : OpR X f r') : OpR X f (fun x y H Q => r x y H Q ∨ r' x y H Q) := by
  intro pins s σ H x y v u Q I rx ry q
  rcases q with q | q
  · exact h pins s σ H x y v u Q I rx ry q
  · exact h' pins s σ H x y v u Q I rx ry q

theorem nomark (b : Expr) {op : CmpOp} (h : op ≠ .In := by decide) (h2 : op ≠ .NotIn := by decide) : behindInMarks op b = false := by
  have e1 : (op == CmpOp.In) = false := by cases op <;> first | rfl | exact absurd rfl h
  have e2 : (op == CmpOp.NotIn) = false := by cases op <;> first | rfl | exact absurd rfl h2
  cases b <;> simp [behindInMarks, e1, e2]
/-- a comparison as a value; hm: nomark b, or (for in, not in) by with_unfolding_all rfl -/
theorem pe_cmpR {op : CmpOp} {r : R2} (ho : OpR X (compareOp op) r) (ha : PE X a ta) (hb : PE X b tb) (hm : behindInMarks op b = false) : PE X (.Compare a [op] [b] pos) (tOp r ta tb) := by
  intro pins s σ H Q I h
  exact wpAny_Compare1 (binT ha hb I h fun v u s2 x y H2 I2 rx ry q => ho pins s2 σ H2 x y v u Q I2 rx ry q) hm
/-- a reading of a value as a test -/
def tTest (t : TE) : TT := fun σ H Q => t σ H fun x H' => ∃ k, x = .bl k ∧ Q k H'
theorem pt_cmpR {op : CmpOp} {r : R2} (ho : OpR X (compareOp op) r) (ha : PE X a ta) (hb : PE X b tb) (hm : behindInMarks op b = false) : PT X (.Compare a [op] [b] pos) (tTest (tOp r ta tb)) := by
  intro pins s σ H Q I h
  refine wpAny_isTrue_Compare1 (thn (ha pins s σ H _ I h) fun v s1 ⟨x, H1, I1, r1, q1⟩ => thn (hb pins s1 σ H1 _ I1 q1) fun u s2 ⟨y, H2, I2, r2, q2⟩ =>
    thn (ho pins s2 σ H2 x y v u _ I2 r1 r2 q2) fun c s3 ⟨z, H3, I3, r3, k, e, q3⟩ => ?_) hm
  subst e
  cases r3
  exact wpAny_truthy_bool ⟨H3, I3, q3⟩
/-- a op1 b op2 c -/
def tChain (r r' : R2) (ta tb tc : TE) : TE := fun σ H Q => ta σ H fun x H1 => tb σ H1 fun y H2 => r x y H2 fun z H3 => ∃ k, z = .bl k ∧
  (if k = true then tc σ H3 fun w' H4 => r' y w' H4 Q else Q (.bl false) H3)
theorem pt_chain {op op' : CmpOp} {r r' : R2} (ho : OpR X (compareOp op) r) (ho' : OpR X (compareOp op') r') (ha : PE X a ta) (hb : PE X b tb) (hc : PE X c tc)
    (hm : lastMarks [op, op'] [b, c] = false := by with_unfolding_all rfl) : PT X (.Compare a [op, op'] [b, c] pos) (tTest (tChain r r' ta tb tc)) := by
  intro pins s σ H Q I h
  refine isTrue_chain (thn (ha pins s σ H _ I h) fun v s1 ⟨x, H1, I1, r1, q1⟩ => test_link (thn (hb pins s1 σ H1 _ I1 q1) fun u s2 ⟨y, H2, I2, r2, q2⟩ =>
    thn (ho pins s2 σ H2 x y v u _ I2 r1 r2 q2) fun d s3 ⟨z, H3, I3, r3, k, e, q3⟩ => ?_)) hm
  subst e
  cases r3
  refine wpAny_truthy_bool ?_
  cases k with
  | false =>
    obtain ⟨k', e', q'⟩ := q3
    cases e'
    exact ite_ff ⟨H3, I3, q'⟩
  | true =>
    refine ite_tt (test_last (thn (hc pins s3 σ H3 _ I3 q3) fun w' s4 ⟨z', H4, I4, r4, q4⟩ => thn (ho' pins s4 σ H4 y z' u w' _ I4 r2 r4 q4) fun d' s5 ⟨z2, H5, I5, r5, k2, e2, q5⟩ => ?_))
    subst e2
    cases r5
    exact wpAny_truthy_bool ⟨H5, I5, q5⟩

/-! ### truth -/
/-- a value's truth by the abstract heap -/
def TruV (K : PySem.W.Frag) (x : V) (H : Hp) (k : Bool) : Prop :=
  match x with
  | .non => k = false
  | .bl b => k = b
  | .int i => k = (i != 0)
  | .str y => y.length ≤ sizeLine ∧ k = ((y.length : Int) != 0)
  | .byt y => y.size ≤ sizeLine ∧ k = ((y.size : Int) != 0)
  | .ref p => (∃ xs, SqL K H p xs ∧ k = !xs.isEmpty) ∨ (∃ xs, SqT K H p xs ∧ k = !xs.isEmpty) ∨ ∃ kvs, H p = some (.dK kvs) ∧ k = !kvs.isEmpty
  | _ => False
theorem isEmpty_kv {κ : Type} {kvs : List (κ × V)} {vs : List (κ × Value)} (r : KV kvs vs) : (!vs.isEmpty) = !kvs.isEmpty := by
  cases r <;> rfl
theorem isEmpty_of {xs : List V} {its : List Value} (r : Vals xs its) : (!its.toArray.isEmpty) = !xs.isEmpty := by
  cases r <;> simp
theorem line63 : (sizeLine : Nat) < 2 ^ 63 := by rw [sizeLine_eq]; decide
theorem tru_ok : TruR X (fun x H Q => ∃ k, TruV X.K x H k ∧ Q k H) := by
  intro pins s σ H x v Q I rx h
  obtain ⟨k, e, q⟩ := h
  have hl := line63
  have hs : sizeLine = 16777216 := sizeLine_eq
  cases x with
  | non =>
    cases rx
    have e' : k = false := e
    subst e'
    exact truthy_none ⟨H, I, q⟩
  | bl b =>
    cases rx
    have e' : k = b := e
    subst e'
    exact wpAny_truthy_bool ⟨H, I, q⟩
  | int i =>
    obtain ⟨t, rfl⟩ := rx
    have e' : k = (i != 0) := e
    subst e'
    exact PySem.P.truthy_int ⟨H, I, q⟩
  | str y =>
    obtain ⟨t, rfl⟩ := rx
    obtain ⟨hy, e'⟩ : y.length ≤ sizeLine ∧ k = ((y.length : Int) != 0) := e
    subst e'
    exact PySem.P.truthy_str (by omega) ⟨H, I.tok _, q⟩
  | byt y =>
    obtain ⟨t, rfl⟩ := rx
    obtain ⟨hy, e'⟩ : y.size ≤ sizeLine ∧ k = ((y.size : Int) != 0) := e
    subst e'
    exact PySem.W.truthy_bytes (by omega) ⟨H, I.tok _, q⟩
  | ref p =>
    cases rx
    have e' : (∃ xs, SqL X.K H p xs ∧ k = !xs.isEmpty) ∨ (∃ xs, SqT X.K H p xs ∧ k = !xs.isEmpty) ∨ ∃ kvs, H p = some (.dK kvs) ∧ k = !kvs.isEmpty := e
    rcases e' with ⟨xs, hx, e'⟩ | ⟨xs, hx, e'⟩ | ⟨kvs, hx, e'⟩
    · subst e'
      obtain ⟨its, r, pl, hz⟩ := I.list hx
      have hlen := r.length
      exact wpAny_truthy_list pl.isList (by simp only [List.size_toArray]; omega) ⟨H, I.tok _, by rw [isEmpty_of r]; exact q⟩
    · subst e'
      obtain ⟨its, r, pl, hz⟩ := I.tuple hx
      have hlen := r.length
      exact truthy_tuple pl (by simp only [List.size_toArray]; omega) ⟨H, I.tok _, by rw [isEmpty_of r]; exact q⟩
    · subst e'
      obtain ⟨hz, hS, vs, r, m⟩ : kvs.length ≤ sizeLine ∧ (p == sysModules) = false ∧ ∃ vs, KV kvs vs ∧ s.heap.DictOf (mixKind X.prog X.w) p vs := I.hok p _ hx
      have hlen : kvs.length = vs.length := Paired.length r
      exact wpAny_truthy_dict hS m (by omega) ⟨H, I.tok _, by rw [isEmpty_kv r]; exact q⟩
  | _ => exact (show False from e).elim
/-- any expression whose test is its value's truth (a name, a call, a subscript, a field ..: he by fun _ => rfl) -/
theorem pt_truth (ha : PE X a ta) (he : ∀ whole, isTrue a X.env whole = (do let v ← whole; standAt a.pos; holding [v] (truthy v))) :
    PT X a (fun σ H Q => ta σ H fun x H' => ∃ k, TruV X.K x H' k ∧ Q k H') := by
  intro pins s σ H Q I h
  exact isTrue_plain (thn (ha pins s σ H _ I h) fun v s1 ⟨x, H1, I1, r1, q1⟩ => tru_ok pins s1 σ H1 x v Q I1 r1 q1) (he _)

/-! ### strs and bytes -/
theorem op_add_str : OpR X (binaryOp .Add) (fun x y H Q => ∃ i j, x = .str i ∧ y = .str j ∧ i.length + j.length ≤ sizeLine ∧ Q (.str (i ++ j)) H) := by
  intro pins s σ H x y v u Q I rx ry h
  obtain ⟨i, j, rfl, rfl, hz, q⟩ := h
  obtain ⟨t, rfl⟩ := rx
  obtain ⟨t', rfl⟩ := ry
  exact add_str (fun t' tk => ⟨.str (i ++ j), H, I.tok _, ⟨_, rfl⟩, q⟩) hz
def PlainIxT (b : Expr) : Prop := ∀ o i, subscripted b false o i = operate [o, i] (getItem o i)
/-! ### scalar builtins, by CallR -/
theorem vals1 {x : V} {us : List Value} (r : Vals [x] us) : ∃ u, us = [u] ∧ RelV x u := by
  cases r with
  | cons r1 r2 => cases r2; exact ⟨_, rfl, r1⟩
theorem vals2 {x y : V} {us : List Value} (r : Vals [x, y] us) : ∃ u w', us = [u, w'] ∧ RelV x u ∧ RelV y w' := by
  cases r with
  | cons r1 r2 =>
    cases r2 with
    | cons r3 r4 => cases r4; exact ⟨_, _, rfl, r1, r3⟩
/-- len of a str, a bytes, a list, a tuple -/
def LenV (K : PySem.W.Frag) (x : V) (H : Hp) (n : Nat) : Prop :=
  match x with
  | .str y => y.length ≤ sizeLine ∧ n = y.length
  | .byt y => y.size ≤ sizeLine ∧ n = y.size
  | .ref p => (∃ xs, SqL K H p xs ∧ n = xs.length) ∨ ∃ xs, SqT K H p xs ∧ n = xs.length
  | _ => False
end
end L2

namespace L2
open PySem PySem.Spec PyProof.Rows

/-! ### an instance, its attributes a map -/
structure ObjM (h : Heap) (x dx C : Addr) (mA : Str → Option Value) : Prop where
  obj : h.get? x = some (PySem.W.instObj C dx)
  ns : h.Ns1 dx mA
  ne : dx ≠ x

theorem lookIn_ns {h : Heap} {dx : Addr} {mA : Str → Option Value} (n : h.Ns1 dx mA) : ∃ od, h.get? dx = some od ∧ ∀ name, PySem.W.lookIn name od = some (mA name) := by
  obtain ⟨o, es, ep, ho, hd, hk, _, hm⟩ := n
  refine ⟨o, ho, fun name => ?_⟩
  have e := hm name
  unfold nsFind findBy at e
  rw [← Array.find?_toList] at e
  unfold PySem.W.lookIn
  rw [hd]
  dsimp only
  split
  · rename_i y q
    rw [q] at e
    exact congrArg some e
  · rename_i q
    rw [q] at e
    have a : es.toList.any (·.refKey) = false := by
      rw [List.any_eq_false]
      intro y hy
      obtain ⟨z, t, hkey⟩ := hk y (Array.mem_toList_iff.mp hy)
      simp [DictEntry.refKey, hkey]
    have a' : ¬ es.toList.any (·.refKey) = true := by rw [a]; exact Bool.false_ne_true
    rw [if_neg a']
    exact congrArg some e

theorem ObjM.look {h : Heap} {x dx C : Addr} {mA : Str → Option Value} (I : ObjM h x dx C mA) : ∃ od, PySem.W.InstAt h x (PySem.W.instObj C dx) C (some od) ∧ ∀ name, PySem.W.lookIn name od = some (mA name) :=
  let ⟨od, ho, hl⟩ := lookIn_ns I.ns
  ⟨od, ⟨I.obj, rfl, rfl, ho⟩, hl⟩

section
variable {prog : Program} {w : World} {A : Around} {E : Value → Shared → Prop} {s : Shared} {K : PySem.W.Frag} {x dx C f : Addr} {mA : Str → Option Value} {name : Str} {v : Value}

end

/-! ### the attributes as a list of pairs -/
def putF (f : Str) (v : V) : List (Str × V) → List (Str × V)
  | [] => [(f, v)]
  | (g, x) :: r => if g = f then (g, v) :: r else (g, x) :: putF f v r
section
variable {P : Program} {w : World} {H H' : Hp} {h h' : Heap} {a C dx : Addr} {fs fs' : List (Str × V)}
theorem ins_get (hok : HOk P w H h) (e : H a = some (.ins C dx fs)) : ∃ mA, ObjM h a dx C mA ∧ (∀ f, RelO (fs.lookup f) (mA f)) ∧ PySem.Within mA (fs.map (·.1)) ∧ fs.length ≤ 1000 ∧ H dx = some (.own a) := by
  obtain ⟨d, z, ne, ob, mA, n, r, q⟩ := (show ObjOk P w H h a (.ins C dx fs) from hok a _ e)
  exact ⟨mA, ⟨ob, n, ne⟩, r, q, z, d⟩
end

/-! ### what of the text a class must have -/
structure Cls (K : PySem.W.Frag) (C : Addr) : Prop where
  pg : PySem.W.plainGet K C Str.empty = true
  hd : PySem.W.hasDictIn K C = true
  po : PySem.W.plainOver K C = true
  sa : PySem.W.findIn K (.ref C) "__setattr__" = some (some (.builtin "object.__setattr__"))
theorem Cls.get {K : PySem.W.Frag} {C : Addr} (c : Cls K C) (f : Str) : PySem.W.plainGet K C f = true := c.pg
/-- no class of it has the name -/
def NoAttr (K : PySem.W.Frag) (C : Addr) (f : Str) : Prop := PySem.W.findIn K (.ref C) f = some none
/-- a constant of the class -/
structure Con (K : PySem.W.Frag) (C : Addr) (f : Str) (v : V) (u : Value) : Prop where
  at_ : PySem.W.findIn K (.ref C) f = some (some u)
  rel : RelV v u
  get : PySem.W.specialIn K u "__get__" = some none
  cp : PySem.W.copiedNames.contains f = false
/-- a method: a plain def of the class or of one above it -/
structure Meth (K : PySem.W.Frag) (C : Addr) (m : Str) (f : Addr) : Prop where
  at_ : PySem.W.findIn K (.ref C) m = some (some (.ref f))
  fn : PySem.W.isFn K (.ref f) = true
  kp : PySem.W.keepIn K (.ref f) = true

section
variable {X : Cx} {pins : List (Addr × Obj)} {σ : St} {H : Hp} {s : Shared} {a C dx : Addr} {fs : List (Str × V)} {f : Str} {v : V} {A : Around} {E : Value → Shared → Prop}

end

/-! ### readings and rules -/
/-- e.f, an attribute of the instance -/
def tFld (K : PySem.W.Frag) (ta : TE) (f : Str) : TE := fun σ H Q => ta σ H fun x H1 => ∃ a C dx fs v, x = .ref a ∧ H1 a = some (.ins C dx fs) ∧ Cls K C ∧ NoAttr K C f ∧ fs.lookup f = some v ∧ Q v H1
/-- e.f, a constant of the class -/
def tCon (K : PySem.W.Frag) (ta : TE) (f : Str) : TE := fun σ H Q => ta σ H fun x H1 => ∃ a C dx fs v u, x = .ref a ∧ H1 a = some (.ins C dx fs) ∧ Cls K C ∧ Con K C f v u ∧ fs.lookup f = none ∧ Q v H1
/-- e.f = value -/
def sFld (K : PySem.W.Frag) (ta tv : TE) (f : Str) : TS := fun D σ H => tv σ H fun y H1 => ta σ H1 fun x H2 => ∃ a C dx fs, x = .ref a ∧ H2 a = some (.ins C dx fs) ∧ Cls K C ∧ NoAttr K C f ∧ fs.length < 1000 ∧
  D.nx σ (upd H2 a (.ins C dx (putF f y fs)))
/-- an augmented operator on two values -/
def InOp (X : Cx) (op : Operator) (rd : V → V → Hp → VK → Prop) : Prop :=
  ∀ (pins : List (Addr × Obj)) (s : Shared) (σ : St) (H : Hp) (x y : V) (u v : Value) (Q : VK), Inv X pins σ H s → RelV x u → RelV y v → rd x y H Q → wpAny (model X.prog X.w) X.A (inplaceOp op u v) (EP X pins σ Q) X.xe s
/-- e.f op= value -/
def sFldAug (K : PySem.W.Frag) (ta tv : TE) (rd : V → V → Hp → VK → Prop) (f : Str) : TS := fun D σ H => ta σ H fun x H1 => ∃ a C dx fs v, x = .ref a ∧ H1 a = some (.ins C dx fs) ∧ Cls K C ∧ NoAttr K C f ∧ fs.lookup f = some v ∧
  tv σ H1 fun y H2 => rd v y H2 fun z H3 => ∃ dx' fs', H3 a = some (.ins C dx' fs') ∧ fs'.length < 1000 ∧ D.nx σ (upd H3 a (.ins C dx' (putF f z fs')))

section
variable {X : Cx} {o e value : Expr} {f : Str} {pos pos' tpos : Pos} {ta tv : TE}
def rAdd : V → V → Hp → VK → Prop := fun x y H Q => ∃ i j, x = .int i ∧ y = .int j ∧ Q (.int (i + j)) H
def rSub : V → V → Hp → VK → Prop := fun x y H Q => ∃ i j, x = .int i ∧ y = .int j ∧ Q (.int (i - j)) H
end

/-! ### isinstance -/
section
variable {X : Cx} {pins : List (Addr × Obj)} {σ : St} {H : Hp} {s : Shared} {A : Around} {E : Value → Shared → Prop} {Q : Value → Shared → Prop} {c : Value} {b : Bool}
/-- the type of a value, as the fragment's deciders take it; for an instance its class -/
inductive TyOf (K : PySem.W.Frag) (H : Hp) : V → Value → Prop where
  | non : TyOf K H .non (.type "NoneType")
  | bl (x : Bool) : TyOf K H (.bl x) (.type "bool")
  | int (i : Int) : TyOf K H (.int i) (.type "int")
  | str (x : Str) : TyOf K H (.str x) (.type "str")
  | flt (x : UInt64) : TyOf K H (.flt x) (.type "float")
  | lst {a : Addr} {xs : List V} (e : H a = some (.lst xs)) : TyOf K H (.ref a) (.type "list")
  | frz {a : Addr} {o : Obj} {xs : List V} (e : H a = some (.frz o (.lst xs))) : TyOf K H (.ref a) (.type "list")
  | tup {a : Addr} {xs : List V} (e : H a = some (.tup xs)) : TyOf K H (.ref a) (.type "tuple")
  | dK {a : Addr} {kvs : List (Key × V)} (e : H a = some (.dK kvs)) : TyOf K H (.ref a) (.type "dict")
  | dT {a : Addr} {kvs : List (List Key × V)} (e : H a = some (.dT kvs)) : TyOf K H (.ref a) (.type "dict")
  | ins {a C dx : Addr} {fs : List (Str × V)} (e : H a = some (.ins C dx fs)) (cl : Cls K C) (ha : PySem.W.findIn K (.ref C) "__class__" = some (some (.builtin "object.__class__")))
      (hn : PySem.W.specialIn K (.builtin "object.__class__") "__get__" = some (some (.builtin "getset_descriptor.__get__"))) (htk : PySem.W.takesIn K (.builtin "object.__class__") = some true)
      (hm : PySem.W.mroIn K C (.type "object") = some true) : TyOf K H (.ref a) (.ref C)
/-- isinstance(x, c) for one class c, a built-in or an own one: kitOne's answer -/
theorem isinst_ok {x : V} {u t : Value} (I : Inv X pins σ H s) (rx : RelV x u) (ty : TyOf X.K H x t) (e : PySem.W.kitOne X.K t c = some b) (h : ∀ tk, Q (.bool b) { s with toks := tk }) :
    wpAny (model X.prog X.w) A (call (.builtin "isinstance") [u, c]) Q E s := by
  cases ty with
  | non => cases (show u = Value.none from rx); exact PySem.W.kia_one PySem.W.kitx_none I.kIn True.intro e (fun z => nomatch z) h
  | bl y => cases (show u = Value.bool y from rx); exact PySem.W.kia_one PySem.W.kitx_bool I.kIn True.intro e (fun z => nomatch z) h
  | int i => obtain ⟨t, q⟩ := (show ∃ t, u = Value.int i t from rx); cases q; exact PySem.W.kia_one PySem.W.kitx_int I.kIn True.intro e (fun z => nomatch z) h
  | str y => obtain ⟨t, q⟩ := (show ∃ t, u = Value.str y t from rx); cases q; exact PySem.W.kia_one PySem.W.kitx_str I.kIn True.intro e (fun z => nomatch z) h
  | flt y => obtain ⟨t, q⟩ := (show ∃ t, u = Value.float y t from rx); cases q; exact PySem.W.kia_one PySem.W.kitx_float I.kIn True.intro e (fun z => nomatch z) h
  | @lst a xs ea =>
    cases (show u = Value.ref a from rx)
    obtain ⟨_, _, n, _, h1⟩ := (show ObjOk X.prog X.w H s.heap a (.lst xs) from I.hok a _ ea)
    exact PySem.W.kia_one PySem.W.kitx_list I.kIn ⟨_, h1, rfl⟩ e (fun z => nomatch z) h
  | @frz a ob xs ea =>
    cases (show u = Value.ref a from rx)
    obtain ⟨_, _, _, n, _, h1⟩ := (show ObjOk X.prog X.w H s.heap a (.frz ob (.lst xs)) from I.hok a _ ea)
    exact PySem.W.kia_one PySem.W.kitx_list I.kIn ⟨_, h1, rfl⟩ e (fun z => nomatch z) h
  | @tup a xs ea =>
    cases (show u = Value.ref a from rx)
    obtain ⟨_, _, _, p⟩ := (show ObjOk X.prog X.w H s.heap a (.tup xs) from I.hok a _ ea)
    obtain ⟨o, h1, h2, _⟩ := p
    exact PySem.W.kia_one PySem.W.kitx_tuple I.kIn ⟨o, h1, h2⟩ e (fun z => nomatch z) h
  | @dK a kvs ea =>
    cases (show u = Value.ref a from rx)
    obtain ⟨_, _, vs, _, p⟩ := (show ObjOk X.prog X.w H s.heap a (.dK kvs) from I.hok a _ ea)
    obtain ⟨o, es, ep, h1, h2, _⟩ := p
    exact PySem.W.kia_one PySem.W.kitx_dict I.kIn ⟨o, h1, h2.1⟩ e (fun z => nomatch z) h
  | @dT a kvs ea =>
    cases (show u = Value.ref a from rx)
    obtain ⟨_, _, xs, _, o, es, ep, h1, h2, _⟩ := (show ObjOk X.prog X.w H s.heap a (.dT kvs) from I.hok a _ ea)
    exact PySem.W.kia_one PySem.W.kitx_dict I.kIn ⟨o, h1, h2.1⟩ e (fun z => nomatch z) h
  | @ins a C dx fs ea cl ha hn htk hm =>
    cases (show u = Value.ref a from rx)
    obtain ⟨mA, O, _⟩ := ins_get I.hok ea
    obtain ⟨od, J, _⟩ := O.look
    exact PySem.W.kia_one (PySem.W.kitx_own (cl.get _) cl.hd ha hn htk hm) I.kIn J e (fun z => nomatch z) h
end
end L2

namespace L2
open PySem PySem.Spec PyProof.Rows

/-! ### room -/
structure Room (k : Nat) (A : Around) : Prop where
  hd : A.handled = none
  dp : A.depth + 3 * k + 5 < recursionLimit
  un : A.units + 16 * k + 200 < cLine
theorem Room.mono {j k : Nat} {A : Around} (r : Room k A) (h : j ≤ k) : Room j A := ⟨r.hd, by have := r.dp; omega, by have := r.un; omega⟩
theorem Room.deeper {k : Nat} {A : Around} (r : Room (k + 1) A) (env : Env) : Room k (A.deeper env) :=
  ⟨r.hd, by have := r.dp; show A.depth + 1 + 3 * k + 5 < _; omega, by have := r.un; show A.units + 3 + 16 * k + 200 < _; omega⟩
theorem Room.depth {k : Nat} {A : Around} (r : Room k A) : A.depth < recursionLimit := by have := r.dp; omega
/-! ### argument lists and displays -/
def tNil : TA := fun _ H Q => Q [] H
def tCons (ta : TE) (tr : TA) : TA := fun σ H Q => ta σ H fun x H1 => tr σ H1 fun xs H2 => Q (x :: xs) H2
section
variable {X : Cx} {e : Expr} {es : List Expr} {te : TE} {t : TA} {pos : Pos}
theorem pa_nil : PA X [] tNil := fun _ _ _ _ H Q I h => Calls.spliced_nil ⟨[], H, I, .nil, h⟩
theorem pa_cons (ha : PE X e te) (hr : PA X es t) (hs : starEach (e :: es) X.env = (false, eval e X.env) :: starEach es X.env := by rfl) : PA X (e :: es) (tCons te t) := by
  intro pos pins s σ H Q I h
  rw [hs]
  show wpAny _ _ (spliced ((false, eval e X.env) :: backTo pos (starEach es X.env))) _ _ s
  refine Calls.spliced_cons (thn (ha pins s σ H _ I h) fun u s1 ⟨x, H1, I1, r1, q1⟩ => ?_)
  exact thn (hr pos pins s1 σ H1 _ I1 q1) fun us s2 ⟨xs, H2, I2, r2, q2⟩ => ⟨x :: xs, H2, I2, .cons r1 r2, q2⟩

/-- a tuple, a list of written items -/
def tTup (t : TA) : TE := fun σ H Q => t σ H fun xs H1 => xs.length ≤ sizeLine ∧ ∀ p, H1 p = none → Q (.ref p) (upd H1 p (.tup xs))
def tLst (t : TA) : TE := fun σ H Q => t σ H fun xs H1 => xs.length ≤ sizeLine ∧ ∀ p, H1 p = none → Q (.ref p) (upd H1 p (.lst xs))
theorem pe_tup {x1} (h : PA X es t) : PE X (.Tuple es x1 pos) (tTup t) := by
  intro pins s σ H Q I hq
  refine wpAny_Tuple_spliced (thn (h pos pins s σ H _ I hq) fun us s1 ⟨xs, H1, I1, r, z, q⟩ => ⟨by rw [← r.length]; exact z, ?_⟩)
  have hf : H1 s1.heap.objs.size = none := I1.hok.fresh (Nat.le_refl _)
  refine ⟨.ref s1.heap.objs.size, upd H1 s1.heap.objs.size (.tup xs), I1.laid (t' := s1.toks) (fun b u e => Heap.get?_push_of_some _ e) (Nat.le_refl _) ?_, rfl, q _ hf⟩
  exact ⟨z, us, r, ⟨_, Heap.get?_push_size _ rfl, rfl, _, rfl⟩⟩
theorem pe_lst (h : PA X es t) : PE X (.List es pos) (tLst t) := by
  intro pins s σ H Q I hq
  refine wpAny_List_spliced (thn (h pos pins s σ H _ I hq) fun us s1 ⟨xs, H1, I1, r, z, q⟩ => ⟨by rw [← r.length]; exact z, ?_⟩)
  have hf : H1 s1.heap.objs.size = none := I1.hok.fresh (Nat.le_refl _)
  refine ⟨.ref s1.heap.objs.size, upd H1 s1.heap.objs.size (.lst xs), I1.laid (t' := s1.toks) (fun b u e => Heap.get?_push_of_some _ e) (Nat.le_refl _) ?_, rfl, q _ hf⟩
  exact ⟨z, us, 0, r, Heap.get?_push_size _ rfl⟩
end

/-! ### what a def promises -/
/-- a def's promise: the bound arguments in the parameters' order, the heap, the wanted end, the wanted exception -/
abbrev Sp := List V → Hp → VK → XK → Prop
/-- how an exception lies behind a call (file 08 gives it): the callers' frames, abstract heap and state ahead of the call, the wish, the exception, the state -/
abbrev CXT := List Env → Hp → Shared → XK → Value → Shared → Prop

/-- the state at a call -/
structure Env0 (P : Program) (w : World) (K : PySem.W.Frag) (mg : Str → Option Value) (base : Heap) (A : Around) (outer : List Env) (s : Shared) (H : Hp) : Prop where
  frames : A.frames = some outer
  mod : Mod K mg base
  bs : ∀ b o, base.get? b = some o → s.heap.get? b = some o ∧ H b = none
  bsz : base.objs.size ≤ s.heap.objs.size
  funs : s.heap.FunFrames base outer
  frf : ∀ b ∈ frs outer, H b = none
  hok : HOk P w H s.heap
  bare : AllBare s.gens
/-- a call's end -/
def CE (outer : List Env) (P : Program) (w : World) (H : Hp) (s : Shared) (Q : VK) (u : Value) (s' : Shared) : Prop :=
  ∃ v H', s'.os = s.os ∧ AllBare s'.gens ∧ Un (frs outer) [] H H' s.heap s'.heap ∧ HOk P w H' s'.heap ∧ RelV v u ∧ Q v H'
def CR (CX : CXT) (outer : List Env) (P : Program) (w : World) (H : Hp) (s : Shared) (Q : VK) (E : XK) (r : Result) (s' : Shared) : Prop :=
  match r with
  | .ok (.ret u) => CE outer P w H s Q u s'
  | .ok _ => False
  | .error e => CX outer H s E e s'
structure FnOk (P : Program) (w : World) (K : PySem.W.Frag) (mg : Str → Option Value) (base : Heap) (CX : CXT) (k : Nat) (f : Addr) (fd : FuncData) (ps : List Str) (sp : Sp) : Prop where
  len : ∀ vs H Q E, sp vs H Q E → vs.length = ps.length
  run : ∀ (A : Around) (outer : List Env) (s : Shared) (H : Hp) (args : Args) (us : List Value) (vs : List V) (Q : VK) (E : XK), Room k A → Env0 P w K mg base A outer s H → BindsTo s fd args (ps.zip us) → Vals vs us → sp vs H Q E →
    codeAny (model P w) A (.call (.ref f) args) (CR CX outer P w H s Q E) s
theorem FnOk.mono {P : Program} {w : World} {K : PySem.W.Frag} {mg : Str → Option Value} {base : Heap} {CX : CXT} {j k : Nat} {f : Addr} {fd : FuncData} {ps : List Str} {sp : Sp} (F : FnOk P w K mg base CX j f fd ps sp) (h : j ≤ k) :
    FnOk P w K mg base CX k f fd ps sp := ⟨F.len, fun A outer s H args us vs Q E hr => F.run A outer s H args us vs Q E (hr.mono h)⟩
section
variable {X : Cx} {pins : List (Addr × Obj)} {σ : St} {H : Hp} {s s' : Shared}
/-- from a body: what a callee wants -/
theorem Inv.env0 (I : Inv X pins σ H s) : Env0 X.prog X.w X.K X.mg X.base X.A X.stack s H :=
  ⟨I.ok.frames, I.ok.mod, I.bs, Nat.le_trans I.ok.bsz I.sz, I.stack, I.stkFree, I.hok, I.bare⟩
/-- behind a call -/
theorem Inv.after {Q : VK} {u : Value} (I : Inv X pins σ H s) (h : CE X.stack X.prog X.w H s Q u s') : EP X pins σ Q u s' := by
  obtain ⟨v, H', os, bare, un, hok, r, q⟩ := h
  obtain ⟨hh, g, d, t, os'⟩ := s'
  obtain rfl : os' = s.os := os
  exact ⟨v, H', I.call (h' := hh) (g' := g) (d' := d) (t' := t) (ch := []) un hok bare (fun b z => absurd z (by simp)), r, q⟩
end

/-! ### calls -/
/-- f(..): the written arguments, then the defaults dvs; E: what is wanted of an exception -/
def tCall (sp : Sp) (dvs : List V) (E : XK) (t : TA) : TE := fun σ H Q => t σ H fun vs H1 => sp (vs ++ dvs) H1 Q E
/-- o.m(..) of an instance of the class at C -/
def tMeth (C : Addr) (m : Str) (sp : Sp) (dvs : List V) (E : XK) (ta : TE) (t : TA) : TE := fun σ H Q => ta σ H fun x H1 => ∃ a dx fs, x = .ref a ∧ H1 a = some (.ins C dx fs) ∧ fs.lookup m = none ∧
  t σ H1 fun vs H2 => sp (x :: (vs ++ dvs)) H2 Q E
/-- C(..): a new instance and its dict, then __init__ -/
def tMake (C : Addr) (sp : Sp) (dvs : List V) (E : XK) (t : TA) : TE := fun σ H Q => t σ H fun vs H1 => ∀ x dx, H1 x = none → H1 dx = none → dx ≠ x →
  sp (.ref x :: (vs ++ dvs)) (upd (upd H1 dx (.own x)) x (.ins C dx [])) (fun v H2 => v = .non ∧ Q (.ref x) H2) E

/-- how the parameters are bound: us the positional arguments, kw the keywords' values by name, ds the defaults that fill up -/
def Binds (K : PySem.W.Frag) (fd : FuncData) (ps : List Str) (ds : List Value) : Prop :=
  ∀ (s : Shared) (us : List Value), K.In s.heap → (us ++ ds).length = ps.length → BindsTo s fd ⟨us, []⟩ (ps.zip (us ++ ds))
/-- every parameter is given -/
theorem Binds.all {K : PySem.W.Frag} {fd : FuncData} {ps : List Str} (h : ∀ us : List Value, us.length = ps.length → bindArgs fd ⟨us, []⟩ = pure (ps.zip us)) : Binds K fd ps [] := fun s us _ hl => by
  rw [List.append_nil] at hl ⊢
  exact .of_eq (h us hl)

/-- an exception of a callee reaches what this body wants of exceptions -/
def Passes (CX : CXT) (X : Cx) (E : XK) : Prop := ∀ (pins : List (Addr × Obj)) (σ : St) (H : Hp) (s : Shared) (e : Value) (s' : Shared), Inv X pins σ H s → CX X.stack H s E e s' → X.xe e s'

section
variable {X : Cx} {CX : CXT} {k : Nat} {f C : Addr} {fd : FuncData} {ps : List Str} {sp : Sp} {dvs : List V} {ds : List Value} {E : XK} {x m : Str} {p pos apos : Pos} {e o : Expr} {es : List Expr} {ta : TE} {t : TA}

/-- the callee runs -/
theorem run_fn {pins : List (Addr × Obj)} {σ : St} {H : Hp} {s : Shared} {Q : VK} {us : List Value} {vs : List V} (F : FnOk X.prog X.w X.K X.mg X.base CX k f fd ps sp) (hr : Room k X.A) (hb : Binds X.K fd ps ds) (hd : Vals dvs ds) (hx : Passes CX X E)
    (I : Inv X pins σ H s) (r : Vals vs us) (h : sp (vs ++ dvs) H Q E) : wpAny (model X.prog X.w) X.A (call (.ref f) us) (EP X pins σ Q) X.xe s := by
  have r2 : Vals (vs ++ dvs) (us ++ ds) := r.append hd
  have hl : (us ++ ds).length = ps.length := by rw [← r2.length]; exact F.len _ _ _ _ h
  refine wpAny_call (codeAny_mono (F.run X.A X.stack s H ⟨us, []⟩ (us ++ ds) (vs ++ dvs) Q E hr I.env0 (hb s us I.kIn hl) r2 h) fun r s' hq => ?_)
  cases r with
  | error e => exact hx pins σ H s e s' I hq
  | ok fl =>
    cases fl with
    | ret u => exact I.after hq
    | next => exact False.elim hq
    | brk => exact False.elim hq
    | cont => exact False.elim hq

theorem pe_call (F : FnOk X.prog X.w X.K X.mg X.base CX k f fd ps sp) (hr : Room k X.A) (hg : Gl X x) (hm : X.mg x = some (.ref f)) (hk : PySem.W.keepIn X.K (.ref f) = true) (hb : Binds X.K fd ps ds) (hd : Vals dvs ds) (hx : Passes CX X E)
    (ha : PA X (e :: es) t) (hdb : (x == ("__debug__" : Str)) = false := by decide) (he : starEach (e :: es) X.env = (false, eval e X.env) :: starEach es X.env := by rfl) (hpl : (backTo pos (starEach es X.env)).any (·.1) = false := by rfl) :
    PE X (.Call (.Name x p) (e :: es) [] pos) (tCall sp dvs E t) := by
  intro pins s σ H Q I h
  refine wpAny_Call_Name_kw (ld_glob I hg hm ?_ hdb)
  refine PySem.W.callWith_K (h₀ := X.base) I.ok.mod.kin hk (thn (ha pos pins s σ H _ I h) fun us s1 ⟨vs, H1, I1, r, q⟩ => ⟨I1.kIn, ?_⟩) he hpl
  exact run_fn F hr hb hd hx I1 r q
/-- what a class must have to be made -/
structure Mk (K : PySem.W.Frag) (C f : Addr) : Prop where
  makes : PySem.W.makesIn K C = true
  init : PySem.W.findIn K (.ref C) "__init__" = some (some (.ref f))
  fn : PySem.W.isFn K (.ref f) = true
  kp : PySem.W.keepIn K (.ref C) = true

end

/-! ### keywords -/
/-- the values of the keywords, from the left -/
def PK (X : Cx) (kws : List Keyword) (t : TA) : Prop :=
  ∀ (pos : Pos) (pins : List (Addr × Obj)) (s : Shared) (σ : St) (H : Hp) (Q : List V → Hp → Prop), Inv X pins σ H s → t σ H Q → wpAny (model X.prog X.w) X.A (evalAll ((backToKw pos (keywordEach kws X.env)).map (·.2))) (AP X pins σ Q) X.xe s
section
variable {X : Cx} {CX : CXT} {k : Nat} {f C : Addr} {fd : FuncData} {ps ks : List Str} {sp : Sp} {E : XK} {x m : Str} {p pos apos kpos : Pos} {e o : Expr} {es : List Expr} {kws : List Keyword} {te ta : TE} {t tk : TA} {nm : Option Str}
/-- how a call with keywords binds: g puts the positional values us and the keywords' values ws (names ks) in the parameters' order, defaults among them -/
structure KBinds (K : PySem.W.Frag) (fd : FuncData) (ps ks : List Str) (g : List Value → List Value → List Value) (gV : List V → List V → List V) : Prop where
  to : ∀ (s : Shared) (us ws : List Value), K.In s.heap → (g us ws).length = ps.length → BindsTo s fd ⟨us, ks.zip ws⟩ (ps.zip (g us ws))
  rel : ∀ {vs : List V} {us : List Value} {zs : List V} {ws : List Value}, Vals vs us → Vals zs ws → Vals (gV vs zs) (g us ws)
def tCallK (sp : Sp) (gV : List V → List V → List V) (E : XK) (t tk : TA) : TE := fun σ H Q => t σ H fun vs H1 => tk σ H1 fun zs H2 => sp (gV vs zs) H2 Q E
variable {g : List Value → List Value → List Value} {gV : List V → List V → List V}
end

/-! ### a def's body keeps its promise -/
/-- names: the parameters first -/
structure FnScope (N P : List Str) (sc : Scope) : Prop where
  kind : sc.kind = .function
  co : sc.isCoroutine = false
  gen : sc.isGenerator = false
  nd : N.Nodup
  pre : N.take P.length = P
  par : ∀ x ∈ P, sc.names.lookup x = some .local ∨ sc.names.lookup x = some .cell
  nofree : ∀ y ∈ sc.names, y.2 ≠ .free

theorem bindL_out {kindOf : Str → Option NameKind} {x : Str} : ∀ {binds : List (Str × Value)} {m : Str → Option Value}, (∀ v, (x, v) ∉ binds) → bindL kindOf binds m x = m x
  | [], _, _ => rfl
  | (n, v) :: r, m, h => by
    unfold bindL
    rw [bindL_out fun w hw => h w (List.mem_cons_of_mem _ hw)]
    split
    · have : x ≠ n := by rintro rfl; exact h v List.mem_cons_self
      simp [this]
    · rfl
theorem bindC_out {kindOf : Str → Option NameKind} {x : Str} : ∀ {binds : List (Str × Value)} {m : Str → Option Value}, (∀ v, (x, v) ∉ binds) → bindC kindOf binds m x = m x
  | [], _, _ => rfl
  | (n, v) :: r, m, h => by
    unfold bindC
    rw [bindC_out fun w hw => h w (List.mem_cons_of_mem _ hw)]
    split
    · rfl
    · have : x ≠ n := by rintro rfl; exact h v List.mem_cons_self
      simp [this]
theorem bindL_get {kindOf : Str → Option NameKind} {x : Str} {v : Value} : ∀ {P : List Str} {vs : List Value} {i : Nat} {m : Str → Option Value}, P.Nodup → P[i]? = some x → vs[i]? = some v → kindOf x = some .local →
    bindL kindOf (P.zip vs) m x = some v
  | [], _, _, _, _, h, _, _ => by simp at h
  | _ :: _, [], _, _, _, _, h, _ => by simp at h
  | p :: P, w :: vs, 0, m, nd, h1, h2, hk => by
    simp at h1 h2; subst h1; subst h2
    show bindL kindOf ((p, w) :: P.zip vs) m p = _
    unfold bindL
    rw [bindL_out fun v hv => (List.nodup_cons.mp nd).1 (List.of_mem_zip hv).1, if_pos hk]
    simp
  | p :: P, w :: vs, i + 1, m, nd, h1, h2, hk => by
    show bindL kindOf ((p, w) :: P.zip vs) m x = _
    unfold bindL
    exact bindL_get (i := i) (List.nodup_cons.mp nd).2 (by simpa using h1) (by simpa using h2) hk
theorem bindC_get {kindOf : Str → Option NameKind} {x : Str} {v : Value} : ∀ {P : List Str} {vs : List Value} {i : Nat} {m : Str → Option Value}, P.Nodup → P[i]? = some x → vs[i]? = some v → kindOf x ≠ some .local →
    bindC kindOf (P.zip vs) m x = some v
  | [], _, _, _, _, h, _, _ => by simp at h
  | _ :: _, [], _, _, _, _, h, _ => by simp at h
  | p :: P, w :: vs, 0, m, nd, h1, h2, hk => by
    simp at h1 h2; subst h1; subst h2
    show bindC kindOf ((p, w) :: P.zip vs) m p = _
    unfold bindC
    rw [bindC_out fun v hv => (List.nodup_cons.mp nd).1 (List.of_mem_zip hv).1, if_neg hk]
    simp
  | p :: P, w :: vs, i + 1, m, nd, h1, h2, hk => by
    show bindC kindOf ((p, w) :: P.zip vs) m x = _
    unfold bindC
    exact bindC_get (i := i) (List.nodup_cons.mp nd).2 (by simpa using h1) (by simpa using h2) hk

/-- the names' values at the entry -/
def start (N : List Str) (vs : List V) : St := vs.map some ++ List.replicate (N.length - vs.length) none

/-- the context of a def's body, at its entry; an exception leaves the frame, then lies as CX says -/
def cxOf (CX : CXT) (P : Program) (w : World) (K : PySem.W.Frag) (mg : Str → Option Value) (base : Heap) (N : List Str) (qual : Str) (scope : Scope) (f : Addr) (cd : Value) (A : Around) (outer : List Env) (s : Shared) (H : Hp) (E : XK) : Cx where
  prog := P
  w := w
  K := K
  mg := mg
  base := base
  A := A.deeper (envOfC qual scope s.heap.objs.size f cd)
  N := N
  s₀ := s
  H₀ := H
  env := envOfC qual scope s.heap.objs.size f cd
  outer := outer
  stack := envOfC qual scope s.heap.objs.size f cd :: outer
  ex := []
  calm := true
  fn := fun _ => true
  pn := []
  xe := fun e s' => wpAny (model P w) (A.deeper (envOfC qual scope s.heap.objs.size f cd)) (leaving (envOfC qual scope s.heap.objs.size f cd) e) (fun _ s'' => CX outer H s E e s'') (fun e' s'' => CX outer H s E e' s'') s'

theorem cell_has {sc : Scope} {n : Nat} {x : Str} (h : sc.names.lookup x = some .cell) : ∃ c, (cellsFrom n sc.names []).lookup x = some c := by
  have q := PySem.W.cellsFrom_some sc.names n [] (.inl h)
  exact Option.isSome_iff_exists.mp q

theorem inv_start {CX : CXT} {P : Program} {w : World} {K : PySem.W.Frag} {mg : Str → Option Value} {base : Heap} {N ps : List Str} {qual : Str} {scope : Scope} {f : Addr} {cd : Value} {A : Around} {outer : List Env} {s s1 : Shared} {H : Hp} {E : XK} {us : List Value} {vs : List V}
    (S : FnScope N ps scope) (hd : A.handled = none) (e0 : Env0 P w K mg base A outer s H) (hl : vs.length = ps.length) (r : Vals vs us)
    (x : InCallC s s.heap.objs.size (bindL (envOfC qual scope s.heap.objs.size f cd).kindOf (ps.zip us) fun _ => none) (cellsFrom (s.heap.objs.size + 1) scope.names []) (bindC (envOfC qual scope s.heap.objs.size f cd).kindOf (ps.zip us) fun _ => none) s1) :
    Inv (cxOf CX P w K mg base N qual scope f cd A outer s H E) [] (start N vs) H s1 := by
  have hpl : ps.length ≤ N.length := by have := congrArg List.length S.pre; rw [List.length_take] at this; omega
  obtain ⟨h1, tk, rfl, hk⟩ := x.done
  have noA : ∀ b : Addr, b ∉ (cxOf CX P w K mg base N qual scope f cd A outer s H E).ex := fun b z => absurd (show b ∈ ([] : List Addr) from z) (by simp)
  refine ⟨⟨e0.mod, S.kind, rfl, rfl, Nat.le_refl _, fun y z c h1 h2 => ?_, fun y hy => ?_, fun y c _ h => ?_, fun _ => hd, Around.frames_deeper e0.frames, .inr ⟨rfl, rfl⟩, fun b z => absurd z (noA b), e0.bs, e0.bsz, fun b _ _ => noA b, fun b z => absurd z (noA b), e0.funs, e0.frf⟩,
    rfl, e0.bare, Un.kept hk, ⟨_, x.toInCall.ns, fun i y v h1 h2 h3 => ?_⟩, fun y c h => ⟨_, x.cell y c h⟩, e0.hok.fresh (Nat.le_refl _), fun y c h => ?_, fun p hp => absurd (show p ∈ ([] : List (Addr × Obj)) from hp) (by simp), e0.hok.kept hk, ?_⟩
  · exact name_of_addr x.apart (PySem.mem_of_lookup h1) (PySem.mem_of_lookup h2)
  · have hy : scope.names.lookup y = some .cell ∨ scope.names.lookup y = some .free := hy
    rcases hy with hy | hy
    · exact cell_has hy
    · exact absurd rfl (S.nofree _ (PySem.mem_of_lookup hy))
  · exact Nat.le_of_lt (x.above y c (PySem.mem_of_lookup h))
  · have hi : i < vs.length := by
      unfold start at h2
      by_cases hi : i < vs.length
      · exact hi
      · rw [List.getElem?_append_right (by simpa using hi)] at h2
        rw [List.getElem?_replicate] at h2
        split at h2 <;> cases h2
    have ha : vs[i]? = some v := by
      unfold start at h2
      rw [List.getElem?_append_left (by simpa using hi), List.getElem?_map] at h2
      cases e : vs[i]? with
      | none => rw [e] at h2; cases h2
      | some a => rw [e] at h2; cases h2; rfl
    obtain ⟨u, hu, rv⟩ := r.get ha
    have hp : ps[i]? = some y := by
      rw [← S.pre, List.getElem?_take_of_lt (by omega)]; exact h1
    have ndP : ps.Nodup := by rw [← S.pre]; exact S.nd.sublist (List.take_sublist _ _)
    refine ⟨u, rv, ?_⟩
    rcases S.par y (List.mem_of_getElem? hp) with k | k
    · exact .inl ⟨k, bindL_get ndP hp hu k⟩
    · obtain ⟨c, e⟩ := cell_has (n := s.heap.objs.size + 1) k
      refine .inr ⟨.inl k, c, e, ?_⟩
      have q := x.cell y c e
      rw [bindC_get ndP hp hu (by show scope.names.lookup y ≠ _; rw [k]; decide)] at q
      exact q
  · exact e0.hok.fresh (Nat.le_of_lt (x.above y c (PySem.mem_of_lookup h)))
  · unfold start
    show _ = N.length
    rw [List.length_append, List.length_map, List.length_replicate]
    omega

/-- THE RULE: a def (or a method) of the text, by its body. The body's reading t is chosen for each entry; it is run at the parameters' values -/
theorem fn_of {CX : CXT} {P : Program} {w : World} {K : PySem.W.Frag} {mg : Str → Option Value} {base : Heap} {k : Nat} {f : Addr} {name qual : Str} {params : Arguments} {body : List Stmt} {scope : Scope} {dV kV doc pm cdv ct oc : Value} {an od : Option Addr}
    {osl : Array (Option Value)} {N ps : List Str} {sp : Sp} (lk : K.lookup f = some ⟨oc, od, .func (PySem.W.fnOf name qual params body scope dV kV doc pm an cdv ct), osl⟩) (hcd : PySem.W.codeIn K cdv qual = true) (S : FnScope N ps scope)
    (len : ∀ vs H Q E, sp vs H Q E → vs.length = ps.length)
    (hbody : ∀ (A : Around) (outer : List Env) (s : Shared) (H : Hp) (vs : List V) (Q : VK) (E : XK), Room k (A.deeper (envOfC qual scope s.heap.objs.size f cdv)) → sp vs H Q E →
      ∃ t, PSs (cxOf CX P w K mg base N qual scope f cdv A outer s H E) body t ∧ t { nx := fun _ H' => Q .non H', rt := Q } (start N vs) H) :
    FnOk P w K mg base CX (k + 1) f (PySem.W.fnOf name qual params body scope dV kV doc pm an cdv ct) ps sp := by
  refine ⟨len, fun A outer s H args us vs Q E hr e0 hb r hsp => ?_⟩
  have hl := len _ _ _ _ hsp
  have KX : K.In s.heap := e0.mod.kin.keeps fun b o e => (e0.bs b o e).1
  have lim : s.heap.NoLimit := e0.mod.nolimit.keeps fun b o e => (e0.bs b o e).1
  have hkind : ∀ y ∈ ps.zip us, scope.names.lookup y.1 = some .local ∨ (scope.names.lookup y.1 = some .cell ∧ ((cellsFrom (s.heap.objs.size + 1) scope.names []).lookup y.1).isSome = true) := fun ⟨n, v⟩ hy => by
    rcases S.par n (List.of_mem_zip hy).1 with q | q
    · exact .inl q
    · exact .inr ⟨q, PySem.W.cellsFrom_some _ _ _ (.inl q)⟩
  refine codeAny_call_function hr.depth (KX _ _ lk) rfl S.co S.gen rfl (PySem.W.codeRec_of KX hcd) (hb _ _ _ _ ?_)
  refine wpAny_newFunctionEnv_cells S.kind hkind fun env he s1 x => ?_
  subst he
  refine ⟨lim.keeps x.toInCall.keep, codeAny_func ?_⟩
  obtain ⟨t, ht, hq⟩ := hbody A outer s H vs Q E (hr.deeper _) hsp
  have I : Inv (cxOf CX P w K mg base N qual scope f cdv A outer s H E) [] (start N vs) H s1 := inv_start S hr.hd e0 hl r x
  refine wpAny_mono (ht [] s1 (start N vs) H _ I hq) (fun fl s' hs => ?_) fun e s' hs => hs
  have fin : ∀ {σ' : St} {H' : Hp} {v : V} {u : Value}, Inv (cxOf CX P w K mg base N qual scope f cdv A outer s H E) [] σ' H' s' → RelV v u → Q v H' → CE outer P w H s Q u s' :=
    fun {σ' H' v u} J rv q => ⟨v, H', J.os, J.bare, J.base, J.hok, rv, q⟩
  cases fl with
  | ret u =>
    obtain ⟨v, σ', H', J, rv, q⟩ := hs
    exact fin J rv q
  | next =>
    obtain ⟨σ', H', J, q⟩ := hs
    exact fin (v := V.non) (u := Value.none) J rfl q
  | brk =>
    obtain ⟨_, _, _, q⟩ := hs
    exact False.elim q
  | cont =>
    obtain ⟨_, _, _, q⟩ := hs
    exact False.elim q
end L2

namespace L2
open PySem PySem.Spec PyProof.Rows
section
variable {X : Cx} {x : Str} {p pos : Pos} {e : Expr} {es : List Expr} {t : TA} {id T : String} {r : List V → Hp → VK → Prop}

def tCB (r : List V → Hp → VK → Prop) (t : TA) : TE := fun σ H Q => t σ H fun vs H1 => r vs H1 Q
/-- f(e, ..), f a built-in function -/
theorem pe_callB (hc : CallR X (.builtin id) r) (hg : Gl X x) (hm : X.mg x = none) (hv : bootBuiltins x = some (.builtin id)) (ha : PA X (e :: es) t) (hn : x ≠ "__name__" := by decide) (hdb : (x == ("__debug__" : Str)) = false := by decide)
    (he : starEach (e :: es) X.env = (false, eval e X.env) :: starEach es X.env := by rfl) (hpl : (backTo pos (starEach es X.env)).any (·.1) = false := by rfl) : PE X (.Call (.Name x p) (e :: es) [] pos) (tCB r t) := by
  intro pins s σ H Q I h
  refine wpAny_Call_Name_kw (ld_blt I hg hm hv ?_ hn hdb)
  exact PyProof.Rows.callWith_builtin1 (thn (ha pos pins s σ H _ I h) fun us s1 ⟨vs, H1, I1, r1, q1⟩ => hc pins s1 σ H1 vs us Q I1 r1 q1) he hpl
/-- T(e, ..), T a built-in type -/
theorem pe_callTy (hc : CallR X (.type T) r) (hg : Gl X x) (hm : X.mg x = none) (hv : bootBuiltins x = some (.type T)) (ha : PA X (e :: es) t) (hn : x ≠ "__name__" := by decide) (hdb : (x == ("__debug__" : Str)) = false := by decide)
    (he : starEach (e :: es) X.env = (false, eval e X.env) :: starEach es X.env := by rfl) (hpl : (backTo pos (starEach es X.env)).any (·.1) = false := by rfl) : PE X (.Call (.Name x p) (e :: es) [] pos) (tCB r t) := by
  intro pins s σ H Q I h
  refine wpAny_Call_Name_kw (ld_blt I hg hm hv ?_ hn hdb)
  exact PyProof.Rows.callWith_type1 (thn (ha pos pins s σ H _ I h) fun us s1 ⟨vs, H1, I1, r1, q1⟩ => hc pins s1 σ H1 vs us Q I1 r1 q1) he hpl
end
end L2

namespace HT
open PySem PyProof.Rows

/-- t < u of tuples of ints -/
def lexLt : List Int → List Int → Bool
  | [], [] => false
  | [], _ :: _ => true
  | _ :: _, [] => false
  | x :: xs, y :: ys => if x = y then lexLt xs ys else decide (x < y)
section
open PySem.SeqAt
open PySem.AutoSeq1 (wpAny_loadPart')
open PySem.MeetsSeq PySem.MeetsSeq2 PySem.MeetsSeq3

end

section
variable {prog : Program} {w : World} {A : Around} {E : Value → Shared → Prop} {s : Shared}

/-- t + u, t not empty -/
theorem cat_tup {t b : Addr} {vs ws : List Value} {Q : Value → Shared → Prop} (ht : IsTup s.heap t vs.toArray) (hb : IsTup s.heap b ws.toArray) (hv : vs ≠ [])
    (h1 : ws = [] → Q (.ref t) s) (h2 : ws ≠ [] → Q (.ref s.heap.objs.size) { s with heap := s.heap.push { cls := .type "tuple", data := .seq (vs ++ ws).toArray } })
    (hsz : vs.length + ws.length ≤ sizeLine) : wpAny (model prog w) A (binaryOp .Add (.ref t) (.ref b)) Q E s := by
  obtain ⟨⟨cls, dd, data, sl⟩, ho, hc, n, hd⟩ := id ht
  obtain ⟨⟨cls2, dd2, data2, sl2⟩, ho2, hc2, n2, hd2⟩ := id hb
  simp only at hc hd hc2 hd2
  subst hc hd hc2 hd2
  have e : vs.toArray ++ ws.toArray = (vs ++ ws).toArray := by simp
  by_cases hw : ws = []
  · exact concat_meets ⟨_, ho, rfl⟩ ⟨_, ho2, rfl⟩ noFill_tuple_add seq_tuple_add PySem.F.slot_tuple_add PySem.F.entry_tuple_add (PySem.F.args_tuple_add_2 _ _)
      (tuple_addW1 t b vs.toArray ws.toArray n n2 dd dd2 sl sl2 (by simpa using hv) (by simp [hw])) ⟨ho, ho2, h1 hw⟩
  · refine concat_meets ⟨_, ho, rfl⟩ ⟨_, ho2, rfl⟩ noFill_tuple_add seq_tuple_add PySem.F.slot_tuple_add PySem.F.entry_tuple_add (PySem.F.args_tuple_add_2 _ _)
      (tuple_addW2 t b vs.toArray ws.toArray n n2 dd dd2 sl sl2 (by simpa using hv) (by simpa using hw) (by rw [List.size_toArray, List.size_toArray]; exact hsz)) ⟨ho, ho2, ?_⟩
    rw [e]
    exact h2 hw

/-! ### t[a:b], not the whole -/
/-- a slice's bound as a place among n (d where it is left out) -/
def sIx (n d : Nat) : Option Int → Nat
  | none => d
  | some v => if v < 0 then (v + (n : Int)).toNat else min v.toNat n
theorem sIx_none (n d : Nat) : sIx n d none = d := rfl
theorem sIx_nat (n d k : Nat) : sIx n d (some (k : Int)) = min k n := by
  show (if (k : Int) < 0 then ((k : Int) + (n : Int)).toNat else min (k : Int).toNat n) = min k n
  rw [if_neg (by omega), Int.toNat_natCast]
theorem sIx_le (n d : Nat) (hd : d ≤ n) (o : Option Int) : sIx n d o ≤ n := by
  cases o with
  | none => exact hd
  | some v =>
    show (if v < 0 then (v + (n : Int)).toNat else min v.toNat n) ≤ n
    by_cases hv : v < 0
    · rw [if_pos hv]; omega
    · rw [if_neg hv]; exact Nat.min_le_right _ _
theorem clip_eq (v : Int) (n d : Nat) : (if v < 0 then max (v + (n : Int)) 0 else min v (n : Int)) = ((sIx n d (some v) : Nat) : Int) := by
  show (if v < 0 then max (v + (n : Int)) 0 else min v (n : Int)) = (((if v < 0 then (v + (n : Int)).toNat else min v.toNat n) : Nat) : Int)
  by_cases hv : v < 0
  · simp only [if_pos hv]; omega
  · simp only [if_neg hv]; omega
theorem adjust_gen (lo hi : Option Int) (n : Nat) : Builtin.Slice.sliceAdjust lo hi 1 (n : Int) = (((sIx n 0 lo : Nat) : Int), ((sIx n n hi : Nat) : Int)) := by
  have h1 : ¬ ((1 : Int) < 0) := by omega
  unfold Builtin.Slice.sliceAdjust
  simp only [h1, if_false]
  refine Prod.ext ?_ ?_
  · cases lo with
    | none => rfl
    | some v => exact clip_eq v n 0
  · cases hi with
    | none => rfl
    | some v => exact clip_eq v n n
theorem places_gen (i j : Nat) : Builtin.Slice.slicePlaces (i : Int) (j : Int) 1 = j - i := by
  unfold Builtin.Slice.slicePlaces
  have h1 : (1 : Int) > 0 := by omega
  simp only [h1, if_true, Int.ediv_one]
  split <;> omega
theorem slicePart_ {v : Value} {o : Option Int} {Q : Option Int → Shared → Prop} (p : IsPart v o) (h : Q o s) : wpAny (model prog w) A (Builtin.Slice.slicePartIndex v) Q E s := by
  cases p with
  | none => exact slicePart_none h
  | int i t => exact slicePart_int h
theorem sliceApplied_gen {sl : Addr} {vl vu : Value} {lo hi : Option Int} {n : Nat} {Q : Int × Int × Nat → Shared → Prop} (hs : s.heap.IsSliceOf sl vl vu .none) (pl : IsPart vl lo) (pu : IsPart vu hi)
    (h : Q (((sIx n 0 lo : Nat) : Int), 1, sIx n n hi - sIx n 0 lo) s) : wpAny (model prog w) A (Builtin.Slice.sliceApplied (.ref sl) (pure (n : Int))) Q E s := by
  obtain ⟨os, hos, hcs, hds⟩ := id hs
  unfold Builtin.Slice.sliceApplied Builtin.Slice.sliceFields
  refine wpAny_bind (wpAny_bind (wpAny_field hos hds (x := vl) rfl (wpAny_bind (wpAny_field hos hds (x := vu) rfl (wpAny_bind (wpAny_field hos hds (x := .none) rfl (wpAny_pure ?_)))))))
  refine wpAny_bind (slicePart_none ?_)
  show wpAny _ _ (if ((1 : Int) == 0) = true then _ else _) _ _ s
  rw [if_neg (by decide)]
  refine wpAny_bind (slicePart_ pl (wpAny_bind (slicePart_ pu (wpAny_bind (wpAny_pure ?_)))))
  show wpAny _ _ (match Builtin.Slice.sliceAdjust lo hi 1 (n : Int) with | (lo, hi) => pure (lo, (1 : Int), Builtin.Slice.slicePlaces lo hi 1)) _ _ s
  rw [adjust_gen lo hi n]
  show wpAny _ _ (pure (((sIx n 0 lo : Nat) : Int), (1 : Int), Builtin.Slice.slicePlaces ((sIx n 0 lo : Nat) : Int) ((sIx n n hi : Nat) : Int) 1)) _ _ s
  rw [places_gen]
  exact wpAny_pure h
theorem pick_gen (xs : Array Value) (i k : Nat) : ((List.range k).filterMap fun (m : Nat) => xs[((i : Int) + (m : Int) * 1).toNat]?).toArray = ((xs.toList.drop i).take k).toArray := by
  have e : (fun (m : Nat) => xs[((i : Int) + (m : Int) * 1).toNat]?) = fun m => xs[i + m]? := by
    funext m
    have : ((i : Int) + (m : Int) * 1).toNat = i + m := by omega
    rw [this]
  rw [e]
  have := pick_run xs i k
  rw [List.filterMap_map] at this
  have e2 : ((fun x => xs[x]?) ∘ fun x => i + x) = fun m => xs[i + m]? := rfl
  rw [e2] at this
  rw [this]

theorem getItem_tuple_cut {t sl : Addr} {items : Array Value} {vl vu : Value} {lo hi : Option Int} {Q : Value → Shared → Prop} (ht : IsTup s.heap t items) (hs : s.heap.IsSliceOf sl vl vu .none) (pl : IsPart vl lo) (pu : IsPart vu hi)
    (hw : ¬ (sIx items.size 0 lo = 0 ∧ sIx items.size items.size hi = items.size))
    (h : Q (.ref s.heap.objs.size) { s with heap := s.heap.push { cls := .type "tuple", data := .seq ((items.toList.drop (sIx items.size 0 lo)).take (sIx items.size items.size hi - sIx items.size 0 lo)).toArray } })
    (hsz : items.size ≤ sizeLine) : wpAny (model prog w) A (getItem (.ref t) (.ref sl)) Q E s := by
  have htake : sizeOk (.seq ((items.toList.drop (sIx items.size 0 lo)).take (sIx items.size items.size hi - sIx items.size 0 lo)).toArray) := by
    show ((items.toList.drop (sIx items.size 0 lo)).take (sIx items.size items.size hi - sIx items.size 0 lo)).toArray.size ≤ sizeLine
    rw [List.size_toArray, List.length_take, List.length_drop, Array.length_toList]
    omega
  have hj : sIx items.size items.size hi ≤ items.size := sIx_le _ _ (Nat.le_refl _) hi
  obtain ⟨os, hos, hcs, hds⟩ := id hs
  have hTs : s.TypeIs (.ref sl) "slice" := ⟨os, hos, hcs⟩
  unfold getItem
  try with_reducible refine wpAny_holding ?_
  first | refine wpAny_bind (wpAny_pure ?_) | skip
  refine wpAny_bind (wpAny_sequenceKey ht.typeIs (by decide) ?_)
  refine wpAny_bind (wpAny_callSpecial?_slot (name := Str.ofString "__getitem__") ht.typeIs PyProof.Rows.slot_tuple_getitem
    (wpAny_call_entry PyProof.Rows.slot_tuple_getitem ht.typeIs entry_tuple_getitem ?_ (args_tuple_getitem _ _)))
  show wpAny _ _ (Builtin.Tuple.tupleItemsOf (.ref t) >>= _) _ _ s
  refine wpAny_bind (tupleItemsOf_ ht ?_)
  refine wpAny_bind (wpAny_typeOf hTs ?_)
  rw [if_pos (by decide)]
  refine wpAny_bind (sliceApplied_gen hs pl pu ?_)
  have hno : ¬ ((((sIx items.size 0 lo : Nat) : Int) == 0 && (1 : Int) == 1 && (sIx items.size items.size hi - sIx items.size 0 lo) == items.size) = true) := by
    intro q
    rw [Bool.and_eq_true, Bool.and_eq_true] at q
    have q1 : ((sIx items.size 0 lo : Nat) : Int) = 0 := eq_of_beq q.1.1
    have q2 : sIx items.size items.size hi - sIx items.size 0 lo = items.size := eq_of_beq q.2
    exact hw ⟨by omega, by omega⟩
  show wpAny _ _ (if (((sIx items.size 0 lo : Nat) : Int) == 0 && (1 : Int) == 1 && (sIx items.size items.size hi - sIx items.size 0 lo) == items.size) = true then _ else _) _ _ s
  rw [if_neg hno, pick_gen]
  first
    | exact wpAny_bind (m := Builtin.Tuple.tupleExact _) (wpAny_newObj_type (wpAny_pure ⟨_, rfl, wpAny_pure h⟩) htake)
    | exact wpAny_bind (m := Builtin.Tuple.tupleExact _) (wpAny_newObj_type (wpAny_bind (wpAny_pure (wpAny_pure ⟨_, rfl, wpAny_pure h⟩))) htake)
    | exact wpAny_bind (wpAny_bind (m := Builtin.Tuple.tupleExact _) (wpAny_newObj_type (wpAny_pure (wpAny_pure ⟨_, rfl, wpAny_pure h⟩)) htake))
    | exact wpAny_bind (wpAny_bind (m := Builtin.Tuple.tupleExact _) (wpAny_newObj_type (wpAny_pure ⟨_, rfl, wpAny_pure h⟩) htake))
end
end HT

namespace L2
open PySem PySem.Spec PyProof.Rows

/-! ### the parts of a slice -/
abbrev TO := St → Hp → (Option Int → Hp → Prop) → Prop
/-- a slice's part (left out, or an int) -/
def PO (X : Cx) (e : Option Expr) (t : TO) : Prop :=
  ∀ (pins : List (Addr × Obj)) (s : Shared) (σ : St) (H : Hp) (Q : Option Int → Hp → Prop), Inv X pins σ H s → t σ H Q →
    wpAny (model X.prog X.w) X.A (evalPart e X.env) (fun u s' => ∃ o H', Inv X pins σ H' s' ∧ IsPart u o ∧ Q o H') X.xe s
def tNoPart : TO := fun _ H Q => Q none H
def tPart (t : TE) : TO := fun σ H Q => t σ H fun x H1 => ∃ i, x = .int i ∧ Q (some i) H1

section
variable {X : Cx} {e : Expr} {te : TE} {lo hi : Option Expr} {tl th : TO} {pos p2 : Pos}

theorem po_none : PO X none tNoPart := by
  intro pins s σ H Q I h
  rw [evalPart_none]
  exact wpAny_pure ⟨none, H, I, .none, h⟩
theorem po_some (h : PE X e te) : PO X (some e) (tPart te) := by
  intro pins s σ H Q I hw
  rw [evalPart_some]
  refine thn (h pins s σ H _ I hw) fun u s1 ⟨x, H1, I1, r1, q1⟩ => ?_
  obtain ⟨i, rfl, q⟩ := q1
  obtain ⟨t, rfl⟩ := r1
  exact ⟨some i, H1, I1, .int i t, q⟩

/-- what a slice of a value is, by values: the slice object stands at sl -/
def SlR (X : Cx) (r : V → Option Int → Option Int → Hp → VK → Prop) : Prop :=
  ∀ (pins : List (Addr × Obj)) (s : Shared) (σ : St) (H : Hp) (x : V) (v vl vu : Value) (lo hi : Option Int) (sl : Addr) (Q : VK), Inv X pins σ H s → RelV x v → s.heap.IsSliceOf sl vl vu .none → IsPart vl lo → IsPart vu hi → r x lo hi H Q →
    ∃ T id, typeLookup (.type T) "__getitem__" = pure (some (.builtin id)) ∧ s.TypeIs v T ∧ wpAny (model X.prog X.w) X.A (getItem v (.ref sl)) (EP X pins σ Q) X.xe s
theorem SlR.or {r r' : V → Option Int → Option Int → Hp → VK → Prop} (h : SlR X r) (h' : SlR X r') : SlR X (fun x lo hi H Q => r x lo hi H Q ∨ r' x lo hi H Q) := by
  intro pins s σ H x v vl vu lo hi sl Q I rx hs pl pu q
  rcases q with q | q
  · exact h pins s σ H x v vl vu lo hi sl Q I rx hs pl pu q
  · exact h' pins s σ H x v vl vu lo hi sl Q I rx hs pl pu q
def tSl (r : V → Option Int → Option Int → Hp → VK → Prop) (te : TE) (tl th : TO) : TE := fun σ H Q => te σ H fun x H1 => tl σ H1 fun l H2 => th σ H2 fun u H3 => r x l u H3 Q
/-- a[lo:hi], any a -/
theorem pe_slice {r : V → Option Int → Option Int → Hp → VK → Prop} (hr : SlR X r) (he : PE X e te) (hl : PO X lo tl) (hu : PO X hi th) : PE X (.Subscript e (.Slice lo hi none p2) pos) (tSl r te tl th) := by
  intro pins s σ H Q I h
  refine Subscript_ (thn (he pins s σ H _ I h) fun v s1 ⟨x, H1, I1, r1, q1⟩ => ?_)
  refine wpAny_Slice (thn (hl pins s1 σ H1 _ I1 q1) fun vl s2 ⟨l, H2, I2, pl, q2⟩ => thn (hu pins s2 σ H2 _ I2 q2) fun vu s3 ⟨u, H3, I3, pu, q3⟩ => ?_)
  rw [evalPart_none]
  refine wpAny_pure ?_
  have I4 : Inv X pins σ H3 { s3 with heap := s3.heap.push { cls := .type "slice", data := .fields #[vl, vu, .none] } } := I3.kept (t' := s3.toks) fun b ob q => Heap.get?_push_of_some _ q
  obtain ⟨T, id, hT, ht, hg⟩ := hr pins { s3 with heap := s3.heap.push { cls := .type "slice", data := .fields #[vl, vu, .none] } } σ H3 x v vl vu l u s3.heap.objs.size Q I4 r1 (Heap.IsSliceOf.new ..) pl pu q3
  show wpAny (model X.prog X.w) X.A (subscriptTail e (.Slice lo hi none p2) v (.ref s3.heap.objs.size)) (EP X pins σ Q) X.xe { s3 with heap := s3.heap.push { cls := .type "slice", data := .fields #[vl, vu, .none] } }
  exact tail_any (ops := [.ref s3.heap.objs.size, v]) ht hT hg (by with_unfolding_all rfl)

/-- the items of xs[lo:hi] -/
def cutV (xs : List V) (lo hi : Option Int) : List V := (xs.drop (HT.sIx xs.length 0 lo)).take (HT.sIx xs.length xs.length hi - HT.sIx xs.length 0 lo)
theorem cutV_length (xs : List V) (lo hi : Option Int) : (cutV xs lo hi).length ≤ xs.length := by
  unfold cutV
  rw [List.length_take, List.length_drop]
  omega
/-- t[lo:hi], not the whole of it (the whole would be t itself) -/
def rSlT (K : PySem.W.Frag) : V → Option Int → Option Int → Hp → VK → Prop := fun x lo hi H Q => ∃ a xs, x = .ref a ∧ SqT K H a xs ∧
  ¬ (HT.sIx xs.length 0 lo = 0 ∧ HT.sIx xs.length xs.length hi = xs.length) ∧ ∀ p, H p = none → Q (.ref p) (upd H p (.tup (cutV xs lo hi)))
theorem sl_tup : SlR X (rSlT X.K) := by
  intro pins s σ H x v vl vu lo hi sl Q I rx hs pl pu h
  obtain ⟨a, xs, rfl, hx, hw, q⟩ := h
  cases rx
  obtain ⟨its, r, ht, hz⟩ := I.tuple hx
  have hlen : its.toArray.size = xs.length := by rw [List.size_toArray]; exact r.length.symm
  refine ⟨"tuple", _, PyProof.Rows.slot_tuple_getitem.lookup, ht.typeIs, ?_⟩
  refine HT.getItem_tuple_cut ht hs pl pu (by rw [hlen]; exact hw) ?_ (by rw [hlen]; exact hz)
  rw [hlen]
  refine ⟨.ref s.heap.objs.size, _, I.laid (t' := s.toks) (o := .tup (cutV xs lo hi)) (fun b ob q => Heap.get?_push_of_some _ q) (Nat.le_refl _) ?_, rfl, q _ (I.hok.fresh (Nat.le_refl _))⟩
  exact ⟨Nat.le_trans (cutV_length xs lo hi) hz, _, (r.drop (HT.sIx xs.length 0 lo)).take (HT.sIx xs.length xs.length hi - HT.sIx xs.length 0 lo), IsTup.new _ _⟩

/-! ### t < u, t + u -/
def rLtT (K : PySem.W.Frag) : R2 := fun x y H Q => ∃ a b ns ms, x = .ref a ∧ y = .ref b ∧ SqT K H a (ns.map V.int) ∧ SqT K H b (ms.map V.int) ∧ Q (.bl (HT.lexLt ns ms)) H
/-- t + u, t not empty: u empty gives t itself -/
def rCatT (K : PySem.W.Frag) : R2 := fun x y H Q => ∃ a b xs ys, x = .ref a ∧ y = .ref b ∧ SqT K H a xs ∧ SqT K H b ys ∧ xs ≠ [] ∧ xs.length + ys.length ≤ sizeLine ∧
  (ys = [] → Q (.ref a) H) ∧ (ys ≠ [] → ∀ p, H p = none → Q (.ref p) (upd H p (.tup (xs ++ ys))))
theorem Vals.nil_iff {xs : List V} {us : List Value} (r : Vals xs us) : us = [] ↔ xs = [] := by
  cases r with
  | nil => simp
  | cons _ _ => simp
theorem op_catT : OpR X (binaryOp .Add) (rCatT X.K) := by
  intro pins s σ H x y v u Q I rx ry h
  obtain ⟨a, b, xs, ys, rfl, rfl, ha, hb, hx, hz, q1, q2⟩ := h
  cases rx
  cases ry
  obtain ⟨its, r1, p1, _⟩ := I.tuple ha
  obtain ⟨its2, r2, p2, _⟩ := I.tuple hb
  refine HT.cat_tup p1 p2 (fun z => hx (r1.nil_iff.mp z)) (fun z => ⟨.ref a, H, I, rfl, q1 (r2.nil_iff.mp z)⟩) (fun z => ?_) (by rw [← r1.length, ← r2.length]; exact hz)
  refine ⟨.ref s.heap.objs.size, _, I.laid (t' := s.toks) (o := .tup (xs ++ ys)) (fun b ob q => Heap.get?_push_of_some _ q) (Nat.le_refl _) ?_, rfl, q2 (fun w => z (r2.nil_iff.mpr w)) _ (I.hok.fresh (Nat.le_refl _))⟩
  exact ⟨by rw [List.length_append]; exact hz, _, r1.append r2, IsTup.new _ _⟩
end
end L2

namespace L2
open PySem PySem.Spec PyProof.Rows

/-! ### places -/
/-- the place that an index of any sign means -/
def ixN (n : Nat) (i : Int) : Option Nat := if 0 ≤ i then (if i < n then some i.toNat else none) else if -(n : Int) ≤ i then some (i + n).toNat else none
def atI {α : Type} (xs : List α) (i : Int) : Option α := (ixN xs.length i).bind fun j => xs[j]?
theorem ixN_seq {n : Nat} {i : Int} {j : Nat} (h : ixN n i = some j) : seqIndex? i n = some j ∧ j < n ∧ -(n : Int) ≤ i ∧ i < n := by
  unfold ixN at h
  by_cases h0 : 0 ≤ i
  · rw [if_pos h0] at h
    by_cases h1 : i < n
    · rw [if_pos h1] at h
      have e : i.toNat = j := Option.some.inj h
      exact ⟨by rw [seqIndex_of h0 h1, e], by omega, by omega, h1⟩
    · rw [if_neg h1] at h; cases h
  · rw [if_neg h0] at h
    by_cases h1 : -(n : Int) ≤ i
    · rw [if_pos h1] at h
      have e : (i + n).toNat = j := Option.some.inj h
      exact ⟨by rw [seqIndex_neg (by omega) h1, e], by omega, h1, by omega⟩
    · rw [if_neg h1] at h; cases h
theorem atI_get {α : Type} {xs : List α} {i : Int} {v : α} (h : atI xs i = some v) : ∃ j, seqIndex? i xs.length = some j ∧ xs[j]? = some v ∧ j < xs.length ∧ -(xs.length : Int) ≤ i ∧ i < xs.length := by
  unfold atI at h
  cases e : ixN xs.length i with
  | none => rw [e] at h; cases h
  | some j =>
    rw [e] at h
    obtain ⟨h1, h2, h3, h4⟩ := ixN_seq e
    exact ⟨j, h1, h, h2, h3, h4⟩
theorem atI_nat {α : Type} {xs : List α} {j : Nat} {v : α} (h : xs[j]? = some v) : atI xs (j : Int) = some v := by
  have hj : j < xs.length := (List.getElem?_eq_some_iff.mp h).1
  have e : ixN xs.length (j : Int) = some j := by
    unfold ixN
    rw [if_pos (by omega), if_pos (by omega)]; simp
  unfold atI; rw [e]; exact h
/-! ### what may be subscripted -/
/-- what stands as an index of a plain subscript -/
def PlainIx (b : Expr) : Prop := ∀ o i, subscripted b false o i = operate [o, i] (getItem o i)
/-- a subscript by values -/
def IxR (X : Cx) (r : R2) : Prop :=
  ∀ (value slice : Expr) (pins : List (Addr × Obj)) (s : Shared) (σ : St) (H : Hp) (x y : V) (v u : Value) (Q : VK), Inv X pins σ H s → RelV x v → RelV y u → r x y H Q →
    subscripted slice false v u = operate [v, u] (getItem v u) → wpAny (model X.prog X.w) X.A (subscriptTail value slice v u) (EP X pins σ Q) X.xe s
/-- a call of a builtin's method by values: the receiver, the arguments -/
def MtR (X : Cx) (id : String) (r : V → List V → Hp → VK → Prop) : Prop :=
  ∀ (pins : List (Addr × Obj)) (s : Shared) (σ : St) (H : Hp) (x : V) (xs : List V) (v : Value) (us : List Value) (Q : VK), Inv X pins σ H s → RelV x v → Vals xs us → r x xs H Q →
    wpAny (model X.prog X.w) X.A (call (.builtin id) (v :: us)) (EP X pins σ Q) X.xe s
section
variable {X : Cx} {a b : Expr} {ta tb : TE} {pos : Pos}
theorem IxR.or {r r' : R2} (h : IxR X r) (h' : IxR X r') : IxR X (fun x y H Q => r x y H Q ∨ r' x y H Q) := by
  intro value slice pins s σ H x y v u Q I rx ry q hs
  rcases q with q | q
  · exact h value slice pins s σ H x y v u Q I rx ry q hs
  · exact h' value slice pins s σ H x y v u Q I rx ry q hs
theorem MtR.or {id : String} {r r' : V → List V → Hp → VK → Prop} (h : MtR X id r) (h' : MtR X id r') : MtR X id (fun x xs H Q => r x xs H Q ∨ r' x xs H Q) := by
  intro pins s σ H x xs v us Q I rx rs q
  rcases q with q | q
  · exact h pins s σ H x xs v us Q I rx rs q
  · exact h' pins s σ H x xs v us Q I rx rs q
/-- a[b] -/
theorem pe_ix {r : R2} (hr : IxR X r) (ha : PE X a ta) (hb : PE X b tb) (hs : PlainIx b) : PE X (.Subscript a b pos) (tOp r ta tb) := by
  intro pins s σ H Q I h
  exact Subscript_ (binT ha hb I h fun v u s2 x y H2 I2 rx ry q => hr a b pins s2 σ H2 x y v u Q I2 rx ry q (hs _ _))

def rIxL (K : PySem.W.Frag) : R2 := fun x y H Q => ∃ p xs i v, x = .ref p ∧ y = .int i ∧ SqL K H p xs ∧ atI xs i = some v ∧ Q v H
def rIxT (K : PySem.W.Frag) : R2 := fun x y H Q => ∃ p xs i v, x = .ref p ∧ y = .int i ∧ SqT K H p xs ∧ atI xs i = some v ∧ Q v H
def rIxS : R2 := fun x y H Q => ∃ z i c, x = .str z ∧ y = .int i ∧ z.length ≤ sizeLine ∧ atI z.cps.toList i = some c ∧ Q (.str ⟨#[c]⟩) H
theorem ix_list : IxR X (rIxL X.K) := by
  intro value slice pins s σ H x y v u Q I rx ry h hs
  obtain ⟨p, xs, i, z, rfl, rfl, hq, he, q⟩ := h
  cases rx
  obtain ⟨t, rfl⟩ := ry
  obtain ⟨its, r, pl, hz⟩ := I.list hq
  obtain ⟨j, h1, h2, h3, h4, h5⟩ := atI_get he
  obtain ⟨w, ew, rw'⟩ := r.get h2
  have hl := r.length
  have hn := line63
  have fin : EP X pins σ Q w s := ⟨z, H, I, rw', q⟩
  by_cases h0 : 0 ≤ i
  · have hj : i.toNat = j := by
      rw [seqIndex_of h0 h5] at h1
      exact Option.some.inj h1
    exact item_listR pl.isList h0 (by omega) (by rw [hj]; simpa using ew) fin hs
  · have hj : (i + (its.toArray.size : Int)).toNat = j := by
      rw [seqIndex_neg (by omega) h4] at h1
      rw [List.size_toArray, ← hl]
      exact Option.some.inj h1
    exact subscriptTail_builtinR (x := w) pl.isList.typeIs slot_list_getitem.lookup
      (wpAny_getItem_list_neg (Q := fun r s' => r = w ∧ EP X pins σ Q r s') pl.isList (by omega) (by rw [List.size_toArray] <;> omega) (by omega) (by rw [hj]; simpa using ew) ⟨rfl, fin⟩) hs
theorem ix_tup : IxR X (rIxT X.K) := by
  intro value slice pins s σ H x y v u Q I rx ry h hs
  obtain ⟨p, xs, i, z, rfl, rfl, hq, he, q⟩ := h
  cases rx
  obtain ⟨t, rfl⟩ := ry
  obtain ⟨its, r, pl, hz⟩ := I.tuple hq
  obtain ⟨j, h1, h2, h3, h4, h5⟩ := atI_get he
  obtain ⟨w, ew, rw'⟩ := r.get h2
  have hl := r.length
  have hn := line63
  have fin : EP X pins σ Q w s := ⟨z, H, I, rw', q⟩
  exact subscriptTail_builtinR (x := w) pl.typeIs slot_tuple_getitem.lookup
    (getItem_tuple (j := j) (Q := fun r s' => r = w ∧ EP X pins σ Q r s') pl (by omega) (by omega) (by rw [List.size_toArray, ← hl]; exact h1) (by simpa using ew) ⟨rfl, fin⟩) hs
theorem ix_str : IxR X rIxS := by
  intro value slice pins s σ H x y v u Q I rx ry h hs
  obtain ⟨z, i, c, rfl, rfl, hz, he, q⟩ := h
  obtain ⟨t, rfl⟩ := rx
  obtain ⟨t', rfl⟩ := ry
  obtain ⟨j, h1, h2, h3, h4, h5⟩ := atI_get he
  have hl : z.cps.toList.length = z.length := by simp [Str.length]
  rw [hl] at h1 h4 h5
  have hn := line63
  exact tail_any (typeIs_str s z t) slot_str_getitem.lookup (getItem_str (c := c) (by
    have e1 : decide (i < -(2 ^ 63 : Int)) = false := decide_eq_false (by omega)
    have e2 : decide (i ≥ 2 ^ 63) = false := decide_eq_false (by omega)
    rw [e1, e2, Bool.or_false]) (by rw [h1]; simpa using h2) ⟨.str ⟨#[c]⟩, H, I.tok _, ⟨_, rfl⟩, q⟩) hs
/-- list, tuple or str -/
def rIx (K : PySem.W.Frag) : R2 := fun x y H Q => rIxL K x y H Q ∨ rIxT K x y H Q ∨ rIxS x y H Q
theorem ix_seq : IxR X (rIx X.K) := ix_list.or (ix_tup.or ix_str)

/-! ### xs[i] = v, any sign -/
/-- the list's object behind a store -/
theorem mapSeq_set (its : List Value) (n j : Nat) (u : Value) : Obj.mapSeq (·.setIfInBounds j u) { cls := .type "list", data := .seq its.toArray n } = { cls := .type "list", data := .seq (its.set j u).toArray n } := by
  simp [Obj.mapSeq]
theorem Inv.lst {pins : List (Addr × Obj)} {σ : St} {H : Hp} {s : Shared} {p : Addr} {xs : List V} (I : Inv X pins σ H s) (h : H p = some (.lst xs)) :
    ∃ (its : List Value) (n : Nat), Vals xs its ∧ s.heap.get? p = some { cls := .type "list", data := .seq its.toArray n } ∧ xs.length ≤ sizeLine := by
  obtain ⟨z, its, n, r, e⟩ := I.hok p _ h
  exact ⟨its, n, r, e, z⟩
/-- the list at p is written by an update of its object -/
theorem Inv.lstUpd {pins : List (Addr × Obj)} {σ : St} {H : Hp} {s : Shared} {p : Addr} {xs ys : List V} {its its' : List Value} {n n' : Nat} {f : Obj → Obj} (I : Inv X pins σ H s) (h : H p = some (.lst xs))
    (ho : s.heap.get? p = some { cls := .type "list", data := .seq its.toArray n }) (hf : f { cls := .type "list", data := .seq its.toArray n } = { cls := .type "list", data := .seq its'.toArray n' }) (r : Vals ys its') (hz : ys.length ≤ sizeLine) (t : Nat) :
    Inv X pins σ (upd H p (.lst ys)) { s with heap := s.heap.update p f, toks := t } := by
  have e : (s.heap.update p f).get? p = some { cls := .type "list", data := .seq its'.toArray n' } := by
    rw [Heap.get?_update_self f ho (by rw [hf] <;> rfl), hf]
  refine I.write (x := p) (e := p) (by rw [h]; trivial) (.inl rfl) (fun b u hb q => (Heap.get?_update_other _ _ (Ne.symm hb)).trans q) ⟨_, e⟩ ?_
  exact ⟨hz, its', n', r, e⟩
def rSetL : V → V → V → Hp → (Hp → Prop) → Prop := fun o i v H Q => ∃ p xs k j, o = .ref p ∧ i = .int k ∧ H p = some (.lst xs) ∧ ixN xs.length k = some j ∧ Q (upd H p (.lst (xs.set j v)))
theorem set_list : PSet X rSetL := by
  intro pins s σ H o i v ov iv u Q I ro ri rv h
  obtain ⟨p, xs, k, j, rfl, rfl, hp, hj, q⟩ := h
  cases ro
  obtain ⟨t, rfl⟩ := ri
  obtain ⟨its, n, r, ho, hz⟩ := I.lst hp
  obtain ⟨h1, h2, h3, h4⟩ := ixN_seq hj
  have hl := r.length
  have hn := line63
  have I' : Inv X pins σ (upd H p (.lst (xs.set j v))) { s with heap := s.heap.update p (Obj.mapSeq (·.setIfInBounds j u)) } :=
    I.lstUpd hp ho (mapSeq_set its n j u) (r.set rv j) (by rw [List.length_set]; exact hz) s.toks
  by_cases h0 : 0 ≤ k
  · have hk : k.toNat = j := by
      rw [seqIndex_of h0 h4] at h1
      exact Option.some.inj h1
    exact PySem.W.ki_setAt ho h0 (by omega) (by rw [List.size_toArray, ← hl]; exact h4) (by rw [hk]; exact ⟨_, I', q⟩)
  · have hk : (k + (its.toArray.size : Int)).toNat = j := by
      rw [seqIndex_neg (by omega) h3] at h1
      rw [List.size_toArray, ← hl]
      exact Option.some.inj h1
    exact PySem.W.ki_setBack ho (by omega) (by rw [List.size_toArray, ← hl]; exact h3) (by omega) (by rw [hk]; exact ⟨_, I', q⟩)

/-! ### slices -/
theorem slice_bounds (lo hi : Option Int) (n : Nat) : (sliceBounds lo hi none n).1 = ((HT.sIx n 0 lo : Nat) : Int) ∧ (sliceBounds lo hi none n).2.1 = ((HT.sIx n n hi : Nat) : Int) ∧ (sliceBounds lo hi none n).2.2 = 1 := by
  refine ⟨?_, ?_, rfl⟩
  · cases lo with
    | none => simp [sliceBounds, HT.sIx]
    | some i =>
      simp only [sliceBounds, HT.sIx, Option.getD_none, show (1 : Int) > 0 by decide, if_true]
      by_cases h : i < 0
      · simp only [h, if_true] <;> omega
      · simp only [h, if_false] <;> omega
  · cases hi with
    | none => simp [sliceBounds, HT.sIx]
    | some i =>
      simp only [sliceBounds, HT.sIx, Option.getD_none, show (1 : Int) > 0 by decide, if_true]
      by_cases h : i < 0
      · simp only [h, if_true] <;> omega
      · simp only [h, if_false] <;> omega
theorem slicePick_cut (its : List Value) (lo hi : Option Int) : slicePick its.toArray lo hi none = ((its.drop (HT.sIx its.length 0 lo)).take (HT.sIx its.length its.length hi - HT.sIx its.length 0 lo)).toArray := by
  obtain ⟨h1, h2, h3⟩ := slice_bounds lo hi its.toArray.size
  unfold slicePick
  rw [h1, h2, h3]
  simp only [sliceRange_one, pick_run, List.size_toArray] <;> rfl
/-- xs[lo:hi] of a list: a new list -/
def rSlL (K : PySem.W.Frag) : V → Option Int → Option Int → Hp → VK → Prop := fun x lo hi H Q => ∃ a xs, x = .ref a ∧ SqL K H a xs ∧ ∀ p, H p = none → Q (.ref p) (upd H p (.lst (cutV xs lo hi)))
theorem sl_list : SlR X (rSlL X.K) := by
  intro pins s σ H x v vl vu lo hi sl Q I rx hs pl pu h
  obtain ⟨a, xs, rfl, hx, q⟩ := h
  cases rx
  obtain ⟨its, r, ht, hz⟩ := I.list hx
  have hlen := r.length
  refine ⟨"list", _, slot_list_getitem.lookup, ht.isList.typeIs, ?_⟩
  refine wpAny_getItem_list_slice ht.isList hs pl pu .none (by simp) ?_ (by rw [List.size_toArray] <;> omega)
  rw [slicePick_cut, ← hlen]
  refine ⟨.ref s.heap.objs.size, _, I.laid (t' := s.toks) (o := .lst (cutV xs lo hi)) (fun b ob q => Heap.get?_push_of_some _ q) (Nat.le_refl _) ?_, rfl, q _ (I.hok.fresh (Nat.le_refl _))⟩
  exact ⟨Nat.le_trans (cutV_length xs lo hi) hz, _, 0, (r.drop (HT.sIx xs.length 0 lo)).take (HT.sIx xs.length xs.length hi - HT.sIx xs.length 0 lo), Heap.get?_push_size _ rfl⟩

/-! ### in, not in: flat items -/
def flatV : V → Bool
  | .non => true
  | .bl _ => true
  | .int _ => true
  | .str _ => true
  | _ => false
/-- == of flat values -/
def eqV : V → V → Bool
  | .non, .non => true
  | .bl a, .bl b => a == b
  | .bl a, .int b => (if a then 1 else 0) == b
  | .int a, .bl b => a == (if b then 1 else 0)
  | .int a, .int b => a == b
  | .str a, .str b => a == b
  | _, _ => false
/-- the items' answers, read off the values (a value's own answer does not lean on its token) -/
def eqU (x : V) (u : Value) : Bool := match u with
  | .none => eqV .non x
  | .bool b => eqV (.bl b) x
  | .int i _ => eqV (.int i) x
  | .str z _ => eqV (.str z) x
  | _ => false
def inV (x : V) (xs : List V) : Bool := xs.any fun y => eqV y x
/-- x in a list or tuple of flat items -/
def rIn (K : PySem.W.Frag) (neg : Bool) : R2 := fun x y H Q => ∃ p xs, y = .ref p ∧ (SqL K H p xs ∨ SqT K H p xs) ∧ flatV x = true ∧ xs.all flatV = true ∧ Q (.bl (if neg then !inV x xs else inV x xs)) H
/-! ### len, list(x), tuple(x) of any list or tuple that is read -/
theorem call_len_seq : CallR X (.builtin "len") (fun xs H Q => ∃ p ys, xs = [.ref p] ∧ (SqL X.K H p ys ∨ SqT X.K H p ys) ∧ Q (.int ys.length) H) := by
  intro pins s σ H xs us Q I r h
  obtain ⟨p, ys, rfl, hq, q⟩ := h
  obtain ⟨u, rfl, rx⟩ := vals1 r
  cases rx
  have hn := line63
  rcases hq with hq | hq
  · obtain ⟨its, r', pl, hz⟩ := I.list hq
    have hlen := r'.length
    exact Calls.call_len_list pl.isList (by simp only [List.size_toArray] <;> omega) ⟨.int ys.length, H, I.tok _, ⟨s.toks + 1, by rw [List.size_toArray, hlen]⟩, q⟩
  · obtain ⟨its, r', pl, hz⟩ := I.tuple hq
    have hlen := r'.length
    exact len_tuple pl (by simp only [List.size_toArray] <;> omega) ⟨.int ys.length, H, I.tok _, ⟨s.toks + 1, by rw [List.size_toArray, hlen]⟩, q⟩
theorem call_len_str : CallR X (.builtin "len") (fun xs H Q => ∃ z, xs = [.str z] ∧ z.length ≤ sizeLine ∧ Q (.int z.length) H) := by
  intro pins s σ H xs us Q I r h
  obtain ⟨z, rfl, hz, q⟩ := h
  obtain ⟨u, rfl, t, rfl⟩ := vals1 r
  have hn := line63
  exact len_str (by omega) ⟨.int z.length, H, I.tok _, ⟨_, rfl⟩, q⟩
theorem CallR.or {f : Value} {r r' : List V → Hp → VK → Prop} (h : CallR X f r) (h' : CallR X f r') : CallR X f (fun xs H Q => r xs H Q ∨ r' xs H Q) := by
  intro pins s σ H xs us Q I rs q
  rcases q with q | q
  · exact h pins s σ H xs us Q I rs q
  · exact h' pins s σ H xs us Q I rs q
theorem call_list_of : CallR X (.type "list") (fun xs H Q => ∃ p ys, xs = [.ref p] ∧ (SqL X.K H p ys ∨ SqT X.K H p ys) ∧ ∀ l, H l = none → Q (.ref l) (upd H l (.lst ys))) := by
  intro pins s σ H xs us Q I r h
  obtain ⟨p, ys, rfl, hq, q⟩ := h
  obtain ⟨u, rfl, rx⟩ := vals1 r
  cases rx
  have fin : ∀ (its : List Value), Vals ys its → ys.length ≤ sizeLine → ∀ (h' : Heap) (c' : Nat), (∀ b o', s.heap.get? b = some o' → h'.get? b = some o') →
      h'.get? s.heap.objs.size = some { cls := .type "list", dict := none, data := .seq its.toArray c', slots := #[] } → EP X pins σ Q (.ref s.heap.objs.size) { s with heap := h' } := fun its r' hz h' c' kp e =>
    ⟨.ref s.heap.objs.size, _, I.laid (t' := s.toks) kp (Nat.le_refl _) (show ObjOk X.prog X.w _ h' _ (.lst ys) from ⟨hz, its, c', r', e⟩), rfl, q _ (I.hok.fresh (Nat.le_refl _))⟩
  rcases hq with hq | hq
  · obtain ⟨its, r', pl, hz⟩ := I.list hq
    have hlen := r'.length
    obtain ⟨o, ho, hc, n, hd⟩ := pl.isList
    exact call_list_seq p (.inl rfl) ho hc hd (fun h' c' kp e => fin its r' hz h' c' kp e) (by simp only [List.size_toArray] <;> omega)
  · obtain ⟨its, r', pl, hz⟩ := I.tuple hq
    have hlen := r'.length
    obtain ⟨o, ho, hc, n, hd⟩ := pl
    exact call_list_seq p (.inr rfl) ho hc hd (fun h' c' kp e => fin its r' hz h' c' kp e) (by simp only [List.size_toArray] <;> omega)
theorem call_tuple_of : CallR X (.type "tuple") (fun xs H Q => ∃ p ys, xs = [.ref p] ∧ ((SqL X.K H p ys ∧ ∀ l, H l = none → Q (.ref l) (upd H l (.tup ys))) ∨ (SqT X.K H p ys ∧ Q (.ref p) H))) := by
  intro pins s σ H xs us Q I r h
  obtain ⟨p, ys, rfl, h⟩ := h
  obtain ⟨u, rfl, rx⟩ := vals1 r
  cases rx
  rcases h with ⟨hq, q⟩ | ⟨hq, q⟩
  · obtain ⟨its, r', pl, hz⟩ := I.list hq
    have hlen := r'.length
    refine call_tuple_list pl.isList (fun h' kp => ?_) (by simp only [List.size_toArray] <;> omega)
    have I1 : Inv X pins σ H { s with heap := h' } := I.kept (t' := s.toks) kp
    have I2 : Inv X pins σ (upd H h'.objs.size (.tup ys)) { s with heap := h'.push { cls := .type "tuple", data := .seq its.toArray } } :=
      I1.laid (t' := s.toks) (fun b o e => Heap.get?_push_of_some _ e) (Nat.le_refl _) (show ObjOk X.prog X.w _ _ _ (.tup ys) from ⟨hz, its, r', IsTup.new _ _⟩)
    exact ⟨.ref h'.objs.size, _, I2, rfl, q _ (I1.hok.fresh (Nat.le_refl _))⟩
  · obtain ⟨its, r', pl, hz⟩ := I.tuple hq
    exact call_tuple_same pl ⟨.ref p, H, I, rfl, q⟩

/-! ### the call of a builtin's method: o.m(..) -/
/-- the value is of that builtin type -/
def tyV (K : PySem.W.Frag) (T : String) (x : V) (H : Hp) : Prop := match x with
  | .str _ => T = "str"
  | .int _ => T = "int"
  | .ref p => (T = "list" ∧ ∃ xs, SqL K H p xs) ∨ (T = "tuple" ∧ ∃ o, K.lookup p = some o ∧ o.cls = .type "tuple" ∧ o.dict = none) ∨
      (T = "dict" ∧ ((∃ kvs, H p = some (.dK kvs)) ∨ ∃ kvs, H p = some (.dT kvs))) ∨ (T = "set" ∧ ∃ S n, H p = some (.set S n))
  | _ => False
theorem tyV_is {pins : List (Addr × Obj)} {σ : St} {H : Hp} {s : Shared} {T : String} {x : V} {v : Value} (I : Inv X pins σ H s) (r : RelV x v) (ty : tyV X.K T x H) :
    s.TypeIs v T ∧ ∀ a, v = .ref a → ∃ ob, s.heap.get? a = some ob ∧ ob.dict = none := by
  cases x with
  | str z =>
    obtain ⟨t, rfl⟩ := r
    cases (show T = "str" from ty)
    exact ⟨typeIs_str s z t, fun _ e => nomatch e⟩
  | int i =>
    obtain ⟨t, rfl⟩ := r
    cases (show T = "int" from ty)
    exact ⟨typeIs_int s i t, fun _ e => nomatch e⟩
  | ref p =>
    cases r
    rcases ty with ⟨rfl, xs, hq⟩ | ⟨rfl, o, hk, hc, hd⟩ | ⟨rfl, hk⟩ | ⟨rfl, S, n, hk⟩
    · obtain ⟨its, _, pl, _⟩ := I.list hq
      refine ⟨pl.isList.typeIs, fun a e => ?_⟩
      cases e
      obtain ⟨o, n, e, c, hd, _⟩ := pl
      exact ⟨o, e, hd⟩
    · refine ⟨⟨o, I.kIn p o hk, hc⟩, fun a e => ?_⟩
      cases e
      exact ⟨o, I.kIn _ o hk, hd⟩
    · have z : ∃ o, s.heap.get? p = some o ∧ o.ExactDict := by
        rcases hk with ⟨kvs, hk⟩ | ⟨kvs, hk⟩
        · obtain ⟨_, _, _, _, o, _, _, e, ex, _⟩ := I.hok p _ hk
          exact ⟨o, e, ex⟩
        · obtain ⟨_, _, _, _, o, _, _, e, ex, _⟩ := I.hok p _ hk
          exact ⟨o, e, ex⟩
      obtain ⟨o, e, ex⟩ := z
      refine ⟨⟨o, e, ex.1⟩, fun a e2 => ?_⟩
      cases e2
      exact ⟨o, e, ex.2.1⟩
    · obtain ⟨o, _, _, _, e, ex, _⟩ := I.hok p _ hk
      refine ⟨⟨o, e, ex.1⟩, fun a e2 => ?_⟩
      cases e2
      exact ⟨o, e, ex.2.1⟩
  | _ => exact False.elim ty
def tBM0 (K : PySem.W.Frag) (T : String) (r : V → List V → Hp → VK → Prop) (to : TE) : TE := fun σ H Q => to σ H fun x H1 => tyV K T x H1 ∧ r x [] H1 Q
def tBM (K : PySem.W.Frag) (T : String) (r : V → List V → Hp → VK → Prop) (to : TE) (t : TA) : TE := fun σ H Q => to σ H fun x H1 => tyV K T x H1 ∧ t σ H1 fun xs H2 => r x xs H2 Q
variable {o e : Expr} {es : List Expr} {to : TE} {t : TA} {name : Str} {apos cpos : Pos} {T id : String} {r : V → List V → Hp → VK → Prop}
theorem pe_bm (pa : PlainAttrs T) (slot : Slot T name id) (hty : typeOf (.builtin id) = pure (.type "method_descriptor")) (hm : MtR X id r) (ho : PE X o to) (ha : PA X (e :: es) t)
    (hbase : attributeBase o name X.env (eval o X.env) = eval o X.env := by rfl)
    (hfew : ((backTo cpos (starEach (e :: es) X.env)).all (fun x => !x.1) && (backToKw cpos (keywordEach [] X.env)).all (fun x => x.1.isSome)
      && decide ((e :: es).length + ([] : List Keyword).length + (if ([] : List Keyword).isEmpty then 0 else 1) < 30)) = true := by rfl)
    (hline : (apos.endLine == cpos.line) = true := by rfl) (hs : starEach (e :: es) X.env = (false, eval e X.env) :: starEach es X.env := by rfl) (hplain : (backTo cpos (starEach es X.env)).any (·.1) = false := by rfl) :
    PE X (.Call (.Attribute o name apos) (e :: es) [] cpos) (tBM X.K T r to t) := by
  intro pins s σ H Q I h
  refine wpAny_Call_method_late hbase hfew hline rfl (thn (ho pins s σ H _ I h) fun v s1 ⟨x, H1, I1, r1, ty, q1⟩ => ?_)
  obtain ⟨h1, h2⟩ := tyV_is I1 r1 ty
  refine ⟨T, id, pa, slot, hty, h1, h2, ?_⟩
  have hA := ha cpos pins s1 σ H1 _ I1 q1
  rw [hs] at hA ⊢
  refine Calls.callWith_builtin (by show (false || (backTo cpos (starEach es X.env)).any (·.1)) = false; rw [hplain] <;> rfl) (Calls.evalArgs_plain ?_)
  exact thn hA fun us s2 ⟨vs, H2, I2, r2, q2⟩ => hm pins s2 σ H2 x vs v us Q I2 r1 r2 q2
/- xs.append(e), list.index on a module's tuple .. are MtR facts of 06m -/
end
end L2

namespace L2
open PySem PySem.Spec PyProof.Rows

def MtM (X : Cx) (id : String) (r : V → List V → Hp → VK → Prop) : Prop :=
  ∀ (pins : List (Addr × Obj)) (s : Shared) (σ : St) (H : Hp) (x : V) (xs : List V) (v : Value) (us : List Value) (Q : VK), Inv X pins σ H s → RelV x v → Vals xs us → r x xs H Q →
    wpAny (model X.prog X.w) X.A (call (.builtin id) (v :: us)) (EP X pins σ Q) X.xe s

/-! ### lists of values -/
theorem Vals.one : ∀ {x : V} {us : List Value}, Vals [x] us → ∃ u, us = [u] ∧ RelV x u
  | _, _, .cons r .nil => ⟨_, rfl, r⟩
section
variable {X : Cx} {pins : List (Addr × Obj)} {σ : St} {H : Hp} {s : Shared} {l b : Addr} {xs ys zs : List V}

/-! ### the two steps: a tracked list is rewritten, a new list is laid -/
theorem Inv.lset {its its' : List Value} {n : Nat} {f : Array Value → Array Value} {t' : Nat} (I : Inv X pins σ H s) (hH : H l = some (.lst xs))
    (e : s.heap.get? l = some { cls := .type "list", data := .seq its.toArray n }) (hf : f its.toArray = its'.toArray) (hv : Vals ys its') (hz : ys.length ≤ sizeLine) :
    Inv X pins σ (upd H l (.lst ys)) { s with heap := s.heap.update l (Obj.mapSeq f), toks := t' } := by
  have q := PySem.IsL.update e f
  rw [hf] at q
  refine I.write (x := l) (e := l) (by rw [hH]; exact trivial) (.inl rfl) (fun b' u hb hu => (Heap.get?_update_other s.heap (Obj.mapSeq f) (Ne.symm hb)).trans hu) ⟨_, q⟩ ?_
  exact ⟨hz, its', _, hv, q⟩
theorem Inv.lnew {its : List Value} {t' : Nat} (I : Inv X pins σ H s) (hv : Vals ys its) (hz : ys.length ≤ sizeLine) :
    Inv X pins σ (upd H s.heap.objs.size (.lst ys)) { s with heap := s.heap.push { cls := .type "list", data := .seq its.toArray }, toks := t' } :=
  I.laid (fun _ _ q => Heap.get?_push_of_some _ q) (Nat.le_refl _) ⟨hz, its, 0, hv, Heap.get?_push_size _ rfl⟩
theorem Inv.fresh (I : Inv X pins σ H s) : H s.heap.objs.size = none := I.hok.fresh (Nat.le_refl _)
theorem Inv.lstM (I : Inv X pins σ H s) (hH : H l = some (.lst xs)) : xs.length ≤ sizeLine ∧ ∃ (its : List Value) (n : Nat), Vals xs its ∧ xs.length = its.length ∧ s.heap.get? l = some { cls := .type "list", data := .seq its.toArray n } := by
  obtain ⟨z, its, n, r, e⟩ := I.hok l _ hH
  exact ⟨z, its, n, r, r.length, e⟩

theorem notLongL {n : Nat} (h : n ≤ sizeLine) : Builtin.List.listTooLong n = false := by
  unfold Builtin.List.listTooLong
  exact decide_eq_false (by omega)
end

section
variable {X : Cx}

/-! ### methods -/
def rAppend : V → List V → Hp → VK → Prop := fun x vs H Q => ∃ l xs y, x = .ref l ∧ vs = [y] ∧ H l = some (.lst xs) ∧ xs.length < sizeLine ∧ Q .non (upd H l (.lst (xs ++ [y])))
theorem mt_append : MtM X "list.append" rAppend := by
  intro pins s σ H x vs v us Q I rx rv h
  obtain ⟨l, xs, y, rfl, rfl, hH, hz, q⟩ := h
  cases rx
  obtain ⟨u, rfl, ru⟩ := rv.one
  obtain ⟨z, its, n, r, hl, e⟩ := I.lstM hH
  refine call_meets F.slot_list_append ⟨_, e, rfl⟩ F.entry_list_append (F.args_list_append_2 _ _) (PySem.list_append l its.toArray n u (by rw [List.size_toArray]; omega)) ⟨e, ?_⟩
  refine ⟨.non, _, I.lset (its' := its ++ [u]) hH e (by simp) (r.append (.cons ru .nil)) ?_, rfl, q⟩
  rw [List.length_append, List.length_singleton]
  omega

def rExtend : V → List V → Hp → VK → Prop := fun x vs H Q => ∃ l b xs zs, x = .ref l ∧ vs = [.ref b] ∧ H l = some (.lst xs) ∧ H b = some (.lst zs) ∧ xs.length + zs.length ≤ sizeLine ∧ Q .non (upd H l (.lst (xs ++ zs)))
theorem mt_extend : MtM X "list.extend" rExtend := by
  intro pins s σ H x vs v us Q I rx rv h
  obtain ⟨l, b, xs, zs, rfl, rfl, hH, hB, hz, q⟩ := h
  cases rx
  obtain ⟨u, rfl, ru⟩ := rv.one
  cases ru
  obtain ⟨z, its, n, r, hl, e⟩ := I.lstM hH
  obtain ⟨z2, its2, n2, r2, hl2, e2⟩ := I.lstM hB
  have hsz : its.toArray.size + its2.toArray.size ≤ sizeLine := by rw [List.size_toArray, List.size_toArray]; omega
  have hlong : ¬ (!its.toArray.isEmpty && Builtin.List.listTooLong (its.toArray.size + its2.toArray.size)) = true := by
    rw [notLongL hsz, Bool.and_false]
    exact Bool.false_ne_true
  refine call_meets F.slot_list_extend ⟨_, e, rfl⟩ F.entry_list_extend (F.args_list_extend_2 _ _)
    (AutoSeq1.list_extend_list_list_0 l its.toArray n b its2.toArray n2 hlong (by rw [List.size_toArray]; omega) (by omega)) ⟨e, e2, ?_⟩
  refine ⟨.non, _, I.lset (its' := its ++ its2) hH e (by simp) (r.append r2) ?_, rfl, q⟩
  rw [List.length_append]
  omega

def rPop : V → List V → Hp → VK → Prop := fun x vs H Q => ∃ l xs y, x = .ref l ∧ vs = [] ∧ H l = some (.lst xs) ∧ xs[xs.length - 1]? = some y ∧ Q y (upd H l (.lst xs.dropLast))
def rPopAt : V → List V → Hp → VK → Prop := fun x vs H Q => ∃ l xs i k y, x = .ref l ∧ vs = [.int i] ∧ H l = some (.lst xs) ∧ -(2 ^ 63) ≤ i ∧ i < 2 ^ 63 ∧ seqIndex? i xs.length = some k ∧ xs[k]? = some y ∧ Q y (upd H l (.lst (xs.eraseIdx k)))
def rReverse : V → List V → Hp → VK → Prop := fun x vs H Q => ∃ l xs, x = .ref l ∧ vs = [] ∧ H l = some (.lst xs) ∧ Q .non (upd H l (.lst xs.reverse))
def rClear : V → List V → Hp → VK → Prop := fun x vs H Q => ∃ l xs, x = .ref l ∧ vs = [] ∧ H l = some (.lst xs) ∧ Q .non (upd H l (.lst []))
/-! ### list + list, list += list, list * int -/
def rCat : R2 := fun x y H Q => ∃ l b xs zs, x = .ref l ∧ y = .ref b ∧ H l = some (.lst xs) ∧ H b = some (.lst zs) ∧ xs.length + zs.length ≤ sizeLine ∧ ∀ p, H p = none → Q (.ref p) (upd H p (.lst (xs ++ zs)))
theorem op_cat : OpR X (binaryOp .Add) rCat := by
  intro pins s σ H x y v u Q I rx ry h
  obtain ⟨l, b, xs, zs, rfl, rfl, hH, hB, hz, q⟩ := h
  cases rx
  cases ry
  obtain ⟨z, its, n, r, hl, e⟩ := I.lstM hH
  obtain ⟨z2, its2, n2, r2, hl2, e2⟩ := I.lstM hB
  refine PySem.P.add_list e e2 ?_ (by rw [List.size_toArray, List.size_toArray]; omega)
  have ea : its.toArray ++ its2.toArray = (its ++ its2).toArray := by simp
  rw [ea]
  exact ⟨.ref _, _, I.lnew (t' := s.toks) (r.append r2) (by rw [List.length_append]; omega), rfl, q _ I.fresh⟩
/-- a list times an int (a negative one is nothing) -/
def rRep : R2 := fun x y H Q => ∃ l k xs, x = .ref l ∧ y = .int k ∧ H l = some (.lst xs) ∧ -(2 ^ 63) ≤ k ∧ k < 2 ^ 63 ∧ xs.length * k.toNat ≤ sizeLine ∧
  ∀ p, H p = none → Q (.ref p) (upd H p (.lst (List.replicate k.toNat xs).flatten))
/-! ### del xs[i] -/
end

/-! ### xs[a:b] = ys -/
section
variable {prog : Program} {w : World} {A : Around} {E : Value → Shared → Prop} {s : Shared}
end

section
variable {X : Cx}
end
end L2

namespace L2
open PySem PySem.Spec PyProof.Rows

/-! ### lists of pairs as tables -/
section
variable {κ : Type} [DecidableEq κ]
def valV (kvs : List (κ × V)) (k : κ) : Option V := (kvs.find? fun kv => decide (kv.1 = k)).map (·.2)
/-- in its place, or at the end -/
def putK (kvs : List (κ × V)) (k : κ) (v : V) : List (κ × V) :=
  if (kvs.any fun kv => decide (kv.1 = k)) = true then kvs.map (fun kv => if kv.1 = k then (kv.1, v) else kv) else kvs ++ [(k, v)]
def dropK (kvs : List (κ × V)) (k : κ) : List (κ × V) := kvs.filter fun kv => decide (kv.1 ≠ k)

theorem valV_pos {p : κ × V} {r : List (κ × V)} {k : κ} (e : p.1 = k) : valV (p :: r) k = some p.2 := by simp [valV, List.find?_cons, e]
theorem valV_neg {p : κ × V} {r : List (κ × V)} {k : κ} (e : ¬ p.1 = k) : valV (p :: r) k = valV r k := by simp [valV, List.find?_cons, e]
/-- raw tables of the same keys -/
theorem KV.val {kvs : List (κ × V)} {vs : List (κ × Value)} (r : KV kvs vs) (k : κ) : RelO (valV kvs k) (valueAt vs k) := by
  unfold KV at r
  induction r with
  | nil => exact True.intro
  | @cons p q ps qs h t ih =>
    obtain ⟨h1, h2⟩ := h
    by_cases e : p.1 = k
    · have e' : q.1 = k := h1.symm.trans e
      have b : valueAt (q :: qs) k = some q.2 := by simp [valueAt, List.find?_cons, e']
      rw [valV_pos e, b]; exact h2
    · have e' : ¬ q.1 = k := fun z => e (h1.trans z)
      have b : valueAt (q :: qs) k = valueAt qs k := by simp [valueAt, List.find?_cons, e']
      rw [valV_neg e, b]; exact ih
theorem KV.length {kvs : List (κ × V)} {vs : List (κ × Value)} (r : KV kvs vs) : kvs.length = vs.length := Paired.length r
end


/-! ### a tracked dict, its keys ints and texts or tuples of these -/
/-- raw entries of a dict with tuple keys -/
abbrev KT (H : Hp) : List (List Key × V) → List (List Key × Addr × Value) → Prop := Paired fun p q => p.1 = q.1 ∧ H q.2.1 = some (.tup (p.1.map kV)) ∧ RelV p.2 q.2.2
section
variable {P : Program} {w : World} {H : Hp} {h : Heap} {a : Addr}
theorem rd_of {u : HO} (ok : HOk P w H h) (e : Rd H a u) : ObjOk P w H h a u := e.ok ok
theorem dk_rd {kvs : List (Key × V)} (ok : HOk P w H h) (e : Rd H a (.dK kvs)) : kvs.length ≤ sizeLine ∧ (a == sysModules) = false ∧ ∃ vs, KV kvs vs ∧ h.DictOf (mixKind P w) a vs :=
  show ObjOk P w H h a (.dK kvs) from rd_of ok e
theorem dk_of {kvs : List (Key × V)} (ok : HOk P w H h) (e : H a = some (.dK kvs)) : kvs.length ≤ sizeLine ∧ (a == sysModules) = false ∧ ∃ vs, KV kvs vs ∧ h.DictOf (mixKind P w) a vs := dk_rd ok (.inl e)
end

/-- what the dict at a holds at the key y -/
def DGet (H : Hp) (a : Addr) (y : V) (r : Option V) : Prop :=
  (∃ kvs k, Rd H a (.dK kvs) ∧ y = kV k ∧ r = valV kvs k) ∨ ∃ kvs k b, Rd H a (.dT kvs) ∧ y = .ref b ∧ H b = some (.tup (k.map kV)) ∧ r = valV kvs k
/-- the heap behind a[y] = v -/
def DPut (H : Hp) (a : Addr) (y v : V) (H' : Hp) : Prop :=
  (∃ kvs k, H a = some (.dK kvs) ∧ y = kV k ∧ kvs.length < sizeLine ∧ H' = upd H a (.dK (putK kvs k v))) ∨
  ∃ kvs k b, H a = some (.dT kvs) ∧ y = .ref b ∧ H b = some (.tup (k.map kV)) ∧ kvs.length < sizeLine ∧ H' = upd H a (.dT (putK kvs k v))
section
variable {X : Cx} {pins : List (Addr × Obj)} {σ : St} {H : Hp} {s : Shared} {a : Addr} {y v : V} {u r : Value} {o : Option V} {A : Around} {E : Value → Shared → Prop}

theorem Inv.big (I : Inv X pins σ H s) : sysModules < s.heap.objs.size := by
  have h : mainGlobals < s.heap.objs.size := (I.mod.glob.keeps I.bk).lt
  exact Nat.lt_trans (by decide) h

end

section
variable {X : Cx} {pins : List (Addr × Obj)} {σ : St} {H : Hp} {s : Shared} {a : Addr} {kvs : List (Key × V)} {k : Key} {u : Value} {A : Around} {E : Value → Shared → Prop}
end


/-! ### readings and rules -/
/-- the element of a subscription, not a slice -/
def NoSl (i : Expr) : Prop := ∀ ov iv, subscripted i false ov iv = operate [ov, iv] (getItem ov iv)
/-- d[y] -/
def tDGet (td ty : TE) : TE := fun σ H Q => td σ H fun x H1 => ty σ H1 fun y H2 => ∃ a v, x = .ref a ∧ DGet H2 a y (some v) ∧ Q v H2
/-- y in d, y not in d -/
def tDIn (ty td : TE) : TE := fun σ H Q => ty σ H fun y H1 => td σ H1 fun x H2 => ∃ a o, x = .ref a ∧ DGet H2 a y o ∧ Q (.bl o.isSome) H2
def tDNotIn (ty td : TE) : TE := fun σ H Q => ty σ H fun y H1 => td σ H1 fun x H2 => ∃ a o, x = .ref a ∧ DGet H2 a y o ∧ Q (.bl (!o.isSome)) H2
/-- d[y] = v -/
def sDPut (td ty tv : TE) : TS := fun D σ H => tv σ H fun v H1 => td σ H1 fun x H2 => ty σ H2 fun y H3 => ∃ a H4, x = .ref a ∧ DPut H3 a y v H4 ∧ D.nx σ H4
/-- d[y] op= v -/
def sDAug (td ty tv : TE) (rd : V → V → Hp → VK → Prop) : TS := fun D σ H => td σ H fun x H1 => ty σ H1 fun y H2 => ∃ a v, x = .ref a ∧ DGet H2 a y (some v) ∧
  tv σ H2 fun y2 H3 => rd v y2 H3 fun z H4 => ∃ H5, DPut H4 a y z H5 ∧ D.nx σ H5
/-- del d[y] -/
def sDDel (td ty : TE) : TS := fun D σ H => td σ H fun x H1 => ty σ H1 fun y H2 => ∃ a kvs k, x = .ref a ∧ H2 a = some (.dK kvs) ∧ y = kV k ∧ (valV kvs k).isSome = true ∧ D.nx σ (upd H2 a (.dK (dropK kvs k)))

section
variable {X : Cx} {o i e value : Expr} {pos pos' tpos : Pos} {td ty tv : TE}
end


/-! ### displays -/
theorem dk_empty {P : Program} {w : World} {H : Hp} (h : Heap) (hb : sysModules < h.objs.size) : ObjOk P w H (h.push { cls := .type "dict", data := .dict #[] }) h.objs.size (.dK []) :=
  ⟨Nat.zero_le _, beq_eq_false_iff_ne.mpr (Ne.symm (Nat.ne_of_lt hb)), [], .nil, Heap.DictOf.new h⟩
/-- {}, to be a dict of the kind that is wanted -/
def tDNewK : TE := fun _ H Q => ∀ p, H p = none → Q (.ref p) (upd H p (.dK []))
def tDNewT : TE := fun _ H Q => ∀ p, H p = none → Q (.ref p) (upd H p (.dT []))
section
variable {X : Cx} {pos : Pos}
theorem pe_dnewK : PE X (.Dict [] [] pos) tDNewK := fun pins s σ H Q I h =>
  wpAny_Dict_empty ⟨.ref s.heap.objs.size, _, I.laid (a := s.heap.objs.size) (o := .dK []) (t' := s.toks) (fun _ _ q => Heap.get?_push_of_some _ q) (Nat.le_refl _) (dk_empty s.heap I.big), rfl, h _ (I.hok.fresh (Nat.le_refl _))⟩
end

/-- the pairs of a display, from the left -/
def tPairs : List (TE × TE) → St → Hp → (List (V × V) → Hp → Prop) → Prop
  | [], _, H, Q => Q [] H
  | (tk, tv) :: r, σ, H, Q => tk σ H fun x H1 => tv σ H1 fun y H2 => tPairs r σ H2 fun ps H3 => Q ((x, y) :: ps) H3
abbrev VV : List (V × V) → List (Value × Value) → Prop := Paired fun p q => RelV p.1 q.1 ∧ RelV p.2 q.2
def PPs (X : Cx) (pos : Pos) (keys : List (Option Expr)) (values : List Expr) (trs : List (TE × TE)) : Prop :=
  ∀ (pins : List (Addr × Obj)) (s : Shared) (σ : St) (H : Hp) (Q : List (V × V) → Hp → Prop), Inv X pins σ H s → tPairs trs σ H Q →
    wpAny (model X.prog X.w) X.A (evalPairs (pairTrees keys values X.env pos)) (fun vs s' => ∃ ps H', Inv X pins σ H' s' ∧ VV ps vs ∧ Q ps H') X.xe s
def mergeK (kvs more : List (Key × V)) : List (Key × V) := more.foldl (fun acc kv => putK acc kv.1 kv.2) kvs
/-- {k: v, ..} with keys ints and texts; the new dict stands empty while the pairs are made -/
def tDisp (trs : List (TE × TE)) : TE := fun σ H Q => ∀ p, H p = none → tPairs trs σ (upd H p (.dK [])) fun ps H2 => H2 p = some (.dK []) ∧ ∃ kvs : List (Key × V), ps = kvs.map (fun kv => (kV kv.1, kv.2)) ∧ kvs.length ≤ 15 ∧ Q (.ref p) (upd H2 p (.dK (mergeK [] kvs)))
/-! ### methods -/
/-- a method call o.m(e) of a built-in, with one argument: what must be seen of the text -/
structure M1 (X : Cx) (o : Expr) (m : Str) (apos : Pos) (e : Expr) (cpos : Pos) : Prop where
  base : attributeBase o m X.env (eval o X.env) = eval o X.env
  few : ((backTo cpos (starEach [e] X.env)).all (fun x => !x.1) && (backToKw cpos (keywordEach [] X.env)).all (fun x => x.1.isSome)
    && decide (([e] : List Expr).length + ([] : List Keyword).length + (if ([] : List Keyword).isEmpty then 0 else 1) < 30)) = true
  line : (apos.endLine == cpos.line) = true
  trees : backTo cpos (starEach [e] X.env) = [(false, eval e X.env)]
structure M2 (X : Cx) (o : Expr) (m : Str) (apos : Pos) (e f : Expr) (cpos : Pos) : Prop where
  base : attributeBase o m X.env (eval o X.env) = eval o X.env
  few : ((backTo cpos (starEach [e, f] X.env)).all (fun x => !x.1) && (backToKw cpos (keywordEach [] X.env)).all (fun x => x.1.isSome)
    && decide (([e, f] : List Expr).length + ([] : List Keyword).length + (if ([] : List Keyword).isEmpty then 0 else 1) < 30)) = true
  line : (apos.endLine == cpos.line) = true
  trees : backTo cpos (starEach [e, f] X.env) = [(false, eval e X.env), (false, eval f X.env)]

/-- a is a dict, whatever its keys -/
def IsD (H : Hp) (a : Addr) : Prop := (∃ kvs, Rd H a (.dK kvs)) ∨ ∃ kvs, Rd H a (.dT kvs)
section
variable {X : Cx} {pins : List (Addr × Obj)} {σ : St} {H : Hp} {s : Shared} {a : Addr} {y d : V} {u r : Value} {o : Option V} {A : Around} {E : Value → Shared → Prop}
end

def tDGet1 (td ty : TE) : TE := fun σ H Q => td σ H fun x H1 => ∃ a, x = .ref a ∧ IsD H1 a ∧ ty σ H1 fun y H2 => ∃ o, DGet H2 a y o ∧ Q (o.getD .non) H2
def tDGet2 (td ty tx : TE) : TE := fun σ H Q => td σ H fun x H1 => ∃ a, x = .ref a ∧ IsD H1 a ∧ ty σ H1 fun y H2 => tx σ H2 fun z H3 => ∃ o, DGet H3 a y o ∧ Q (o.getD z) H3
/-- d.pop(k): there; d.pop(k, x): there or not -/
def tDPop1 (td ty : TE) : TE := fun σ H Q => td σ H fun x H1 => ∃ a, x = .ref a ∧ IsD H1 a ∧ ty σ H1 fun y H2 => ∃ kvs k v, H2 a = some (.dK kvs) ∧ y = kV k ∧ valV kvs k = some v ∧ Q v (upd H2 a (.dK (dropK kvs k)))
def tDPop2 (td ty tx : TE) : TE := fun σ H Q => td σ H fun x H1 => ∃ a, x = .ref a ∧ IsD H1 a ∧ ty σ H1 fun y H2 => tx σ H2 fun z H3 => ∃ kvs k, H3 a = some (.dK kvs) ∧ y = kV k ∧
  (∀ v, valV kvs k = some v → Q v (upd H3 a (.dK (dropK kvs k)))) ∧ (valV kvs k = none → Q z H3)
section
variable {X : Cx} {o e f : Expr} {apos cpos : Pos} {td ty tx : TE}
end

/-! ### dict(d): a copy -/
section
variable {X : Cx} {pins : List (Addr × Obj)} {σ : St} {H : Hp} {s : Shared} {a : Addr} {kvs : List (Key × V)} {A : Around} {E : Value → Shared → Prop}
end


section
variable {X : Cx} {pins : List (Addr × Obj)} {σ : St} {H : Hp} {s : Shared} {a : Addr} {y : V} {u : Value} {A : Around} {E : Value → Shared → Prop}
end
end L2

namespace Att
open PySem PySem.W PySem.Calls PyProof.Rows

/-! ### the script -/
theorem ints_of_wellAll {P : Params} {h : Heap} : ∀ (ns : List Int) (vs : List Value), WellAll P h vs (ns.map WData.int) → IntsAre vs ns := by
  intro ns
  induction ns with
  | nil =>
    intro vs w
    rw [List.map_nil] at w
    cases w
    exact .nil
  | cons n ns ih =>
    intro vs w
    rw [List.map_cons] at w
    cases w with
    | cons a b =>
      cases a
      exact .cons _ _ (ih _ b)

theorem script_of {l : OpenLaw} {n : Nat} (hn : l.most = some n) {P : Params} {h : Heap} {args : List WData} {vals : List Value}
    (hpre : l.row.toRowW.claim.pre args = true) (hwl : WellAll P h vals args) :
    ∃ a vs ns, vals = [Value.ref a] ∧ args = [WData.list (ns.map WData.int)] ∧ h.get? a = some { cls := .type "list", data := .seq vs.toArray } ∧ IntsAre vs ns ∧ ns.length ≤ n := by
  have hsh : WShape.hasAll [] args [.list .int] = true := (pre_splitW hpre).1
  have hc : l.pre.holds [] { args := args } = true := (pre_splitW hpre).2
  obtain ⟨d, r, rfl, h1, h2⟩ := hasAllW_cons hsh
  obtain rfl := hasAllW_nil h2
  obtain ⟨xs, rfl, h3⟩ := hasW_list h1
  obtain ⟨ns, rfl⟩ := items_int h3
  have hlen : ns.length ≤ n := by
    unfold OpenLaw.pre at hc
    have h4 : (WTm.not (.lt (.lit (.int (n : Int))) (.len (.arg 0)))).holds [] { args := [.list (ns.map .int)] } = true := by
      have h4 := (holds_andW hc).1
      rw [hn] at h4
      exact h4
    have h5 := condW_of h4 (w_not (w_lt w_lit (w_len_list (w_arg rfl))))
    rw [List.length_map] at h5
    refine Nat.le_of_not_lt fun q => ?_
    have q' : (n : Int) < ((ns.length : Nat) : Int) := by omega
    first
      | (rw [decide_eq_true q'] at h5; exact absurd h5 (by decide))
      | (simp at h5; omega)
  cases hwl with
  | cons w1 w2 =>
    cases w2
    cases w1 with
    | list ho hall => exact ⟨_, _, ns, rfl, rfl, ho, ints_of_wellAll ns _ hall, hlen⟩

theorem post_true (l : OpenLaw) (args : List WData) : l.row.toRowW.claim.post args (.bool true) args = true :=
  postW_of (r := l.row.toRowW) (X := (true == true))
    (show WShape.has [] (.bool true) .bool = true by first | rfl | decide | simp [WShape.has, WShape.arms, WShape.armsAll])
    (show (WTm.eq .res (.lit (.bool true))).value [] { args := args, res := some (.bool true), after := args } = some (.bool (true == true)) from w_eq_bool (w_res rfl) w_lit) rfl

/-! ### the attachment: holds_open's last premise (the goal 'hc' behind k_head) from a wpAny of the law's body -/
/-! ### rules over ANY heap (no ledger) from facts about the written part K: the library's own take a ledger (News) for what they write -/
section
variable {prog : Program} {w : World} {A : Around} {E : Value → Shared → Prop} {s : Shared} {K : Frag}

/-! the whole heap as the ledger: makes every rule that writes through a ledger a rule over any heap -/
def noObjs (h : Heap) : Heap := { h with objs := #[] }
def ledger (h : Heap) (L d : Addr) : List (Addr × Obj) := (List.range h.objs.size).filterMap fun a => if a = L ∨ a = d then none else (h.get? a).map fun o => (a, o)
end
end Att

namespace L2
open PySem PySem.Spec PyProof.Rows

theorem vals_ints : ∀ {vs : List Value} {ns : List Int}, IntsAre vs ns → Vals (ns.map V.int) vs
  | _, _, .nil => .nil
  | _, _, .cons n t h => .cons ⟨t, rfl⟩ (vals_ints h)

/-- nothing is tracked but the script, known to the object (or it is an object of the module) -/
def Only (H : Hp) : Prop := ∀ b, H b = none ∨ ∃ o xs, H b = some (.frz o (.lst xs))

/-- THE HEAD: the law's promise, at the heap behind the top. F, the promise of the law's def, may use that base is part of the heap (so K.In base, base.Ns mainGlobals mg stand in Mod) -/
theorem law_call {P : Program} {w : World} {K : PySem.W.Frag} {mg mb : Str → Option Value} {CX : CXT} {k : Nat} {fa a : Addr} {fd : FuncData} {x : Str} {sp : Sp} {s₁ : Shared} {vs : List Value} {ns : List Int}
    (KX : K.In s₁.heap) (hns : s₁.heap.Ns mainGlobals mg) (hb : s₁.heap.Ns builtinsNs mb) (hbb : ∀ x : Str, x ≠ "__name__" → mb x = bootBuiltins x) (hlim : s₁.heap.NoLimit) (hg : s₁.gens = #[])
    (ha : s₁.heap.get? a = some { cls := .type "list", data := .seq vs.toArray }) (hi : IntsAre vs ns) (hl : ns.length ≤ sizeLine) (hr : Room k callerA)
    (F : ∀ base : Heap, K.In base → base.Ns mainGlobals mg → FnOk P w K mg base CX k fa fd [x] sp) (hbind : ∀ (s : Shared) (u : Value), BindsTo s fd ⟨[u], []⟩ [(x, u)])
    (hsp : ∀ H : Hp, Only H → SqL K H a (ns.map V.int) → sp [.ref a] H (fun v _ => v = .bl true) fun _ _ _ => False)
    (hCX : ∀ H e s', CX [] H s₁ (fun _ _ _ => False) e s' → False) :
    codeAny (model P w) callerA (.call (.ref fa) ⟨[.ref a], []⟩) (fun r s' => r = .ok (.ret (.bool true)) ∧ OldK s₁.heap s'.heap ∧ s'.os = s₁.os ∧ AllBare s'.gens) s₁ := by
  have rv := vals_ints hi
  have lenV := hi.length
  -- from an abstract heap in which nothing but the script may be tracked
  have core : ∀ H : Hp, Only H → SqL K H a (ns.map V.int) → HOk P w H s₁.heap → (∀ b, H b ≠ none → b = a) → (H a ≠ none → K.lookup a = none) →
      codeAny (model P w) callerA (.call (.ref fa) ⟨[.ref a], []⟩) (fun r s' => r = .ok (.ret (.bool true)) ∧ OldK s₁.heap s'.heap ∧ s'.os = s₁.os ∧ AllBare s'.gens) s₁ := by
    intro H hO hS hok hA hK
    have base_of : ∀ {b : Addr} {o : Obj}, s₁.heap.get? b = some o → H b = none → (hidT s₁.heap H).get? b = some o := fun e n => hidT_get e n
    have noA : ∀ {b : Addr} {o : Obj} {es : Array DictEntry} {ep : Nat}, s₁.heap.get? b = some o → o.data = .dict es ep → H b = none := fun {b o es ep} e d => by
      cases q : H b with
      | none => rfl
      | some u =>
        have e' : b = a := hA b (by rw [q]; simp)
        subst e'
        rw [ha] at e; cases e
        have d' : Data.seq vs.toArray _ = Data.dict es ep := d
        cases d'
    have nsK : ∀ {b : Addr} {m : Str → Option Value}, s₁.heap.Ns b m → (hidT s₁.heap H).Ns b m := fun {b m} ⟨o, es, ep, e, d, r⟩ => ⟨o, es, ep, base_of e (noA e d), d, r⟩
    have hKb : K.In (hidT s₁.heap H) := fun b o e => base_of (KX b o e) (by
      cases q : H b with
      | none => rfl
      | some u =>
        have e' : b = a := hA b (by rw [q]; simp)
        subst e'
        rw [hK (by rw [q]; simp)] at e; cases e)
    have hM : Mod K mg (hidT s₁.heap H) := ⟨hKb, nsK hns, ⟨mb, nsK hb, hbb⟩, let ⟨mc, h1, h2⟩ := hlim; ⟨mc, nsK h1, h2⟩⟩
    have e0 : Env0 P w K mg (hidT s₁.heap H) callerA [] s₁ H := ⟨rfl, hM, fun b o e => of_hidT e, Nat.le_of_eq (hidT_size _ _), trivial, fun b hb => absurd (show b ∈ ([] : List Addr) from hb) (by simp), hok, .of_eq hg⟩
    refine codeAny_mono ((F _ hKb (nsK hns)).run callerA [] s₁ H ⟨[.ref a], []⟩ [.ref a] [.ref a] _ _ hr e0 (hbind s₁ (.ref a)) (.cons rfl .nil) (hsp H hO hS)) fun r s' h => ?_
    cases r with
    | error e => exact (hCX H e s' h).elim
    | ok fl =>
      cases fl with
      | next => exact False.elim h
      | brk => exact False.elim h
      | cont => exact False.elim h
      | ret u =>
        obtain ⟨v, H', os, bare, un, hok', r', q⟩ := h
        have q' : v = .bl true := q
        subst q'
        obtain rfl : u = Value.bool true := r'
        refine ⟨rfl, OldK.of_keep fun b o e => ?_, os, bare⟩
        cases q : H b with
        | none => exact un.keep b o e q (by intro z; exact absurd (show b ∈ ([] : List Addr) from z) (by simp)) (by simp)
        | some u =>
          rcases hO b with z | ⟨ob, xs, z⟩
          · rw [q] at z; cases z
          · have z2 := un.frzs b ob _ z
            obtain ⟨e1, _⟩ := hok b _ z
            obtain ⟨e2, _⟩ := hok' b _ z2
            rw [e] at e1; cases e1
            exact e2
  cases hk : K.lookup a with
  | some o =>
    -- the script is one of the module's own objects
    have e := KX a o hk
    rw [ha] at e
    cases e
    refine core (fun _ => none) (fun _ => .inl rfl) (.inr ⟨_, vs.toArray, _, hk, rfl, rfl, rfl, by rw [List.size_toArray, lenV]; exact hl, by simpa using rv⟩) (fun b u z => by have z' : (none : Option HO) = some u := z; cases z') (fun b z => absurd rfl z) fun z => absurd rfl z
  | none =>
    refine core (fun b => if b = a then some (.frz { cls := .type "list", data := .seq vs.toArray } (.lst (ns.map V.int))) else none) (fun b => ?_) (.inl (.inr ⟨{ cls := .type "list", data := .seq vs.toArray }, if_pos rfl⟩)) (fun b u z => ?_) (fun b z => ?_) fun _ => hk
    · by_cases hb : b = a
      · exact .inr ⟨_, _, if_pos hb⟩
      · exact .inl (if_neg hb)
    · by_cases hb : b = a
      · have z' := (if_pos hb).symm.trans z
        cases z'
        subst hb
        exact ⟨ha, by rw [List.length_map]; exact hl, vs, _, rv, ha⟩
      · have z' := (if_neg hb).symm.trans z
        cases z'
    · by_cases hb : b = a
      · exact hb
      · exact absurd (if_neg hb) z
end L2

namespace L2
open PySem PySem.Spec PyProof.Rows

abbrev KOf {K : PySem.W.Frag} {h : Heap} (_ : K.In h) : PySem.W.Frag := K

end L2

/- THE LAST THEOREM (shape; LID, My.* are yours):
   My.Adr: a structure of the addresses that your layer names (classes, functions); My.Txt K t: a structure (Prop) of the equations over K;
   My.txt_mk : {K} {implicit addresses ..} (e1 : nsIn K mainGlobals "law" = some (some (.ref f))) (e2 : K.lookup f = some ⟨oc, od, .func (fnOf "law" "law" params body scope dV kV doc pm an cdv ct), sl⟩) (e3 : codeIn K cdv "law" = true) .. : ∃ t, My.Txt K t

set_option maxRecDepth 100000 in
set_option maxHeartbeats 0 in
theorem PySem.Challenge.cw_LID_holds : PySem.Challenge.rw_LID.Holds := by
  w_on; o_law; k_head; (case hw => w_witness2)
  k_fill
  refine L2.walk_of (l := PySem.Challenge.rw_LID) (n := 63) (k := 40) (x := "script") (CX := fun w => ..) (sp := fun _ => My.sp_law) rfl (by decide) rfl ⟨rfl, by decide, by decide⟩ (fun w h Y => PySem.W.kIn_of Y) ?F ?S ?C
  case F =>
    intro w mg fa h KX G hmg
    have T : ∃ t, My.Txt (L2.KOf KX) t := by
      dsimp only [L2.KOf]                          -- K must stand as «<heap const> w.params» for k_is
      refine' My.txt_mk ?e1 ?e2 ?e3 ..
      (case e1 => PySem.W.k_is)                    -- in the order: a name -> its address -> its object -> its parts
      (case e2 => PySem.W.k_is)
      ..
    obtain ⟨t, T⟩ := T
    have e0 := hmg.symm.trans (PySem.W.mg_of KX G T.law)
    cases e0                                       -- fa is the law's own address
    exact ⟨_, fun s u => .of_eq rfl, fun base kb nb => My.law_fn T kb nb⟩     -- if «.of_eq rfl» comes too early: refine' ⟨_, ?b, fun base kb nb => My.law_fn T kb nb⟩; exact fun s u => .of_eq rfl
  case S => exact fun w H a ns hl hO hS => ..
  case C => exact ..
(the tactic k_is has no namespace: write k_is) -/

/-! SHORT WORDS over the layer: a def of the text, its body, what a loop and a test want. -/
namespace L2
open PySem PySem.Spec PyProof.Rows

/-! ### the text by places -/
/-- the j-th statement of a class's body -/
def inClass (s : Stmt) (j : Nat) : Stmt := match s with
  | .ClassDef _ _ _ body _ _ _ _ _ _ _ => body.getD j (.Pass ⟨0, 0, 0, 0⟩)
  | _ => .Pass ⟨0, 0, 0, 0⟩
def defArgs (s : Stmt) : Arguments := match s with
  | .FunctionDef _ a _ _ _ _ _ _ _ _ => a
  | _ => { posonlyargs := [], args := [], vararg := none, kwonlyargs := [], kw_defaults := [], kwarg := none, defaults := [] }
def defBody (s : Stmt) : List Stmt := match s with
  | .FunctionDef _ _ b _ _ _ _ _ _ _ => b
  | _ => []
def defScope (s : Stmt) : Scope := match s with
  | .FunctionDef _ _ _ _ _ _ sc _ _ _ => sc
  | _ => { kind := .function, names := [], isGenerator := false, isCoroutine := false }

/-! ### no exception leaves a def -/
abbrev CX0 : CXT := fun _ _ _ _ _ _ => False
abbrev E0 : XK := fun _ _ _ => False
theorem pass0 {X : Cx} : Passes CX0 X E0 := fun _ _ _ _ _ _ _ h => h.elim

/-! ### a def (or method) of the text as it stands behind the top -/
structure Fun (K : PySem.W.Frag) (x qual : Str) (st : Stmt) (f : Addr) (fd : FuncData) : Prop where
  ex : ∃ (oc : Value) (od : Option Addr) (kV doc pm : Value) (an : Option Addr) (cdv ct : Value) (osl : Array (Option Value)),
    fd = PySem.W.fnOf x qual (defArgs st) (defBody st) (defScope st) .none kV doc pm an cdv ct ∧ K.lookup f = some ⟨oc, od, .func fd, osl⟩ ∧ PySem.W.codeIn K cdv qual = true
  kp : PySem.W.keepIn K (.ref f) = true
section
variable {P : Program} {w : World} {K : PySem.W.Frag} {mg : Str → Option Value} {base : Heap}
/-- THE RULE for a def: its body as a term of rules, and the reading of that term -/
theorem Fun.ok {x qual : Str} {st : Stmt} {f : Addr} {fd : FuncData} {N ps : List Str} {k : Nat} {sp : Sp} (F : Fun K x qual st f fd) (S : FnScope N ps (defScope st)) (len : ∀ vs H Q E, sp vs H Q E → vs.length = ps.length)
    (hbody : ∀ (cdv : Value) (A : Around) (outer : List Env) (s : Shared) (H : Hp) (vs : List V) (Q : VK) (E : XK), Room k (A.deeper (envOfC qual (defScope st) s.heap.objs.size f cdv)) → sp vs H Q E →
      ∃ t, PSs (cxOf CX0 P w K mg base N qual (defScope st) f cdv A outer s H E).nox (defBody st) t ∧ t { nx := fun _ H' => Q .non H', rt := Q } (start N vs) H) : FnOk P w K mg base CX0 (k + 1) f fd ps sp := by
  obtain ⟨oc, od, kV, doc, pm, an, cdv, ct, osl, rfl, lk, hcd⟩ := F.ex
  refine fn_of lk hcd S len fun A outer s H vs Q E hr hsp => ?_
  obtain ⟨t, h, q⟩ := hbody cdv A outer s H vs Q E hr hsp
  exact ⟨t, h.nox, q⟩
/-- how its arguments bind (no defaults): h is «fun _ _ _ _ _ _ us hl => match us, hl with | [_, _], _ => rfl», one _ a parameter -/
theorem Fun.binds {x qual : Str} {st : Stmt} {f : Addr} {fd : FuncData} {ps : List Str} (F : Fun K x qual st f fd)
    (h : ∀ (kV doc pm : Value) (an : Option Addr) (cdv ct : Value) (us : List Value), us.length = ps.length → bindArgs (PySem.W.fnOf x qual (defArgs st) (defBody st) (defScope st) .none kV doc pm an cdv ct) ⟨us, []⟩ = pure (ps.zip us)) : Binds K fd ps [] := by
  obtain ⟨oc, od, kV, doc, pm, an, cdv, ct, osl, rfl, lk, hcd⟩ := F.ex
  exact .all (h kV doc pm an cdv ct)
theorem fun_mk {x qual : Str} {st : Stmt} {f : Addr} {oc : Value} {od an : Option Addr} {osl : Array (Option Value)} {kV doc pm cdv ct : Value} (l : K.lookup f = some ⟨oc, od, .func (PySem.W.fnOf x qual (defArgs st) (defBody st) (defScope st) .none kV doc pm an cdv ct), osl⟩)
    (c : PySem.W.codeIn K cdv qual = true) (k : PySem.W.keepIn K (.ref f) = true) : Fun K x qual st f (PySem.W.fnOf x qual (defArgs st) (defBody st) (defScope st) .none kV doc pm an cdv ct) := ⟨⟨oc, od, kV, doc, pm, an, cdv, ct, osl, rfl, l, c⟩, k⟩
end
/-! ### expressions in short: the name that stands in the i-th slot -/
section
variable {X : Cx}
end

/-! ### tests -/
/-! ### heaps -/
/-- all that was tracked is as it was -/
def Same (H H' : Hp) : Prop := ∀ b o, H b = some o → H' b = some o
theorem Same.refl (H : Hp) : Same H H := fun _ _ h => h
theorem Same.trans {H H1 H2 : Hp} (a : Same H H1) (b : Same H1 H2) : Same H H2 := fun c o h => b c o (a c o h)
theorem Same.free {H H' : Hp} (e : Same H H') {l : Addr} (h : H' l = Option.none) : H l = Option.none := by
  cases q : H l with
  | none => rfl
  | some o =>
    rw [e l o q] at h
    cases h
/-! ### a dict's pairs: keys that differ -/
section
variable {κ : Type} [DecidableEq κ]
end
end L2

set_option Elab.async false
set_option linter.all false
set_option maxRecDepth 100000
set_option maxHeartbeats 4000000
namespace M
open PySem PySem.Spec L2
open PyProof.Rows hiding St

/-! ### plain data -/
inductive D where
  | non | bl (b : Bool) | int (i : Int) | str (x : Str)
  | tup (ds : List D) | lst (ds : List D) | scr (ds : List D) | dic (ks : List Key) (vs : List D) | dit (ks : List (List Key)) (vs : List D) | exn (c : Str)

mutual
def D.imm : D → Bool
  | .non => true
  | .bl _ => true
  | .int _ => true
  | .str _ => true
  | .tup ds => D.imms ds
  | .lst _ => false
  | .scr _ => false
  | .dic _ _ => false
  | .dit _ _ => false
  | .exn _ => true
def D.imms : List D → Bool
  | [] => true
  | d :: ds => D.imm d && D.imms ds
end

inductive Res (α : Type) where
  | ok (a : α)
  | exc (c : Str)
  | stuck
def Res.bind {α β : Type} (r : Res α) (f : α → Res β) : Res β :=
  match r with
  | .ok a => f a
  | .exc c => .exc c
  | .stuck => .stuck
instance : Monad Res where
  pure := Res.ok
  bind := Res.bind
theorem bind_inv {α β : Type} {r : Res α} {f : α → Res β} {b : β} (h : (r >>= f) = .ok b) : ∃ a, r = .ok a ∧ f a = .ok b := by
  cases r with
  | ok a => exact ⟨a, rfl, h⟩
  | exc c => cases h
  | stuck => cases h
/-- a condition that must hold -/
def must {α : Type} (c : Prop) [Decidable c] (r : Res α) : Res α := if c then r else .stuck
theorem must_inv {α : Type} {c : Prop} [Decidable c] {r : Res α} {a : α} (h : must c r = .ok a) : c ∧ r = .ok a := by
  unfold must at h
  by_cases hc : c
  · rw [if_pos hc] at h; exact ⟨hc, h⟩
  · rw [if_neg hc] at h; cases h
theorem must_pos {α : Type} {c : Prop} [Decidable c] {r : Res α} (h : c) : must c r = r := if_pos h

/-- a list that nobody changes: the script, a list of the module -/
def LsK (K : PySem.W.Frag) (H : Hp) (a : Addr) (xs : List V) : Prop :=
  (∃ o, H a = some (.frz o (.lst xs))) ∨
    ∃ (o : Obj) (its : Array Value) (n : Nat), K.lookup a = some o ∧ o.cls = .type "list" ∧ o.dict = none ∧ o.data = .seq its n ∧ its.size ≤ sizeLine ∧ Vals xs its.toList
theorem LsK.sql {K : PySem.W.Frag} {H : Hp} {a : Addr} {xs : List V} (h : LsK K H a xs) : SqL K H a xs := by
  rcases h with h | h
  · exact .inl (.inr h)
  · exact .inr h

mutual
/-- v stands for d in H; every object in it that may change is of A, and none lies within itself -/
inductive Rep (K : PySem.W.Frag) : (Addr → Prop) → Hp → V → D → Prop where
  | non {A H} : Rep K A H .non .non
  | bl {A H} (b : Bool) : Rep K A H (.bl b) (.bl b)
  | int {A H} (i : Int) : Rep K A H (.int i) (.int i)
  | str {A H} (x : Str) : x.length ≤ sizeLine → Rep K A H (.str x) (.str x)
  | tup {A H} {a : Addr} {xs : List V} {ds : List D} : H a = some (.tup xs) → Reps K A H xs ds → Rep K A H (.ref a) (.tup ds)
  | lst {A H} {a : Addr} {xs : List V} {ds : List D} : H a = some (.lst xs) → A a → Reps K (fun c => A c ∧ c ≠ a) H xs ds → Rep K A H (.ref a) (.lst ds)
  | lsk {A H} {a : Addr} {xs : List V} {ds : List D} : LsK K H a xs → Reps K A H xs ds → Rep K A H (.ref a) (.scr ds)
  | dic {A H} {a : Addr} {kvs : List (Key × V)} {vs : List V} {ks : List Key} {ds : List D} : H a = some (.dK kvs) → A a → kvs.map (·.1) = ks → kvs.map (·.2) = vs → Reps K (fun c => A c ∧ c ≠ a) H vs ds → Rep K A H (.ref a) (.dic ks ds)
  | dit {A H} {a : Addr} {kvs : List ((List Key) × V)} {vs : List V} {ks : List (List Key)} {ds : List D} : H a = some (.dT kvs) → A a → kvs.map (·.1) = ks → kvs.map (·.2) = vs → Reps K (fun c => A c ∧ c ≠ a) H vs ds → Rep K A H (.ref a) (.dit ks ds)
  | exn {A H} {a b C : Addr} {o : Obj} {c : Str} : H a = some (.frz o (.own b)) → o.cls = .ref C → PySem.W.nsIn K mainGlobals c = some (some (.ref C)) → Rep K A H (.ref a) (.exn c)
inductive Reps (K : PySem.W.Frag) : (Addr → Prop) → Hp → List V → List D → Prop where
  | nil {A H} : Reps K A H [] []
  | cons {A H} {v : V} {d : D} {vs : List V} {ds : List D} : Rep K A H v d → Reps K A H vs ds → Reps K A H (v :: vs) (d :: ds)
end

/-- what may change in the heap without the data being touched -/
def Stay (A : Addr → Prop) (H H' : Hp) : Prop := ∀ a o, H a = some o → (Mut (some o) → A a) → H' a = some o
theorem Stay.mono {A B : Addr → Prop} {H H' : Hp} (h : Stay A H H') (w : ∀ a, B a → A a) : Stay B H H' := fun a o e m => h a o e fun z => w a (m z)
section
variable {K : PySem.W.Frag}
theorem LsK.stay {A : Addr → Prop} {H H' : Hp} {a : Addr} {xs : List V} (h : LsK K H a xs) (st : Stay A H H') : LsK K H' a xs := by
  rcases h with ⟨o, e⟩ | h
  · exact .inl ⟨o, st a _ e (fun z => z.elim)⟩
  · exact .inr h
mutual
theorem Rep.stay : ∀ {A A' : Addr → Prop} {H H' : Hp} {v : V} {d : D}, Rep K A H v d → Stay A H H' → (∀ a, A a → A' a) → Rep K A' H' v d
  | _, _, _, _, _, _, .non, _, _ => .non
  | _, _, _, _, _, _, .bl b, _, _ => .bl b
  | _, _, _, _, _, _, .int i, _, _ => .int i
  | _, _, _, _, _, _, .str x h, _, _ => .str x h
  | _, _, _, _, _, _, .tup e r, st, w => .tup (st _ _ e (fun z => z.elim)) (Reps.stay r st w)
  | _, _, _, _, _, _, .lst e a r, st, w => .lst (st _ _ e (fun _ => a)) (w _ a) (Reps.stay r (st.mono fun _ z => z.1) fun _ z => ⟨w _ z.1, z.2⟩)
  | _, _, _, _, _, _, .lsk e r, st, w => .lsk (e.stay st) (Reps.stay r st w)
  | _, _, _, _, _, _, .dic e a k1 k2 r, st, w => .dic (st _ _ e (fun _ => a)) (w _ a) k1 k2 (Reps.stay r (st.mono fun _ z => z.1) fun _ z => ⟨w _ z.1, z.2⟩)
  | _, _, _, _, _, _, .dit e a k1 k2 r, st, w => .dit (st _ _ e (fun _ => a)) (w _ a) k1 k2 (Reps.stay r (st.mono fun _ z => z.1) fun _ z => ⟨w _ z.1, z.2⟩)
  | _, _, _, _, _, _, .exn e h1 h2, st, w => .exn (st _ _ e (fun z => z.elim)) h1 h2
theorem Reps.stay : ∀ {A A' : Addr → Prop} {H H' : Hp} {vs : List V} {ds : List D}, Reps K A H vs ds → Stay A H H' → (∀ a, A a → A' a) → Reps K A' H' vs ds
  | _, _, _, _, _, _, .nil, _, _ => .nil
  | _, _, _, _, _, _, .cons h t, st, w => .cons (Rep.stay h st w) (Reps.stay t st w)
end
theorem Same.stay {A : Addr → Prop} {H H' : Hp} (h : Same H H') : Stay A H H' := fun a o e _ => h a o e
variable {A A' : Addr → Prop} {H H' : Hp}
theorem Rep.grow {v : V} {d : D} (r : Rep K A H v d) (h : Same H H') : Rep K A H' v d := r.stay (Same.stay h) fun _ z => z
theorem Reps.grow {v : List V} {d : List D} (r : Reps K A H v d) (h : Same H H') : Reps K A H' v d := r.stay (Same.stay h) fun _ z => z
theorem Rep.weak {v : V} {d : D} (r : Rep K A H v d) (w : ∀ a, A a → A' a) : Rep K A' H v d := r.stay (fun _ _ e _ => e) w
theorem Reps.weak {v : List V} {d : List D} (r : Reps K A H v d) (w : ∀ a, A a → A' a) : Reps K A' H v d := r.stay (fun _ _ e _ => e) w
mutual
theorem Rep.imm : ∀ {A A' : Addr → Prop} {H : Hp} {v : V} {d : D}, Rep K A H v d → d.imm = true → Rep K A' H v d
  | _, _, _, _, _, .non, _ => .non
  | _, _, _, _, _, .bl b, _ => .bl b
  | _, _, _, _, _, .int i, _ => .int i
  | _, _, _, _, _, .str x h, _ => .str x h
  | _, _, _, _, _, .tup e r, i => .tup e (Reps.imm r (by simpa only [D.imm] using i))
  | _, _, _, _, _, .lst _ _ _, i => by simp [D.imm] at i
  | _, _, _, _, _, .lsk _ _, i => by simp [D.imm] at i
  | _, _, _, _, _, .dic _ _ _ _ _, i => by simp [D.imm] at i
  | _, _, _, _, _, .dit _ _ _ _ _, i => by simp [D.imm] at i
  | _, _, _, _, _, .exn e h1 h2, _ => .exn e h1 h2
theorem Reps.imm : ∀ {A A' : Addr → Prop} {H : Hp} {vs : List V} {ds : List D}, Reps K A H vs ds → D.imms ds = true → Reps K A' H vs ds
  | _, _, _, _, _, .nil, _ => .nil
  | _, _, _, _, _, .cons h t, i => by
    simp only [D.imms, Bool.and_eq_true] at i
    exact .cons (Rep.imm h i.1) (Reps.imm t i.2)
end
theorem Reps.length : ∀ {A : Addr → Prop} {H : Hp} {vs : List V} {ds : List D}, Reps K A H vs ds → vs.length = ds.length
  | _, _, _, _, .nil => rfl
  | _, _, _, _, .cons _ t => by simp [Reps.length t]
theorem Reps.get : ∀ {A : Addr → Prop} {H : Hp} {vs : List V} {ds : List D} {i : Nat} {d : D}, Reps K A H vs ds → ds[i]? = some d → ∃ v, vs[i]? = some v ∧ Rep K A H v d
  | _, _, _, _, _, _, .nil, e => by simp at e
  | _, _, _, _, 0, _, .cons r _, e => by simp at e; subst e; exact ⟨_, rfl, r⟩
  | _, _, _, _, i + 1, d, .cons _ t, e => by
    obtain ⟨v, h1, h2⟩ := Reps.get (i := i) (d := d) t (by simpa using e)
    exact ⟨v, by simpa using h1, h2⟩
theorem Reps.get' : ∀ {A : Addr → Prop} {H : Hp} {vs : List V} {ds : List D} {i : Nat} {v : V}, Reps K A H vs ds → vs[i]? = some v → ∃ d, ds[i]? = some d ∧ Rep K A H v d
  | _, _, _, _, _, _, .nil, e => by simp at e
  | _, _, _, _, 0, _, .cons r _, e => by simp at e; subst e; exact ⟨_, rfl, r⟩
  | _, _, _, _, i + 1, d, .cons _ t, e => by
    obtain ⟨v, h1, h2⟩ := Reps.get' (i := i) t (by simpa using e)
    exact ⟨v, by simpa using h1, h2⟩
theorem Reps.append : ∀ {A : Addr → Prop} {H : Hp} {vs ws : List V} {ds es : List D}, Reps K A H vs ds → Reps K A H ws es → Reps K A H (vs ++ ws) (ds ++ es)
  | _, _, _, _, _, _, .nil, s => s
  | _, _, _, _, _, _, .cons r t, s => .cons r (Reps.append t s)
theorem Reps.take : ∀ {A : Addr → Prop} {H : Hp} {vs : List V} {ds : List D} (n : Nat), Reps K A H vs ds → Reps K A H (vs.take n) (ds.take n)
  | _, _, _, _, 0, _ => .nil
  | _, _, _, _, _ + 1, .nil => .nil
  | _, _, _, _, n + 1, .cons r t => .cons r (Reps.take n t)
theorem Reps.drop : ∀ {A : Addr → Prop} {H : Hp} {vs : List V} {ds : List D} (n : Nat), Reps K A H vs ds → Reps K A H (vs.drop n) (ds.drop n)
  | _, _, _, _, 0, r => r
  | _, _, _, _, _ + 1, .nil => .nil
  | _, _, _, _, n + 1, .cons _ t => Reps.drop n t
theorem Reps.isEmpty {xs : List V} {ds : List D} (r : Reps K A H xs ds) : ds.isEmpty = xs.isEmpty := by cases r <;> rfl
theorem Rep.lstE {v : V} {ds : List D} (r : Rep K A H v (.lst ds)) : ∃ a xs, v = .ref a ∧ H a = some (.lst xs) ∧ A a ∧ Reps K (fun c => A c ∧ c ≠ a) H xs ds := by
  cases r with
  | lst e h r => exact ⟨_, _, rfl, e, h, r⟩
theorem Rep.scrE {v : V} {ds : List D} (r : Rep K A H v (.scr ds)) : ∃ a xs, v = .ref a ∧ LsK K H a xs ∧ Reps K A H xs ds := by
  cases r with
  | lsk e r => exact ⟨_, _, rfl, e, r⟩
theorem Rep.tupE {v : V} {ds : List D} (r : Rep K A H v (.tup ds)) : ∃ a xs, v = .ref a ∧ H a = some (.tup xs) ∧ Reps K A H xs ds := by
  cases r with
  | tup e r => exact ⟨_, _, rfl, e, r⟩
theorem Rep.intE {v : V} {i : Int} (r : Rep K A H v (.int i)) : v = .int i := by cases r; rfl
theorem Rep.blE {v : V} {b : Bool} (r : Rep K A H v (.bl b)) : v = .bl b := by cases r; rfl
theorem Rep.strE {v : V} {x : Str} (r : Rep K A H v (.str x)) : v = .str x ∧ x.length ≤ sizeLine := by cases r; exact ⟨rfl, by assumption⟩
theorem Rep.nonE {v : V} (r : Rep K A H v .non) : v = .non := by cases r; rfl
theorem Reps.low {a : Addr} {vs : List V} {ds : List D} (r : Reps K (fun c => A c ∧ c ≠ a) H vs ds) : Reps K A H vs ds := r.weak fun _ z => z.1
mutual
theorem Rep.inDom : ∀ {A : Addr → Prop} {H : Hp} {v : V} {d : D}, Rep K A H v d → Rep K (fun c => A c ∧ H c ≠ none) H v d
  | _, _, _, _, .non => .non
  | _, _, _, _, .bl b => .bl b
  | _, _, _, _, .int i => .int i
  | _, _, _, _, .str x h => .str x h
  | _, _, _, _, .tup e r => .tup e (Reps.inDom r)
  | _, _, _, _, .lst e a r => .lst e ⟨a, by rw [e]; simp⟩ ((Reps.inDom r).weak fun _ z => ⟨⟨z.1.1, z.2⟩, z.1.2⟩)
  | _, _, _, _, .lsk e r => .lsk e (Reps.inDom r)
  | _, _, _, _, .dic e a k1 k2 r => .dic e ⟨a, by rw [e]; simp⟩ k1 k2 ((Reps.inDom r).weak fun _ z => ⟨⟨z.1.1, z.2⟩, z.1.2⟩)
  | _, _, _, _, .dit e a k1 k2 r => .dit e ⟨a, by rw [e]; simp⟩ k1 k2 ((Reps.inDom r).weak fun _ z => ⟨⟨z.1.1, z.2⟩, z.1.2⟩)
  | _, _, _, _, .exn e h1 h2 => .exn e h1 h2
theorem Reps.inDom : ∀ {A : Addr → Prop} {H : Hp} {vs : List V} {ds : List D}, Reps K A H vs ds → Reps K (fun c => A c ∧ H c ≠ none) H vs ds
  | _, _, _, _, .nil => .nil
  | _, _, _, _, .cons h t => .cons (Rep.inDom h) (Reps.inDom t)
end
theorem Same.upd {H : Hp} {p : Addr} {o : HO} (h : H p = none) : Same H (L2.upd H p o) := fun b u e => by rw [upd_ne (ne_of_none e h)]; exact e
/-- things that are there, in a list that is laid -/
theorem Reps.laid {p : Addr} {o : HO} {vs : List V} {ds : List D} (r : Reps K A H vs ds) (hp : H p = none) : Reps K (fun c => A c ∧ c ≠ p) (L2.upd H p o) vs ds :=
  (r.inDom.grow (Same.upd hp)).weak fun c z => ⟨z.1, fun e => z.2 (by rw [e]; exact hp)⟩
end

/-! ### slots -/
inductive Slot where
  | un
  | own (d : D)
  | shr (d : D)
abbrev Sl := List Slot
def Owned (env : Sl) (σ : St) (a : Addr) : Prop := ∃ (i : Nat) (d : D), env[i]? = some (.own d) ∧ σ[i]? = some (some (.ref a))
abbrev NotO (env : Sl) (σ : St) : Addr → Prop := fun a => ¬ Owned env σ a
/-- what a slot may hold: nothing that is owned, and of G alone -/
abbrev Sf (G : Addr → Prop) (env : Sl) (σ : St) : Addr → Prop := fun a => ¬ Owned env σ a ∧ G a
inductive Top (K : PySem.W.Frag) (A : Addr → Prop) (H : Hp) (a : Addr) : D → Prop where
  | lst {xs : List V} {ds : List D} : H a = some (.lst xs) → Reps K A H xs ds → Top K A H a (.lst ds)
  | dic {kvs : List (Key × V)} {vs : List V} {ks : List Key} {ds : List D} : H a = some (.dK kvs) → kvs.map (·.1) = ks → kvs.map (·.2) = vs → Reps K A H vs ds → Top K A H a (.dic ks ds)
  | dit {kvs : List ((List Key) × V)} {vs : List V} {ks : List (List Key)} {ds : List D} : H a = some (.dT kvs) → kvs.map (·.1) = ks → kvs.map (·.2) = vs → Reps K A H vs ds → Top K A H a (.dit ks ds)
theorem Top.rep {K : PySem.W.Frag} {A A' : Addr → Prop} {H : Hp} {a : Addr} {d : D} (t : Top K A H a d) (w : ∀ b, A b → A' b ∧ b ≠ a) (ha : A' a) : Rep K A' H (.ref a) d := by
  cases t with
  | lst e r => exact .lst e ha (r.weak w)
  | dic e k1 k2 r => exact .dic e ha k1 k2 (r.weak w)
  | dit e k1 k2 r => exact .dit e ha k1 k2 (r.weak w)
theorem Top.stay {K : PySem.W.Frag} {A A' : Addr → Prop} {H H' : Hp} {a : Addr} {d : D} (t : Top K A H a d) (st : Stay A H H') (w : ∀ b, A b → A' b) (ha : ∀ o, H a = some o → H' a = some o) : Top K A' H' a d := by
  cases t with
  | lst e r => exact .lst (ha _ e) (r.stay st w)
  | dic e k1 k2 r => exact .dic (ha _ e) k1 k2 (r.stay st w)
  | dit e k1 k2 r => exact .dit (ha _ e) k1 k2 (r.stay st w)
theorem Top.there {K : PySem.W.Frag} {A : Addr → Prop} {H : Hp} {a : Addr} {d : D} (t : Top K A H a d) : ∃ o, H a = some o ∧ Mut (some o) := by
  cases t with
  | lst e r => exact ⟨_, e, trivial⟩
  | dic e _ _ r => exact ⟨_, e, trivial⟩
  | dit e _ _ r => exact ⟨_, e, trivial⟩
structure EnvOk (K : PySem.W.Frag) (G : Addr → Prop) (H0 : Hp) (env : Sl) (σ : St) (H : Hp) : Prop where
  len : σ.length = env.length
  base : Same H0 H
  g0 : ∀ a, H0 a = none → G a
  shr : ∀ (i : Nat) (d : D), env[i]? = some (.shr d) → ∃ v, σ[i]? = some (some v) ∧ Rep K (Sf G env σ) H v d
  own : ∀ (i : Nat) (d : D), env[i]? = some (.own d) → ∃ a, σ[i]? = some (some (.ref a)) ∧ H0 a = none ∧ Top K (Sf G env σ) H a d
  dis : ∀ (i j : Nat) (d e : D) (a : Addr), env[i]? = some (.own d) → env[j]? = some (.own e) → σ[i]? = some (some (.ref a)) → σ[j]? = some (some (.ref a)) → i = j
section
variable {K : PySem.W.Frag} {G : Addr → Prop} {H0 H H' : Hp} {env : Sl} {σ : St}
theorem EnvOk.grow (e : EnvOk K G H0 env σ H) (h : Same H H') : EnvOk K G H0 env σ H' where
  len := e.len
  base := e.base.trans h
  g0 := e.g0
  shr := fun i d z => let ⟨v, h1, h2⟩ := e.shr i d z; ⟨v, h1, h2.grow h⟩
  own := fun i d z => let ⟨a, h1, h2, h3⟩ := e.own i d z; ⟨a, h1, h2, h3.stay (Same.stay h) (fun _ z => z) (fun o q => h _ o q)⟩
  dis := e.dis
theorem EnvOk.there (e : EnvOk K G H0 env σ H) {a : Addr} (o : Owned env σ a) : ∃ u, H a = some u := by
  obtain ⟨i, d, h1, h2⟩ := o
  obtain ⟨b, h3, _, h4⟩ := e.own i d h1
  rw [h2] at h3; cases h3
  obtain ⟨u, h5, _⟩ := h4.there
  exact ⟨u, h5⟩
theorem EnvOk.mutO (k : EnvOk K G H0 env σ H) {a : Addr} (o : Owned env σ a) {u : HO} (e : H a = some u) : Mut (some u) := by
  obtain ⟨i, d, h1, h2⟩ := o
  obtain ⟨b, h3, _, h4⟩ := k.own i d h1
  rw [h2] at h3; cases h3
  obtain ⟨u', h5, m⟩ := h4.there
  rw [e] at h5; cases h5; exact m
/-- what is new may be held -/
theorem EnvOk.new (k : EnvOk K G H0 env σ H) : ∀ a, H a = none → Sf G env σ a := fun a z => ⟨fun o => (by
  obtain ⟨u, q⟩ := k.there o
  rw [z] at q; cases q), k.g0 a (Same.free k.base z)⟩
end

/-! ### levels: b: as it is; s: what a slot may hold; t: that, and new at its top -/
inductive Lv where
  | b | s | t
abbrev Any : Addr → Prop := fun _ => True
def Lv.A (l : Lv) (G : Addr → Prop) (env : Sl) (σ : St) : Addr → Prop :=
  match l with
  | .b => Any
  | .s => Sf G env σ
  | .t => Sf G env σ
/-- it is no list of the old ones -/
def NewTop (H : Hp) (v : V) : Prop := ∀ a, v = .ref a → ∀ o, H a = some o → ¬ Mut (some o)
def Lv.T (l : Lv) (H : Hp) (v : V) : Prop :=
  match l with
  | .t => NewTop H v
  | _ => True
theorem NewTop.grow {H H' : Hp} {v : V} (h : Same H H') (n : NewTop H' v) : NewTop H v := fun a e o q => n a e o (h a o q)
theorem Lv.Tgrow {l : Lv} {H H' : Hp} {v : V} (h : Same H H') (n : l.T H' v) : l.T H v := by
  cases l with
  | t => exact NewTop.grow h n
  | b => trivial
  | s => trivial

def tE (K : PySem.W.Frag) (l : Lv) (f : Sl → Res D) : TE := fun σ H Q => ∃ G H0 env d, EnvOk K G H0 env σ H ∧ f env = .ok d ∧ ∀ v H', Same H H' → Rep K (l.A G env σ) H' v d → l.T H v → Q v H'
def tT (K : PySem.W.Frag) (f : Sl → Res Bool) : TT := fun σ H Q => ∃ G H0 env b, EnvOk K G H0 env σ H ∧ f env = .ok b ∧ ∀ H', Same H H' → Q b H'
def tA (K : PySem.W.Frag) (l : Lv) (f : Sl → Res (List D)) : TA := fun σ H Q => ∃ G H0 env ds, EnvOk K G H0 env σ H ∧ f env = .ok ds ∧ ∀ vs H', Same H H' → Reps K (l.A G env σ) H' vs ds → Q vs H'
@[irreducible] def DE (X : Cx) (l : Lv) (e : Expr) (f : Sl → Res D) : Prop := PE X e (tE X.K l f)
@[irreducible] def DT (X : Cx) (e : Expr) (f : Sl → Res Bool) : Prop := PT X e (tT X.K f)
@[irreducible] def DA (X : Cx) (l : Lv) (es : List Expr) (f : Sl → Res (List D)) : Prop := PA X es (tA X.K l f)

/-- what a statement comes to -/
inductive Out where
  | nx (env : Sl) | rt (fr : Bool) (d : D) | bk (env : Sl) | ct (env : Sl)
/-- what a statement leaves alone -/
structure Frm (env : Sl) (σ : St) (H : Hp) (env' : Sl) (σ' : St) (H' : Hp) : Prop where
  keep : ∀ b o, H b = some o → ¬ Owned env σ b → H' b = some o
  more : ∀ b, Owned env' σ' b → Owned env σ b ∨ H b = none
  size : ∀ b, H' b = none → H b = none
/-- what is wanted at what a statement comes to -/
def Post (K : PySem.W.Frag) (G : Addr → Prop) (H0 : Hp) (env : Sl) (σ : St) (H : Hp) (E : Ends) (o : Out) : Prop :=
  match o with
  | .nx env' => ∀ σ' H', EnvOk K G H0 env' σ' H' → Frm env σ H env' σ' H' → E.nx σ' H'
  | .bk env' => ∀ σ' H', EnvOk K G H0 env' σ' H' → Frm env σ H env' σ' H' → E.bk σ' H'
  | .ct env' => ∀ σ' H', EnvOk K G H0 env' σ' H' → Frm env σ H env' σ' H' → E.ct σ' H'
  | .rt fr d => ∀ v H', Same H0 H' → Rep K G H' v d → (fr = true → NewTop H0 v) → E.rt v H'
def tS (K : PySem.W.Frag) (g : Sl → Res Out) : TS := fun E σ H => ∃ G H0 env o, EnvOk K G H0 env σ H ∧ g env = .ok o ∧ Post K G H0 env σ H E o
@[irreducible] def DS (X : Cx) (st : Stmt) (g : Sl → Res Out) : Prop := PS X st (tS X.K g)
@[irreducible] def DSs (X : Cx) (st : List Stmt) (g : Sl → Res Out) : Prop := PSs X st (tS X.K g)

section
variable {X : Cx} {e : Expr} {es : List Expr} {st : Stmt} {sts : List Stmt}
theorem PE.imp {t t' : TE} (h : PE X e t) (w : ∀ σ H Q, t' σ H Q → t σ H Q) : PE X e t' := fun pins s σ H Q I q => h pins s σ H Q I (w σ H Q q)
theorem PT.imp {t t' : TT} (h : PT X e t) (w : ∀ σ H Q, t' σ H Q → t σ H Q) : PT X e t' := fun pins s σ H Q I q => h pins s σ H Q I (w σ H Q q)
theorem PA.imp {t t' : TA} (h : PA X es t) (w : ∀ σ H Q, t' σ H Q → t σ H Q) : PA X es t' := fun pos pins s σ H Q I q => h pos pins s σ H Q I (w σ H Q q)
theorem PS.imp {t t' : TS} (h : PS X st t) (w : ∀ E σ H, t' E σ H → t E σ H) : PS X st t' := fun pins s σ H E I q => h pins s σ H E I (w E σ H q)
theorem PSs.imp {t t' : TS} (h : PSs X sts t) (w : ∀ E σ H, t' E σ H → t E σ H) : PSs X sts t' := fun pins s σ H E I q => h pins s σ H E I (w E σ H q)
end

theorem Frm.refl {env : Sl} {σ : St} {H H' : Hp} (h : Same H H') : Frm env σ H env σ H' := ⟨fun b o e _ => h b o e, fun b o => .inl o, fun b e => Same.free h e⟩
theorem Frm.trans {env env1 env2 : Sl} {σ σ1 σ2 : St} {H H1 H2 : Hp} (a : Frm env σ H env1 σ1 H1) (b : Frm env1 σ1 H1 env2 σ2 H2) : Frm env σ H env2 σ2 H2 where
  keep := fun c o e n => b.keep c o (a.keep c o e n) fun z => by
    rcases a.more c z with z | z
    · exact n z
    · rw [e] at z; cases z
  more := fun c o => by
    rcases b.more c o with z | z
    · exact a.more c z
    · exact .inr (a.size c z)
  size := fun c e => a.size c (b.size c e)
theorem Frm.grow {env env1 : Sl} {σ σ1 : St} {H Hm H1 : Hp} (h : Same H Hm) (b : Frm env σ Hm env1 σ1 H1) : Frm env σ H env1 σ1 H1 := (Frm.refl h).trans b

/-! ### levels up and down -/
section
variable {X : Cx} {e : Expr} {f : Sl → Res D}
theorem Lv.weak_b {l : Lv} {G : Addr → Prop} {env : Sl} {σ : St} : ∀ a, l.A G env σ a → Any a := fun _ _ => trivial
theorem DE.b {l : Lv} (h : DE X l e f) : DE X .b e f := by
 with_unfolding_all exact (PE.imp h fun σ H Q ⟨G, H0, env, d, k, ef, q⟩ => ⟨G, H0, env, d, k, ef, fun v H' s r _ => q v H' s (r.weak Lv.weak_b) trivial⟩)
theorem DE.s (h : DE X .t e f) : DE X .s e f := by
 with_unfolding_all exact (PE.imp h fun σ H Q ⟨G, H0, env, d, k, ef, q⟩ => ⟨G, H0, env, d, k, ef, fun v H' s r _ => q v H' s r trivial⟩)
theorem imm_top {K : PySem.W.Frag} {A : Addr → Prop} {H H' : Hp} {v : V} {d : D} (s : Same H H') (r : Rep K A H' v d) (i : d.imm = true) : NewTop H v := fun a e o q m => by
  subst e
  cases r with
  | tup e _ => rw [s _ _ q] at e; cases e; exact m
  | lst _ _ _ => simp [D.imm] at i
  | lsk _ _ => simp [D.imm] at i
  | dic _ _ _ _ _ => simp [D.imm] at i
  | dit _ _ _ _ _ => simp [D.imm] at i
  | exn e _ _ => rw [s _ _ q] at e; cases e; exact m
/-- what can't change is new -/
def chk (f : Sl → Res D) : Sl → Res D := fun env => f env >>= fun d => must (d.imm = true) (.ok d)
theorem DE.chk {l l' : Lv} (h : DE X l e f) : DE X l' e (chk f) := by
 with_unfolding_all exact (PE.imp h fun σ H Q ⟨G, H0, env, d, k, ef, q⟩ => by
  obtain ⟨d', e1, e2⟩ := bind_inv ef
  obtain ⟨i, e3⟩ := must_inv e2
  cases e3
  refine ⟨G, H0, env, d, k, e1, fun v H' s r _ => q v H' s (r.imm i) ?_⟩
  cases l' with
  | t => exact imm_top s r i
  | b => trivial
  | s => trivial)
end
end M

set_option Elab.async false
set_option linter.all false
set_option maxRecDepth 100000
set_option maxHeartbeats 4000000
namespace M
open PySem PySem.Spec L2
open PyProof.Rows hiding St

/-! ### argument lists without stars -/
def notStar : Expr → Bool
  | .Starred _ _ => false
  | _ => true
theorem star_plain {e : Expr} {es : List Expr} {env : Env} (h : notStar e = true) : starEach (e :: es) env = (false, eval e env) :: starEach es env := by
  cases e <;> first | rfl | cases h
theorem star_all {es : List Expr} {env : Env} (h : es.all notStar = true) : (starEach es env).all (fun x => !x.1) = true := by
  induction es with
  | nil => rfl
  | cons e r ih =>
    rw [List.all_cons, Bool.and_eq_true] at h
    rw [star_plain h.1, List.all_cons, ih h.2]; rfl
theorem back_all {pos : Pos} {l : List (Bool × Sem Value)} (h : l.all (fun x => !x.1) = true) : (backTo pos l).all (fun x => !x.1) = true := by
  induction l with
  | nil => rfl
  | cons p r ih =>
    obtain ⟨s, t⟩ := p
    rw [List.all_cons, Bool.and_eq_true] at h
    show ((!s) && (backTo pos r).all (fun x => !x.1)) = true
    rw [ih h.2, Bool.and_true]; exact h.1
theorem any_plain {pos : Pos} {es : List Expr} {env : Env} (h : es.all notStar = true) : (backTo pos (starEach es env)).any (·.1) = false := by
  have := back_all (pos := pos) (star_all (env := env) h)
  rw [List.all_eq_true] at this
  rw [List.any_eq_false]
  intro x hx z
  have q := this x hx
  rw [z] at q; cases q
theorem few_plain {cpos : Pos} {e : Expr} {es : List Expr} {env : Env} (h : (e :: es).all notStar = true) (hl : decide ((e :: es).length < 30) = true) :
    ((backTo cpos (starEach (e :: es) env)).all (fun x => !x.1) && (backToKw cpos (keywordEach [] env)).all (fun x => x.1.isSome)
      && decide ((e :: es).length + ([] : List Keyword).length + (if ([] : List Keyword).isEmpty then 0 else 1) < 30)) = true := by
  have hk : (backToKw cpos (keywordEach [] env)).all (fun x => x.1.isSome) = true := rfl
  rw [back_all (star_all h), hk]
  simpa using hl

section
variable {X : Cx} {e a b c o : Expr} {es : List Expr} {pos : Pos} {l l1 l2 l' : Lv} {f f1 f2 f3 : Sl → Res D}

/-! ### names, constants -/
def cI (i : Int) : Sl → Res D := fun _ => .ok (.int i)
def cB (b : Bool) : Sl → Res D := fun _ => .ok (.bl b)
def cN : Sl → Res D := fun _ => .ok .non
def cS (x : Str) : Sl → Res D := fun _ => .ok (.str x)
def rdS (i : Nat) : Sl → Res D := fun env => match env[i]? with
  | some (.shr d) => .ok d
  | _ => .stuck
def rdB (i : Nat) : Sl → Res D := fun env => match env[i]? with
  | some (.shr d) => .ok d
  | some (.own d) => .ok d
  | _ => .stuck
theorem rdS_inv {i : Nat} {env : Sl} {d : D} (h : rdS i env = .ok d) : env[i]? = some (.shr d) := by
  unfold rdS at h
  split at h
  · cases h; assumption
  · cases h
theorem rdB_inv {i : Nat} {env : Sl} {d : D} (h : rdB i env = .ok d) : env[i]? = some (.shr d) ∨ env[i]? = some (.own d) := by
  unfold rdB at h
  split at h
  · cases h; left; assumption
  · cases h; right; assumption
  · cases h
theorem own_ne {K : PySem.W.Frag} {G : Addr → Prop} {H0 H : Hp} {env : Sl} {σ : L2.St} {i : Nat} {d : D} {a : Addr} (k : EnvOk K G H0 env σ H) (h1 : env[i]? = some (.own d)) (h2 : σ[i]? = some (some (.ref a))) : ∀ c, Sf G env σ c → c ≠ a := fun c z e => z.1 (by rw [e]; exact ⟨i, d, h1, h2⟩)
/-- a name's value, of a slot that is not owned -/
theorem dv (i : Nat) {x : Str} (hN : X.N[i]? = some x := by rfl) (hv : Vis X.env.scope x := by first | exact Or.inl rfl | exact Or.inr (Or.inl rfl) | exact Or.inr (Or.inr rfl)) (hd : (x == ("__debug__" : Str)) = false := by decide)
    (hcd : (x == ("__classdict__" : Str)) = false := by decide) : DE X .s (.Name x pos) (rdS i) := by
 with_unfolding_all exact (
  PE.imp (pe_var hN hv hd hcd) fun σ H Q ⟨G, H0, env, d, k, ef, q⟩ => by
    obtain ⟨v, h1, h2⟩ := k.shr i d (rdS_inv ef)
    exact ⟨v, h1, q v H (Same.refl H) h2 trivial⟩)
/-- a name's value, looked at only -/
theorem db (i : Nat) {x : Str} (hN : X.N[i]? = some x := by rfl) (hv : Vis X.env.scope x := by first | exact Or.inl rfl | exact Or.inr (Or.inl rfl) | exact Or.inr (Or.inr rfl)) (hd : (x == ("__debug__" : Str)) = false := by decide)
    (hcd : (x == ("__classdict__" : Str)) = false := by decide) : DE X .b (.Name x pos) (rdB i) := by
 with_unfolding_all exact (
  PE.imp (pe_var hN hv hd hcd) fun σ H Q ⟨G, H0, env, d, k, ef, q⟩ => by
    rcases rdB_inv ef with z | z
    · obtain ⟨v, h1, h2⟩ := k.shr i d z
      exact ⟨v, h1, q v H (Same.refl H) (h2.weak fun _ _ => trivial) trivial⟩
    · obtain ⟨v, h1, _, h2⟩ := k.own i d z
      exact ⟨_, h1, q _ H (Same.refl H) (h2.rep (fun c y => ⟨trivial, own_ne k z h1 c y⟩) trivial) trivial⟩)
/-- plain values: of every level -/
def Sc (K : PySem.W.Frag) (v : V) (d : D) : Prop := (∀ A H, Rep K A H v d) ∧ ∀ a, v ≠ .ref a
theorem Sc.T {K : PySem.W.Frag} {v : V} {d : D} {H : Hp} (h : Sc K v d) : l.T H v := by
  cases l with
  | t => exact fun a e => absurd e (h.2 a)
  | b => trivial
  | s => trivial
theorem sc_int {K : PySem.W.Frag} (i : Int) : Sc K (.int i) (.int i) := ⟨fun _ _ => .int i, fun a e => by cases e⟩
theorem sc_bl {K : PySem.W.Frag} (i : Bool) : Sc K (.bl i) (.bl i) := ⟨fun _ _ => .bl i, fun a e => by cases e⟩
theorem sc_non {K : PySem.W.Frag} : Sc K .non .non := ⟨fun _ _ => .non, fun a e => by cases e⟩
theorem sc_str {K : PySem.W.Frag} (x : Str) (h : x.length ≤ sizeLine) : Sc K (.str x) (.str x) := ⟨fun _ _ => .str x h, fun a e => by cases e⟩
theorem de_c {v : V} {d : D} (h : PE X e (tC v)) (r : Sc X.K v d) : DE X l e (fun _ => .ok d) := by
 with_unfolding_all exact (
  PE.imp h fun σ H Q ⟨G, H0, env, d', k, ef, q⟩ => by
    cases ef
    exact q v H (Same.refl H) (r.1 _ H) r.T)
theorem de_int {i : Int} {j} : DE X l (.Constant (.int i) j pos) (cI i) := de_c pe_int (sc_int i)
theorem de_bl {i : Bool} {j} : DE X l (.Constant (.bool i) j pos) (cB i) := de_c pe_bl (sc_bl i)
theorem de_non {j} : DE X l (.Constant .none j pos) cN := de_c pe_non sc_non
theorem de_str {x : Str} {j} (h : x.length ≤ sizeLine := by decide) : DE X l (.Constant (.str x) j pos) (cS x) := de_c pe_str (sc_str x h)
/-- a constant of the module -/
theorem de_gint {x : Str} {i : Int} {t : Tok} (hg : Gl X x) (hm : X.mg x = some (.int i t)) (hd : (x == ("__debug__" : Str)) = false := by decide) : DE X l (.Name x pos) (cI i) :=
  de_c (pe_glob (v := .int i) hg hm ⟨t, rfl⟩ hd) (sc_int i)
/-! ### operations of two values -/
/-- with a plain answer -/
def OpS (K : PySem.W.Frag) (r : R2) (g : D → D → Res D) : Prop := ∀ (x y : V) (H : Hp) (a b d : D) (Q : VK), Rep K Any H x a → Rep K Any H y b → g a b = .ok d → (∀ v, Sc K v d → Q v H) → r x y H Q
/-- with an answer made of both -/
def OpD (K : PySem.W.Frag) (r : R2) (g : D → D → Res D) : Prop := ∀ (A : Addr → Prop) (x y : V) (H : Hp) (a b d : D) (Q : VK), Rep K A H x a → Rep K A H y b → g a b = .ok d → (∀ v H', Same H H' → Rep K (fun c => H c = none ∨ A c) H' v d → NewTop H v → Q v H') → r x y H Q
def two (f1 f2 : Sl → Res D) (g : D → D → Res D) : Sl → Res D := fun env => f1 env >>= fun x => f2 env >>= fun y => g x y
theorem tOp_S {K : PySem.W.Frag} {r : R2} {g : D → D → Res D} (hr : OpS K r g) {σ : L2.St} {H : Hp} {Q : VK} (h : tE K l (two f1 f2 g) σ H Q) : tOp r (tE K l1 f1) (tE K l2 f2) σ H Q := by
  obtain ⟨G, H0, env, d, k, ef, q⟩ := h
  obtain ⟨a, e1, ef⟩ := bind_inv ef
  obtain ⟨b, e2, e3⟩ := bind_inv ef
  refine ⟨G, H0, env, a, k, e1, fun x H1 s1 r1 _ => ⟨G, H0, env, b, k.grow s1, e2, fun y H2 s2 r2 _ => ?_⟩⟩
  exact hr x y H2 a b d Q ((r1.grow s2).weak Lv.weak_b) (r2.weak Lv.weak_b) e3 fun v sc => q v H2 (s1.trans s2) (sc.1 _ _) sc.T
theorem tOp_D {K : PySem.W.Frag} {r : R2} {g : D → D → Res D} (hr : OpD K r g) {σ : L2.St} {H : Hp} {Q : VK} (h : tE K .t (two f1 f2 g) σ H Q) : tOp r (tE K .s f1) (tE K .s f2) σ H Q := by
  obtain ⟨G, H0, env, d, k, ef, q⟩ := h
  obtain ⟨a, e1, ef⟩ := bind_inv ef
  obtain ⟨b, e2, e3⟩ := bind_inv ef
  refine ⟨G, H0, env, a, k, e1, fun x H1 s1 r1 _ => ⟨G, H0, env, b, k.grow s1, e2, fun y H2 s2 r2 _ => ?_⟩⟩
  have sm := s1.trans s2
  exact hr _ x y H2 a b d Q (r1.grow s2) r2 e3 fun v H3 s3 r3 nt => q v H3 (sm.trans s3) (r3.weak fun c z => z.elim (fun z => k.new c (Same.free sm z)) fun z => z) (nt.grow sm)
theorem tOp_B {K : PySem.W.Frag} {r : R2} {g : D → D → Res D} (hr : OpD K r g) {σ : L2.St} {H : Hp} {Q : VK} (h : tE K .b (two f1 f2 g) σ H Q) : tOp r (tE K .b f1) (tE K .b f2) σ H Q := by
  obtain ⟨G, H0, env, d, k, ef, q⟩ := h
  obtain ⟨a, e1, ef⟩ := bind_inv ef
  obtain ⟨b, e2, e3⟩ := bind_inv ef
  refine ⟨G, H0, env, a, k, e1, fun x H1 s1 r1 _ => ⟨G, H0, env, b, k.grow s1, e2, fun y H2 s2 r2 _ => ?_⟩⟩
  have sm := s1.trans s2
  exact hr _ x y H2 a b d Q (r1.grow s2) r2 e3 fun v H3 s3 r3 nt => q v H3 (sm.trans s3) (r3.weak fun c _ => trivial) trivial
theorem de_op {op : Operator} {r : R2} {g : D → D → Res D} (ho : OpR X (binaryOp op) r) (hr : OpS X.K r g) (ha : DE X l1 a f1) (hb : DE X l2 b f2) : DE X l (.BinOp a op b pos) (two f1 f2 g) := by
 with_unfolding_all exact (
  PE.imp (pe_op ho ha hb) fun _ _ _ h => tOp_S hr h)
theorem de_opT {op : Operator} {r : R2} {g : D → D → Res D} (ho : OpR X (binaryOp op) r) (hr : OpD X.K r g) (ha : DE X .s a f1) (hb : DE X .s b f2) : DE X .t (.BinOp a op b pos) (two f1 f2 g) := by
 with_unfolding_all exact (
  PE.imp (pe_op ho ha hb) fun _ _ _ h => tOp_D hr h)
theorem de_opB {op : Operator} {r : R2} {g : D → D → Res D} (ho : OpR X (binaryOp op) r) (hr : OpD X.K r g) (ha : DE X .b a f1) (hb : DE X .b b f2) : DE X .b (.BinOp a op b pos) (two f1 f2 g) := by
 with_unfolding_all exact (
  PE.imp (pe_op ho ha hb) fun _ _ _ h => tOp_B hr h)
theorem de_cmp {op : CmpOp} {r : R2} {g : D → D → Res D} (ho : OpR X (compareOp op) r) (hr : OpS X.K r g) (ha : DE X l1 a f1) (hb : DE X l2 b f2) (hm : behindInMarks op b = false := by first | exact nomark _ | (with_unfolding_all rfl)) : DE X l (.Compare a [op] [b] pos) (two f1 f2 g) := by
 with_unfolding_all exact (
  PE.imp (pe_cmpR ho ha hb hm) fun _ _ _ h => tOp_S hr h)
/-- a comparison's truth -/
def asB (f : Sl → Res D) : Sl → Res Bool := fun env => f env >>= fun d => match d with
  | .bl b => .ok b
  | _ => .stuck
theorem asB_inv {env : Sl} {b : Bool} (h : asB f env = .ok b) : f env = .ok (.bl b) := by
  obtain ⟨d, e1, e2⟩ := bind_inv h
  cases d with
  | bl c => cases e2; exact e1
  | _ => cases e2
theorem tTest_D {K : PySem.W.Frag} {t : TE} (ht : ∀ σ H Q, tE K l f σ H Q → t σ H Q) {σ : L2.St} {H : Hp} {Q : Bool → Hp → Prop} (h : tT K (asB f) σ H Q) : tTest t σ H Q := by
  obtain ⟨G, H0, env, b, k, ef, q⟩ := h
  refine ht σ H _ ⟨G, H0, env, .bl b, k, asB_inv ef, fun v H' s r _ => ⟨b, r.blE, q H' s⟩⟩
theorem dt_cmp {op : CmpOp} {r : R2} {g : D → D → Res D} (ho : OpR X (compareOp op) r) (hr : OpS X.K r g) (ha : DE X l1 a f1) (hb : DE X l2 b f2) (hm : behindInMarks op b = false := by first | exact nomark _ | (with_unfolding_all rfl)) : DT X (.Compare a [op] [b] pos) (asB (two f1 f2 g)) := by
 with_unfolding_all exact (
  PT.imp (pt_cmpR ho ha hb hm) fun _ _ _ h => tTest_D (l := .b) (fun _ _ _ h => tOp_S hr h) h)
/-- a op1 b op2 c -/
def chain (f1 f2 f3 : Sl → Res D) (g g' : D → D → Res D) : Sl → Res D := fun env => f1 env >>= fun x => f2 env >>= fun y => g x y >>= fun z => match z with
  | .bl true => f3 env >>= fun w => g' y w
  | .bl false => .ok (.bl false)
  | _ => .stuck
theorem tChain_D {K : PySem.W.Frag} {l3 : Lv} {r r' : R2} {g g' : D → D → Res D} (hr : OpS K r g) (hr' : OpS K r' g') {σ : L2.St} {H : Hp} {Q : VK} (h : tE K l (chain f1 f2 f3 g g') σ H Q) : tChain r r' (tE K l1 f1) (tE K l2 f2) (tE K l3 f3) σ H Q := by
  obtain ⟨G, H0, env, d, k, ef, q⟩ := h
  obtain ⟨a, e1, ef⟩ := bind_inv ef
  obtain ⟨b, e2, ef⟩ := bind_inv ef
  obtain ⟨z, e3, e4⟩ := bind_inv ef
  refine ⟨G, H0, env, a, k, e1, fun x H1 s1 r1 _ => ⟨G, H0, env, b, k.grow s1, e2, fun y H2 s2 r2 _ => ?_⟩⟩
  refine hr x y H2 a b z _ ((r1.grow s2).weak Lv.weak_b) (r2.weak Lv.weak_b) e3 fun v sc => ?_
  cases z with
  | bl t =>
    refine ⟨t, (sc.1 Any H2).blE, ?_⟩
    cases t with
    | false =>
      cases e4
      rw [if_neg Bool.false_ne_true]
      exact q _ H2 (s1.trans s2) (.bl false) (sc_bl (K := K) false).T
    | true =>
      obtain ⟨w, e5, e6⟩ := bind_inv e4
      rw [if_pos rfl]
      refine ⟨G, H0, env, w, (k.grow s1).grow s2, e5, fun y' H4 s4 r4 _ => ?_⟩
      refine hr' y y' H4 b w d Q ((r2.grow s4).weak Lv.weak_b) (r4.weak Lv.weak_b) e6 fun v sc => q v H4 (s1.trans (s2.trans s4)) (sc.1 _ _) sc.T
  | _ => cases e4
theorem dt_chain {op op' : CmpOp} {l3 : Lv} {r r' : R2} {g g' : D → D → Res D} (ho : OpR X (compareOp op) r) (hr : OpS X.K r g) (ho' : OpR X (compareOp op') r') (hr' : OpS X.K r' g') (ha : DE X l1 a f1) (hb : DE X l2 b f2) (hc : DE X l3 c f3)
    (hm : lastMarks [op, op'] [b, c] = false := by with_unfolding_all rfl) : DT X (.Compare a [op, op'] [b, c] pos) (asB (chain f1 f2 f3 g g')) := by
 with_unfolding_all exact (
  PT.imp (pt_chain ho ho' ha hb hc hm) fun _ _ _ h => tTest_D (l := .b) (fun _ _ _ h => tChain_D hr hr' h) h)

/-! ### tests -/
theorem dt_val (h : DE X l e f) (he : ∀ whole, isTrue e X.env whole = (do let v ← whole; standAt e.pos; holding [v] (truthy v)) := by intro _; rfl) : DT X e (asB f) := by
 with_unfolding_all exact (
  PT.imp (pt_val h he) fun _ _ _ h => tTest_D (l := l) (fun _ _ _ h => h) h)
def tru : D → Res Bool
  | .non => .ok false
  | .bl b => .ok b
  | .int i => .ok (i != 0)
  | .str x => .ok ((x.length : Int) != 0)
  | .tup ds => .ok (!ds.isEmpty)
  | .lst ds => .ok (!ds.isEmpty)
  | .scr ds => .ok (!ds.isEmpty)
  | .dic _ _ => .stuck
  | .dit _ _ => .stuck
  | .exn _ => .stuck
theorem tru_V {K : PySem.W.Frag} {A : Addr → Prop} {H : Hp} {v : V} {d : D} {b : Bool} (r : Rep K A H v d) (h : tru d = .ok b) : TruV K v H b := by
  cases r with
  | non => cases h; rfl
  | bl c => cases h; rfl
  | int i => cases h; rfl
  | str x hx => cases h; exact ⟨hx, rfl⟩
  | tup e r => cases h; exact .inr (.inl ⟨_, .of e, by rw [r.isEmpty]⟩)
  | lst e _ r => cases h; exact .inl ⟨_, .of e, by rw [r.isEmpty]⟩
  | lsk e r => cases h; exact .inl ⟨_, e.sql, by rw [r.isEmpty]⟩
  | dic _ _ _ _ _ => cases h
  | dit _ _ _ _ _ => cases h
  | exn _ _ _ => cases h
def truF (f : Sl → Res D) : Sl → Res Bool := fun env => f env >>= tru
theorem dt_tru (h : DE X l e f) (he : ∀ whole, isTrue e X.env whole = (do let v ← whole; standAt e.pos; holding [v] (truthy v)) := by intro _; rfl) : DT X e (truF f) := by
 with_unfolding_all exact (
  PT.imp (pt_truth h he) fun σ H Q ⟨G, H0, env, b, k, ef, q⟩ => by
    obtain ⟨d, e1, e2⟩ := bind_inv ef
    exact ⟨G, H0, env, d, k, e1, fun v H' s r _ => ⟨b, tru_V r e2, q H' s⟩⟩)
section
variable {g g1 g2 : Sl → Res Bool} {rest : List Expr}
def notB (g : Sl → Res Bool) : Sl → Res Bool := fun env => g env >>= fun b => .ok (!b)
theorem dt_not (h : DT X a g) : DT X (.UnaryOp .Not a pos) (notB g) := by
 with_unfolding_all exact (
  PT.imp (pt_not h) fun σ H Q ⟨G, H0, env, b, k, ef, q⟩ => by
    obtain ⟨d, e1, e2⟩ := bind_inv ef
    cases e2
    exact ⟨G, H0, env, d, k, e1, q⟩)
@[irreducible] def DW (X : Cx) (e : Expr) (f : Sl → Res Bool) : Prop := PW X e (tT X.K f)
theorem PW.imp {t t' : TT} (h : PW X e t) (w : ∀ σ H Q, t' σ H Q → t σ H Q) : PW X e t' := fun wh pins s σ H Q I q => h wh pins s σ H Q I (w σ H Q q)
theorem DW.dt (h : DW X e g) : DT X e g := by
 with_unfolding_all exact (PW.pt h)
theorem dw_and1 (h : DT X a g) : DW X (.BoolOp .And [a] pos) g := by
 with_unfolding_all exact (pw_and1 h)
theorem dw_or1 (h : DT X a g) : DW X (.BoolOp .Or [a] pos) g := by
 with_unfolding_all exact (pw_or1 h)
def andB (g1 g2 : Sl → Res Bool) : Sl → Res Bool := fun env => g1 env >>= fun b => if b = true then g2 env else .ok false
def orB (g1 g2 : Sl → Res Bool) : Sl → Res Bool := fun env => g1 env >>= fun b => if b = true then .ok true else g2 env
theorem dw_and (h1 : DT X a g1) (h2 : DW X (.BoolOp .And (b :: rest) pos) g2) : DW X (.BoolOp .And (a :: b :: rest) pos) (andB g1 g2) := by
 with_unfolding_all exact (
  PW.imp (pw_and h1 h2) fun σ H Q ⟨G, H0, env, r, k, ef, q⟩ => by
    obtain ⟨d, e1, e2⟩ := bind_inv ef
    refine ⟨G, H0, env, d, k, e1, fun H' s => ?_⟩
    cases d with
    | true => rw [if_pos rfl] at e2 ⊢; exact ⟨G, H0, env, r, k.grow s, e2, fun H2 s2 => q H2 (s.trans s2)⟩
    | false => rw [if_neg Bool.false_ne_true] at e2 ⊢; cases e2; exact q H' s)
theorem dw_or (h1 : DT X a g1) (h2 : DW X (.BoolOp .Or (b :: rest) pos) g2) : DW X (.BoolOp .Or (a :: b :: rest) pos) (orB g1 g2) := by
 with_unfolding_all exact (
  PW.imp (pw_or h1 h2) fun σ H Q ⟨G, H0, env, r, k, ef, q⟩ => by
    obtain ⟨d, e1, e2⟩ := bind_inv ef
    refine ⟨G, H0, env, d, k, e1, fun H' s => ?_⟩
    cases d with
    | false => rw [if_neg Bool.false_ne_true] at e2 ⊢; exact ⟨G, H0, env, r, k.grow s, e2, fun H2 s2 => q H2 (s.trans s2)⟩
    | true => rw [if_pos rfl] at e2 ⊢; cases e2; exact q H' s)
/-- .. as values that are bools -/
def toB (f : Sl → Res D) (g : Sl → Res D) (w : Bool) : Sl → Res D := fun env => f env >>= fun d => match d with
  | .bl b => if b = w then g env else .ok (.bl b)
  | _ => .stuck
theorem de_one {op} (h : DE X l a f) : DE X l (.BoolOp op [a] pos) f := by
 with_unfolding_all exact (pe_one h)
theorem de_and (h1 : DE X l1 a f1) (h2 : DE X l (.BoolOp .And (b :: rest) pos) f2) : DE X l (.BoolOp .And (a :: b :: rest) pos) (toB f1 f2 true) := by
 with_unfolding_all exact (
  PE.imp (pe_and h1 h2) fun σ H Q ⟨G, H0, env, r, k, ef, q⟩ => by
    obtain ⟨d, e1, e2⟩ := bind_inv ef
    refine ⟨G, H0, env, d, k, e1, fun v H' s rr _ => ?_⟩
    cases d with
    | bl t =>
      refine ⟨t, rr.blE, ?_⟩
      cases t with
      | true => exact ⟨G, H0, env, r, k.grow s, e2, fun v H2 s2 r2 nt => q v H2 (s.trans s2) r2 (Lv.Tgrow s nt)⟩
      | false => cases e2; exact q _ H' s (.bl false) (sc_bl (K := X.K) false).T
    | _ => cases e2)
def notD : D → Res D
  | .bl b => .ok (.bl (!b))
  | _ => .stuck
def notF (f : Sl → Res D) : Sl → Res D := fun env => f env >>= notD
theorem de_not (h : DE X l1 a f) : DE X l (.UnaryOp .Not a pos) (notF f) := by
 with_unfolding_all exact (
  PE.imp (pe_not h) fun σ H Q ⟨G, H0, env, r, k, ef, q⟩ => by
    obtain ⟨d, e1, e2⟩ := bind_inv ef
    refine ⟨G, H0, env, d, k, e1, fun v H' s rr _ => ?_⟩
    cases d with
    | bl t => cases e2; exact ⟨t, rr.blE, q _ H' s (.bl _) (sc_bl (K := X.K) _).T⟩
    | _ => cases e2)
def ifD (g : Sl → Res Bool) (f1 f2 : Sl → Res D) : Sl → Res D := fun env => g env >>= fun b => if b = true then f1 env else f2 env
theorem de_ifx (hc : DT X c g) (h1 : DE X l a f1) (h2 : DE X l b f2) : DE X l (.IfExp c a b pos) (ifD g f1 f2) := by
 with_unfolding_all exact (
  PE.imp (pe_ifExp hc h1 h2) fun σ H Q ⟨G, H0, env, r, k, ef, q⟩ => by
    obtain ⟨d, e1, e2⟩ := bind_inv ef
    refine ⟨G, H0, env, d, k, e1, fun H' s => ?_⟩
    cases d with
    | true => rw [if_pos rfl] at e2 ⊢; exact ⟨G, H0, env, r, k.grow s, e2, fun v H2 s2 r2 nt => q v H2 (s.trans s2) r2 (Lv.Tgrow s nt)⟩
    | false => rw [if_neg Bool.false_ne_true] at e2 ⊢; exact ⟨G, H0, env, r, k.grow s, e2, fun v H2 s2 r2 nt => q v H2 (s.trans s2) r2 (Lv.Tgrow s nt)⟩)
end

/-! ### argument lists -/
def cons1 (f : Sl → Res D) (g : Sl → Res (List D)) : Sl → Res (List D) := fun env => f env >>= fun d => g env >>= fun ds => .ok (d :: ds)
def nil1 : Sl → Res (List D) := fun _ => .ok []
theorem da_nil : DA X l [] nil1 := by
 with_unfolding_all exact (PA.imp pa_nil fun σ H Q ⟨G, H0, env, d, k, ef, q⟩ => by cases ef; exact q [] H (Same.refl H) .nil)
theorem da_cons {g : Sl → Res (List D)} (ha : DE X l e f) (hr : DA X l es g) (hs : starEach (e :: es) X.env = (false, eval e X.env) :: starEach es X.env := by exact star_plain rfl) : DA X l (e :: es) (cons1 f g) := by
 with_unfolding_all exact (
  PA.imp (pa_cons ha hr hs) fun σ H Q ⟨G, H0, env, ds, k, ef, q⟩ => by
    obtain ⟨d, e1, e2⟩ := bind_inv ef
    obtain ⟨ds', e3, e4⟩ := bind_inv e2
    cases e4
    exact ⟨G, H0, env, d, k, e1, fun v H1 s1 r1 _ => ⟨G, H0, env, ds', k.grow s1, e3, fun vs H2 s2 r2 => q _ H2 (s1.trans s2) (.cons (r1.grow s2) r2)⟩⟩)
/-! ### displays -/
theorem new_top {H H1 : Hp} {p : Addr} (s : Same H H1) (hp : H1 p = none) : NewTop H (.ref p) := fun a e o q => by
  cases e
  rw [s _ _ q] at hp; cases hp
def tupF (g : Sl → Res (List D)) : Sl → Res D := fun env => g env >>= fun ds => must (ds.length ≤ sizeLine) (.ok (.tup ds))
def lstF (g : Sl → Res (List D)) : Sl → Res D := fun env => g env >>= fun ds => must (ds.length ≤ sizeLine) (.ok (.lst ds))
theorem de_tup {x1} {g : Sl → Res (List D)} (h : DA X .s es g) : DE X .t (.Tuple es x1 pos) (tupF g) := by
 with_unfolding_all exact (
  PE.imp (pe_tup h) fun σ H Q ⟨G, H0, env, d, k, ef, q⟩ => by
    obtain ⟨ds, e1, e2⟩ := bind_inv ef
    obtain ⟨hz, e3⟩ := must_inv e2
    cases e3
    refine ⟨G, H0, env, ds, k, e1, fun vs H1 s1 r1 => ⟨by rw [r1.length]; exact hz, fun p hp => ?_⟩⟩
    exact q _ _ (s1.trans (Same.upd hp)) (.tup upd_same (r1.grow (Same.upd hp))) (new_top s1 hp))
theorem de_lst {g : Sl → Res (List D)} (h : DA X .s es g) : DE X .t (.List es pos) (lstF g) := by
 with_unfolding_all exact (
  PE.imp (pe_lst h) fun σ H Q ⟨G, H0, env, d, k, ef, q⟩ => by
    obtain ⟨ds, e1, e2⟩ := bind_inv ef
    obtain ⟨hz, e3⟩ := must_inv e2
    cases e3
    refine ⟨G, H0, env, ds, k, e1, fun vs H1 s1 r1 => ⟨by rw [r1.length]; exact hz, fun p hp => ?_⟩⟩
    exact q _ _ (s1.trans (Same.upd hp)) (.lst upd_same (k.new p (Same.free s1 hp)) (r1.laid hp)) (new_top s1 hp))
/-! ### calls of built-in functions and types -/
def CallS (K : PySem.W.Frag) (r : List V → Hp → VK → Prop) (g : List D → Res D) : Prop := ∀ (xs : List V) (H : Hp) (ds : List D) (d : D) (Q : VK), Reps K Any H xs ds → g ds = .ok d → (∀ v, Sc K v d → Q v H) → r xs H Q
def CallD (K : PySem.W.Frag) (r : List V → Hp → VK → Prop) (g : List D → Res D) : Prop := ∀ (A : Addr → Prop) (xs : List V) (H : Hp) (ds : List D) (d : D) (Q : VK), Reps K A H xs ds → g ds = .ok d → (∀ v H', Same H H' → Rep K (fun c => H c = none ∨ A c) H' v d → NewTop H v → Q v H') → r xs H Q
def app (f : Sl → Res (List D)) (g : List D → Res D) : Sl → Res D := fun env => f env >>= g
theorem tCB_S {K : PySem.W.Frag} {r : List V → Hp → VK → Prop} {g : List D → Res D} {fa : Sl → Res (List D)} (hr : CallS K r g) {σ : L2.St} {H : Hp} {Q : VK} (h : tE K l' (app fa g) σ H Q) : tCB r (tA K l fa) σ H Q := by
  obtain ⟨G, H0, env, d, k, ef, q⟩ := h
  obtain ⟨ds, e1, e2⟩ := bind_inv ef
  refine ⟨G, H0, env, ds, k, e1, fun vs H1 s1 r1 => ?_⟩
  exact hr vs H1 ds d Q (r1.weak Lv.weak_b) e2 fun v sc => q v H1 s1 (sc.1 _ _) sc.T
theorem tCB_D {K : PySem.W.Frag} {r : List V → Hp → VK → Prop} {g : List D → Res D} {fa : Sl → Res (List D)} (hr : CallD K r g) {σ : L2.St} {H : Hp} {Q : VK} (h : tE K .t (app fa g) σ H Q) : tCB r (tA K .s fa) σ H Q := by
  obtain ⟨G, H0, env, d, k, ef, q⟩ := h
  obtain ⟨ds, e1, e2⟩ := bind_inv ef
  refine ⟨G, H0, env, ds, k, e1, fun vs H1 s1 r1 => ?_⟩
  exact hr _ vs H1 ds d Q r1 e2 fun v H2 s2 r2 nt => q v H2 (s1.trans s2) (r2.weak fun c z => z.elim (fun z => k.new c (Same.free s1 z)) fun z => z) (nt.grow s1)
theorem tCB_B {K : PySem.W.Frag} {r : List V → Hp → VK → Prop} {g : List D → Res D} {fa : Sl → Res (List D)} (hr : CallD K r g) {σ : L2.St} {H : Hp} {Q : VK} (h : tE K .b (app fa g) σ H Q) : tCB r (tA K .b fa) σ H Q := by
  obtain ⟨G, H0, env, d, k, ef, q⟩ := h
  obtain ⟨ds, e1, e2⟩ := bind_inv ef
  refine ⟨G, H0, env, ds, k, e1, fun vs H1 s1 r1 => ?_⟩
  exact hr _ vs H1 ds d Q r1 e2 fun v H2 s2 r2 nt => q v H2 (s1.trans s2) (r2.weak fun c _ => trivial) trivial
section
variable {x : Str} {id T : String} {p : Pos} {r : List V → Hp → VK → Prop} {g : List D → Res D} {fa : Sl → Res (List D)}
theorem de_callB (hc : CallR X (.builtin id) r) (hr : CallS X.K r g) (hg : Gl X x) (hm : X.mg x = none) (hv : bootBuiltins x = some (.builtin id))
    (ha : DA X l (e :: es) fa) (hn : x ≠ "__name__" := by decide) (hdb : (x == ("__debug__" : Str)) = false := by decide)
    (he : starEach (e :: es) X.env = (false, eval e X.env) :: starEach es X.env := by exact star_plain rfl) (hpl : (backTo pos (starEach es X.env)).any (·.1) = false := by exact any_plain rfl) : DE X l' (.Call (.Name x p) (e :: es) [] pos) (app fa g) := by
 with_unfolding_all exact (
  PE.imp (pe_callB hc hg hm hv ha hn hdb he hpl) fun _ _ _ h => tCB_S hr h)
theorem de_callTy (hc : CallR X (.type T) r) (hr : CallD X.K r g) (hg : Gl X x) (hm : X.mg x = none) (hv : bootBuiltins x = some (.type T))
    (ha : DA X .s (e :: es) fa) (hn : x ≠ "__name__" := by decide) (hdb : (x == ("__debug__" : Str)) = false := by decide)
    (he : starEach (e :: es) X.env = (false, eval e X.env) :: starEach es X.env := by exact star_plain rfl) (hpl : (backTo pos (starEach es X.env)).any (·.1) = false := by exact any_plain rfl) : DE X .t (.Call (.Name x p) (e :: es) [] pos) (app fa g) := by
 with_unfolding_all exact (
  PE.imp (pe_callTy hc hg hm hv ha hn hdb he hpl) fun _ _ _ h => tCB_D hr h)
theorem de_callTyB (hc : CallR X (.type T) r) (hr : CallD X.K r g) (hg : Gl X x) (hm : X.mg x = none) (hv : bootBuiltins x = some (.type T))
    (ha : DA X .b (e :: es) fa) (hn : x ≠ "__name__" := by decide) (hdb : (x == ("__debug__" : Str)) = false := by decide)
    (he : starEach (e :: es) X.env = (false, eval e X.env) :: starEach es X.env := by exact star_plain rfl) (hpl : (backTo pos (starEach es X.env)).any (·.1) = false := by exact any_plain rfl) : DE X .b (.Call (.Name x p) (e :: es) [] pos) (app fa g) := by
 with_unfolding_all exact (
  PE.imp (pe_callTy hc hg hm hv ha hn hdb he hpl) fun _ _ _ h => tCB_B hr h)
end

/-! ### calls of defs -/
/-- a def's promise by a function of data; fr: what it tells is new at its top -/
def spF (K : PySem.W.Frag) (fr : Bool) (n : Nat) (F : List D → Res D) : Sp := fun vs H Q _ => ∃ B ds d, vs.length = n ∧ Reps K B H vs ds ∧ F ds = .ok d ∧ ∀ v H', Same H H' → Rep K (fun a => H a = none ∨ B a) H' v d → (fr = true → NewTop H v) → Q v H'
def callF (n : Nat) (F : List D → Res D) (g : Sl → Res (List D)) : Sl → Res D := fun env => g env >>= fun ds => must (ds.length = n) (F ds)
section
variable {CX : CXT} {k : Nat} {x : Str} {fa : Addr} {fd : FuncData} {ps : List Str} {p : Pos} {n : Nat} {F : List D → Res D} {E : XK} {g : Sl → Res (List D)} {fr : Bool}
/-- of things that slots may hold: something like them -/
theorem de_call (G : FnOk X.prog X.w X.K X.mg X.base CX k fa fd ps (spF X.K fr n F)) (hr : Room k X.A) (hg : Gl X x) (hm : X.mg x = some (.ref fa)) (hk : PySem.W.keepIn X.K (.ref fa) = true) (hb : Binds X.K fd ps []) (hx : Passes CX X E)
    (ha : DA X .s (e :: es) g) (hdb : (x == ("__debug__" : Str)) = false := by decide) (he : starEach (e :: es) X.env = (false, eval e X.env) :: starEach es X.env := by exact star_plain rfl) (hpl : (backTo pos (starEach es X.env)).any (·.1) = false := by exact any_plain rfl) :
    DE X .s (.Call (.Name x p) (e :: es) [] pos) (callF n F g) := by
 with_unfolding_all exact (
  PE.imp (pe_call G hr hg hm hk hb .nil hx ha hdb he hpl) fun σ H Q ⟨GG, H0, env, d, k, ef, q⟩ => by
    obtain ⟨ds, e1, e2⟩ := bind_inv ef
    obtain ⟨hn, e3⟩ := must_inv e2
    refine ⟨GG, H0, env, ds, k, e1, fun vs H1 s1 r1 => ?_⟩
    show spF X.K fr n F (vs ++ []) H1 Q E
    rw [List.append_nil]
    exact ⟨_, ds, d, by rw [r1.length]; exact hn, r1, e3, fun v H2 s2 r2 _ => q v H2 (s1.trans s2) (r2.weak fun c z => z.elim (fun z => k.new c (Same.free s1 z)) fun z => z) trivial⟩)
theorem de_callT (G : FnOk X.prog X.w X.K X.mg X.base CX k fa fd ps (spF X.K true n F)) (hr : Room k X.A) (hg : Gl X x) (hm : X.mg x = some (.ref fa)) (hk : PySem.W.keepIn X.K (.ref fa) = true) (hb : Binds X.K fd ps []) (hx : Passes CX X E)
    (ha : DA X .s (e :: es) g) (hdb : (x == ("__debug__" : Str)) = false := by decide) (he : starEach (e :: es) X.env = (false, eval e X.env) :: starEach es X.env := by exact star_plain rfl) (hpl : (backTo pos (starEach es X.env)).any (·.1) = false := by exact any_plain rfl) :
    DE X .t (.Call (.Name x p) (e :: es) [] pos) (callF n F g) := by
 with_unfolding_all exact (
  PE.imp (pe_call G hr hg hm hk hb .nil hx ha hdb he hpl) fun σ H Q ⟨GG, H0, env, d, k, ef, q⟩ => by
    obtain ⟨ds, e1, e2⟩ := bind_inv ef
    obtain ⟨hn, e3⟩ := must_inv e2
    refine ⟨GG, H0, env, ds, k, e1, fun vs H1 s1 r1 => ?_⟩
    show spF X.K true n F (vs ++ []) H1 Q E
    rw [List.append_nil]
    exact ⟨_, ds, d, by rw [r1.length]; exact hn, r1, e3, fun v H2 s2 r2 nt => q v H2 (s1.trans s2) (r2.weak fun c z => z.elim (fun z => k.new c (Same.free s1 z)) fun z => z) ((nt rfl).grow s1)⟩)
end

/-! ### places -/
def ixD : D → D → Res D
  | .lst ds, .int i => match atI ds i with
    | some d => .ok d
    | none => .stuck
  | .scr ds, .int i => match atI ds i with
    | some d => .ok d
    | none => .stuck
  | .tup ds, .int i => match atI ds i with
    | some d => .ok d
    | none => .stuck
  | .str z, .int i => match atI z.cps.toList i with
    | some c => .ok (.str ⟨#[c]⟩)
    | none => .stuck
  | _, _ => .stuck
theorem atI_rep {K : PySem.W.Frag} {A : Addr → Prop} {H : Hp} {xs : List V} {ds : List D} {i : Int} {d : D} (r : Reps K A H xs ds) (h : atI ds i = some d) : ∃ v, atI xs i = some v ∧ Rep K A H v d := by
  unfold atI at h ⊢
  rw [r.length]
  cases e : ixN ds.length i with
  | none => rw [e] at h; cases h
  | some j => rw [e] at h; exact r.get h
theorem one_len (c : Nat) : (⟨#[c]⟩ : Str).length ≤ sizeLine := by show 1 ≤ sizeLine; decide
theorem og_ix {A : Addr → Prop} {x y : V} {H : Hp} {a b d : D} {Q : VK} (ra : Rep X.K A H x a) (rb : Rep X.K Any H y b) (h : ixD a b = .ok d) (q : ∀ v, Rep X.K A H v d → Q v H) : rIx X.K x y H Q := by
  cases b with
  | int i =>
    cases rb.intE
    cases a with
    | lst ds =>
      unfold ixD at h; dsimp only at h
      cases e : atI ds i with
      | none => rw [e] at h; cases h
      | some d' =>
        rw [e] at h; cases h
        obtain ⟨p, xs, rfl, hq, _, r⟩ := ra.lstE
        obtain ⟨v, e2, r2⟩ := atI_rep r.low e
        exact .inl ⟨p, xs, i, v, rfl, rfl, .of hq, e2, q v r2⟩
    | scr ds =>
      unfold ixD at h; dsimp only at h
      cases e : atI ds i with
      | none => rw [e] at h; cases h
      | some d' =>
        rw [e] at h; cases h
        obtain ⟨p, xs, rfl, hq, r⟩ := ra.scrE
        obtain ⟨v, e2, r2⟩ := atI_rep r e
        exact .inl ⟨p, xs, i, v, rfl, rfl, hq.sql, e2, q v r2⟩
    | tup ds =>
      unfold ixD at h; dsimp only at h
      cases e : atI ds i with
      | none => rw [e] at h; cases h
      | some d' =>
        rw [e] at h; cases h
        obtain ⟨p, xs, rfl, hq, r⟩ := ra.tupE
        obtain ⟨v, e2, r2⟩ := atI_rep r e
        exact .inr (.inl ⟨p, xs, i, v, rfl, rfl, .of hq, e2, q v r2⟩)
    | str z =>
      unfold ixD at h; dsimp only at h
      cases e : atI z.cps.toList i with
      | none => rw [e] at h; cases h
      | some c =>
        rw [e] at h; cases h
        obtain ⟨rfl, hz⟩ := ra.strE
        exact .inr (.inr ⟨z, i, c, rfl, rfl, hz, e, q _ (.str _ (by show 1 ≤ sizeLine; decide))⟩)
    | _ => cases h
  | _ => cases a <;> cases h
/-- a place of a thing: of the thing's own level -/
theorem de_ix (ha : DE X .s a f1) (hb : DE X l2 b f2) (hs : PlainIx b := by intro _ _; rfl) : DE X .s (.Subscript a b pos) (two f1 f2 ixD) := by
 with_unfolding_all exact (
  PE.imp (pe_ix ix_seq ha hb hs) fun σ H Q ⟨G, H0, env, d, k, ef, q⟩ => by
    obtain ⟨a', e1, ef⟩ := bind_inv ef
    obtain ⟨b', e2, e3⟩ := bind_inv ef
    refine ⟨G, H0, env, a', k, e1, fun x H1 s1 r1 _ => ⟨G, H0, env, b', k.grow s1, e2, fun y H2 s2 r2 _ => ?_⟩⟩
    exact og_ix (r1.grow s2) (r2.weak Lv.weak_b) e3 fun v r3 => q v H2 (s1.trans s2) r3 trivial)
/-- a part of a slice -/
@[irreducible] def DO (X : Cx) (e : Option Expr) (f : Sl → Res (Option Int)) : Prop := PO X e (fun σ H Q => ∃ G H0 env i, EnvOk X.K G H0 env σ H ∧ f env = .ok i ∧ ∀ H', Same H H' → Q i H')
theorem PO.imp {e : Option Expr} {t t' : TO} (h : PO X e t) (w : ∀ σ H Q, t' σ H Q → t σ H Q) : PO X e t' := fun pins s σ H Q I q => h pins s σ H Q I (w σ H Q q)
def noneI : Sl → Res (Option Int) := fun _ => .ok none
theorem do_none : DO X none noneI := by
 with_unfolding_all exact (PO.imp po_none fun σ H Q ⟨G, H0, env, i, k, ef, q⟩ => by cases ef; exact q H (Same.refl H))
def asI : D → Res (Option Int)
  | .int i => .ok (some i)
  | _ => .stuck
def someI (f : Sl → Res D) : Sl → Res (Option Int) := fun env => f env >>= asI
theorem do_some (h : DE X l e f) : DO X (some e) (someI f) := by
 with_unfolding_all exact (PO.imp (po_some h) fun σ H Q ⟨G, H0, env, i, k, ef, q⟩ => by
  obtain ⟨d, e1, e2⟩ := bind_inv ef
  cases d with
  | int j => cases e2; exact ⟨G, H0, env, .int j, k, e1, fun v H' s r _ => ⟨j, r.intE, q H' s⟩⟩
  | _ => cases e2)
def cutD (ds : List D) (lo hi : Option Int) : List D := (ds.drop (HT.sIx ds.length 0 lo)).take (HT.sIx ds.length ds.length hi - HT.sIx ds.length 0 lo)
theorem cut_rep {K : PySem.W.Frag} {A : Addr → Prop} {H : Hp} {xs : List V} {ds : List D} {lo hi : Option Int} (r : Reps K A H xs ds) : Reps K A H (cutV xs lo hi) (cutD ds lo hi) := by
  unfold cutV cutD; rw [r.length]; exact (r.drop _).take _
def slice3 (f : Sl → Res D) (fl fh : Sl → Res (Option Int)) (g : D → Option Int → Option Int → Res D) : Sl → Res D := fun env => f env >>= fun a => fl env >>= fun lo => fh env >>= fun hi => g a lo hi
end
end M

set_option Elab.async false
set_option linter.all false
set_option maxRecDepth 100000
set_option maxHeartbeats 4000000
namespace M
open PySem PySem.Spec L2
open PyProof.Rows hiding St

/-! ### slots set -/
section
variable {K : PySem.W.Frag} {G : Addr → Prop} {H0 H H1 H' : Hp} {env env' : Sl} {σ σ' : L2.St} {i : Nat} {d : D} {v : V}
theorem get_set_ne {α : Type} {l : List α} {i j : Nat} {x : α} (h : i ≠ j) : (l.set i x)[j]? = l[j]? := List.getElem?_set_ne h
theorem get_set_eq {α : Type} {l : List α} {i : Nat} {x y : α} (h : (l.set i x)[i]? = some y) : y = x ∧ i < l.length := by
  have hl : i < l.length := by
    have := (List.getElem?_eq_some_iff.mp h).1
    simpa using this
  rw [List.getElem?_set_self hl] at h
  exact ⟨(Option.some.inj h).symm, hl⟩
theorem owned_set {s : Slot} {a : Addr} (h : Owned (env.set i s) (σ.set i (some v)) a) : Owned env σ a ∨ (∃ d, s = .own d ∧ v = .ref a) := by
  obtain ⟨j, d, h1, h2⟩ := h
  by_cases e : i = j
  · subst e
    obtain ⟨q1, _⟩ := get_set_eq h1
    obtain ⟨q2, _⟩ := get_set_eq h2
    exact .inr ⟨d, q1.symm, (Option.some.inj q2).symm⟩
  · rw [get_set_ne e] at h1 h2
    exact .inl ⟨j, d, h1, h2⟩
/-- a slot takes what nobody owns -/
theorem EnvOk.setS (k : EnvOk K G H0 env σ H) (r : Rep K (Sf G env σ) H v d) : EnvOk K G H0 (env.set i (.shr d)) (σ.set i (some v)) H := by
  have w : ∀ a, Sf G env σ a → Sf G (env.set i (.shr d)) (σ.set i (some v)) a := fun a n => ⟨fun o => (by
    rcases owned_set o with z | ⟨d', z, _⟩
    · exact n.1 z
    · cases z), n.2⟩
  refine ⟨by simp [k.len], k.base, k.g0, fun j e h => ?_, fun j e h => ?_, fun j j' e e' a h1 h2 h3 h4 => ?_⟩
  · by_cases z : i = j
    · subst z
      obtain ⟨q, hl⟩ := get_set_eq h
      cases q
      exact ⟨v, List.getElem?_set_self (by rw [k.len]; exact hl), r.weak w⟩
    · rw [get_set_ne z] at h ⊢
      obtain ⟨v', h1, h2⟩ := k.shr j e h
      exact ⟨v', h1, h2.weak w⟩
  · by_cases z : i = j
    · subst z
      obtain ⟨q, hl⟩ := get_set_eq h
      cases q
    · rw [get_set_ne z] at h ⊢
      obtain ⟨v', h1, h0, h2⟩ := k.own j e h
      exact ⟨v', h1, h0, h2.stay (fun _ _ e _ => e) w fun _ e => e⟩
  · have n1 : i ≠ j := fun z => by subst z; obtain ⟨q, _⟩ := get_set_eq h1; cases q
    have n2 : i ≠ j' := fun z => by subst z; obtain ⟨q, _⟩ := get_set_eq h2; cases q
    rw [get_set_ne n1] at h1 h3
    rw [get_set_ne n2] at h2 h4
    exact k.dis j j' e e' a h1 h2 h3 h4
/-- the things that a slot may own -/
def ownable : D → Bool
  | .lst _ => true
  | .dic _ _ => true
  | .dit _ _ => true
  | _ => false
theorem ownable_top {A : Addr → Prop} (r : Rep K A H v d) (h : ownable d = true) : ∃ a, v = .ref a ∧ A a ∧ (∃ o, H a = some o ∧ Mut (some o)) ∧ Top K (fun c => A c ∧ c ≠ a) H a d := by
  cases r with
  | lst e a r => exact ⟨_, rfl, a, ⟨_, e, trivial⟩, .lst e r⟩
  | dic e a k1 k2 r => exact ⟨_, rfl, a, ⟨_, e, trivial⟩, .dic e k1 k2 r⟩
  | dit e a k1 k2 r => exact ⟨_, rfl, a, ⟨_, e, trivial⟩, .dit e k1 k2 r⟩
  | _ => cases h
theorem new_of {a : Addr} (s : Same H H1) (nt : NewTop H (.ref a)) (h : ∃ o, H1 a = some o ∧ Mut (some o)) : H a = none := by
  cases e : H a with
  | none => rfl
  | some o =>
    obtain ⟨o', h1, h2⟩ := h
    rw [s a o e] at h1; cases h1
    exact (nt a rfl o e h2).elim
/-- a slot takes a list that is new -/
theorem EnvOk.setN (k : EnvOk K G H0 env σ H) (s : Same H H1) (r : Rep K (Sf G env σ) H1 v d) (nt : NewTop H v) (hd : ownable d = true) : EnvOk K G H0 (env.set i (.own d)) (σ.set i (some v)) H1 ∧ ∃ a, v = .ref a ∧ H a = none := by
  obtain ⟨a, rfl, ga, mt, top⟩ := ownable_top r hd
  have fa := new_of s nt mt
  refine ⟨?_, a, rfl, fa⟩
  have w : ∀ c, (Sf G env σ c ∧ c ≠ a) → Sf G (env.set i (.own d)) (σ.set i (some (V.ref a))) c := fun c n => ⟨fun o => (by
    rcases owned_set o with z | ⟨d', z, z2⟩
    · exact n.1.1 z
    · cases z2; exact n.2 rfl), n.1.2⟩
  have w2 : ∀ c, (Sf G env σ c ∧ H c ≠ none) → Sf G (env.set i (.own d)) (σ.set i (some (V.ref a))) c := fun c n => w c ⟨n.1, fun e => n.2 (by rw [e]; exact fa)⟩
  have k1 := k.grow s
  refine ⟨by simp [k.len], k1.base, k.g0, fun j e h => ?_, fun j e h => ?_, fun j j' e e' b h1 h2 h3 h4 => ?_⟩
  · by_cases z : i = j
    · subst z
      obtain ⟨q, hl⟩ := get_set_eq h
      cases q
    · rw [get_set_ne z] at h ⊢
      obtain ⟨v', h1, h2⟩ := k.shr j e h
      exact ⟨v', h1, (h2.inDom.grow s).weak w2⟩
  · by_cases z : i = j
    · subst z
      obtain ⟨q, hl⟩ := get_set_eq h
      cases q
      exact ⟨a, List.getElem?_set_self (by rw [k.len]; exact hl), Same.free k.base fa, top.stay (fun _ _ e _ => e) w fun _ e => e⟩
    · rw [get_set_ne z] at h ⊢
      obtain ⟨v', h1, h0, h2⟩ := k.own j e h
      refine ⟨v', h1, h0, ?_⟩
      cases h2 with
      | lst e2 r2 => exact .lst (s _ _ e2) ((r2.inDom.grow s).weak w2)
      | dic e2 k2 k3 r2 => exact .dic (s _ _ e2) k2 k3 ((r2.inDom.grow s).weak w2)
      | dit e2 k2 k3 r2 => exact .dit (s _ _ e2) k2 k3 ((r2.inDom.grow s).weak w2)
  · have new : ∀ (j : Nat) (e : D), env[j]? = some (.own e) → σ[j]? = some (some (.ref a)) → False := fun j e q1 q2 => by
      obtain ⟨u, q⟩ := k.there ⟨j, e, q1, q2⟩
      rw [fa] at q; cases q
    by_cases z1 : i = j
    · subst z1
      by_cases z2 : i = j'
      · exact z2
      · rw [get_set_ne z2] at h2 h4
        obtain ⟨q, _⟩ := get_set_eq h3
        cases q
        exact (new j' e' h2 h4).elim
    · rw [get_set_ne z1] at h1 h3
      by_cases z2 : i = j'
      · subst z2
        obtain ⟨q, _⟩ := get_set_eq h4
        cases q
        exact (new j e h1 h3).elim
      · rw [get_set_ne z2] at h2 h4
        exact k.dis j j' e e' b h1 h2 h3 h4
theorem Frm.set {s : Slot} (sm : Same H H1) (fresh : ∀ a d, s = .own d → v = .ref a → H a = none) : Frm env σ H (env.set i s) (σ.set i (some v)) H1 :=
  ⟨fun b o e _ => sm b o e, fun b o => by
    rcases owned_set o with z | ⟨d', z, z2⟩
    · exact .inl z
    · exact .inr (fresh b d' z z2), fun b e => Same.free sm e⟩
/-- what a slot may hold lives through a statement -/
theorem Frm.sf (f : Frm env σ H env' σ' H') : ∀ a, (Sf G env σ a ∧ H a ≠ none) → Sf G env' σ' a := fun a z => ⟨fun o => (f.more a o).elim z.1.1 z.2, z.1.2⟩
theorem Frm.st (k : EnvOk K G H0 env σ H) (f : Frm env σ H env' σ' H') : Stay (fun a => Sf G env σ a ∧ H a ≠ none) H H' := fun a o e m => f.keep a o e fun ow => (m (k.mutO ow e)).1.1 ow
theorem Frm.rep (k : EnvOk K G H0 env σ H) (f : Frm env σ H env' σ' H') (r : Rep K (Sf G env σ) H v d) : Rep K (Sf G env' σ') H' v d := r.inDom.stay (f.st k) f.sf
theorem Frm.reps (k : EnvOk K G H0 env σ H) (f : Frm env σ H env' σ' H') {vs : List V} {ds : List D} (r : Reps K (Sf G env σ) H vs ds) : Reps K (Sf G env' σ') H' vs ds := r.inDom.stay (f.st k) f.sf
end

/-- the slot that a new value takes -/
def slotN (d : D) : Slot := if ownable d = true then .own d else .shr d
theorem EnvOk.setNew {K : PySem.W.Frag} {G : Addr → Prop} {H0 H H1 : Hp} {env : Sl} {σ : L2.St} {i : Nat} {d : D} {v : V} (k : EnvOk K G H0 env σ H) (s : Same H H1) (r : Rep K (Sf G env σ) H1 v d) (nt : NewTop H v) :
    EnvOk K G H0 (env.set i (slotN d)) (σ.set i (some v)) H1 ∧ Frm env σ H (env.set i (slotN d)) (σ.set i (some v)) H1 := by
  unfold slotN
  by_cases h : ownable d = true
  · rw [if_pos h]
    obtain ⟨z, a', e', fa⟩ := k.setN (i := i) s r nt h
    refine ⟨z, .set s fun a d' _ e => ?_⟩
    rw [e] at e'; cases e'; exact fa
  · rw [if_neg h]
    exact ⟨(k.grow s).setS r, .set s fun _ _ z _ => by cases z⟩

/-! ### statements -/
def nxO : Sl → Res Out := fun env => .ok (.nx env)
def rtN : Sl → Res Out := fun _ => .ok (.rt true .non)
def bkO : Sl → Res Out := fun env => .ok (.bk env)
def ctO : Sl → Res Out := fun env => .ok (.ct env)
def dropO (f : Sl → Res D) : Sl → Res Out := fun env => f env >>= fun _ => .ok (.nx env)
def augI (h : Int → Int → Int) (a b : D) : Res D := match a, b with
  | .int m, .int n => .ok (.int (h m n))
  | _, _ => .stuck
def seqO (g1 g2 : Sl → Res Out) : Sl → Res Out := fun env => g1 env >>= fun o => match o with
  | .nx env' => g2 env'
  | .rt fr d => .ok (.rt fr d)
  | .bk env' => .ok (.bk env')
  | .ct env' => .ok (.ct env')
section
variable {X : Cx} {e c tg : Expr} {st : Stmt} {rest body orelse : List Stmt} {pos : Pos} {l : Lv} {f : Sl → Res D} {g g1 g2 : Sl → Res Out}
theorem dss_nil : DSs X [] nxO := by
 with_unfolding_all exact (PSs.imp pss_nil fun E σ H ⟨G, H0, env, o, k, ef, q⟩ => by
  cases ef
  exact q σ H k (Frm.refl (Same.refl H)))
/-- what is wanted behind a statement, from another's start -/
theorem out_tr {K : PySem.W.Frag} {G : Addr → Prop} {H0 H H' : Hp} {env env' : Sl} {σ σ' : L2.St} {E : Ends} {o : Out} (f : Frm env σ H env' σ' H') (q : Post K G H0 env σ H E o) : Post K G H0 env' σ' H' E o := by
  cases o with
  | nx e => exact fun σ2 H2 k2 f2 => q σ2 H2 k2 (f.trans f2)
  | bk e => exact fun σ2 H2 k2 f2 => q σ2 H2 k2 (f.trans f2)
  | ct e => exact fun σ2 H2 k2 f2 => q σ2 H2 k2 (f.trans f2)
  | rt fr d => exact q
theorem dss_cons (h1 : DS X st g1) (h2 : DSs X rest g2) : DSs X (st :: rest) (seqO g1 g2) := by
 with_unfolding_all exact (PSs.imp (pss_cons h1 h2) fun E σ H ⟨G, H0, env, o, k, ef, q⟩ => by
  obtain ⟨o1, e1, e2⟩ := bind_inv ef
  refine ⟨G, H0, env, o1, k, e1, ?_⟩
  cases o1 with
  | nx env1 => exact fun σ' H' k' f' => ⟨G, H0, env1, o, k', e2, out_tr f' q⟩
  | rt fr d => cases e2; exact q
  | bk e' => cases e2; exact q
  | ct e' => cases e2; exact q)
theorem dss_one (h1 : DS X st g1) : DSs X [st] g1 := by
 with_unfolding_all exact (PSs.imp (pss_one h1) fun E σ H q => q)
/-- return of a new thing -/
def retO (f : Sl → Res D) : Sl → Res Out := fun env => f env >>= fun d => .ok (.rt true d)
theorem ds_ret (h : DE X .t e f) : DS X (.Return (some e) pos) (retO f) := by
 with_unfolding_all exact (PS.imp (ps_ret h) fun E σ H ⟨G, H0, env, o, k, ef, q⟩ => by
  obtain ⟨d, e1, e2⟩ := bind_inv ef
  cases e2
  exact ⟨G, H0, env, d, k, e1, fun v H' s r nt => q v H' (k.base.trans s) (r.weak fun a z => z.2) fun _ => NewTop.grow k.base nt⟩)
/-- return of what a slot may hold -/
def retS (f : Sl → Res D) : Sl → Res Out := fun env => f env >>= fun d => .ok (.rt false d)
theorem ds_retS (h : DE X .s e f) : DS X (.Return (some e) pos) (retS f) := by
 with_unfolding_all exact (PS.imp (ps_ret h) fun E σ H ⟨G, H0, env, o, k, ef, q⟩ => by
  obtain ⟨d, e1, e2⟩ := bind_inv ef
  cases e2
  exact ⟨G, H0, env, d, k, e1, fun v H' s r nt => q v H' (k.base.trans s) (r.weak fun a z => z.2) fun z => by cases z⟩)
/-- return of a slot's own list -/
def rdO (i : Nat) : Sl → Res D := fun env => match env[i]? with
  | some (.own d) => .ok d
  | some (.shr d) => must (d.imm = true) (.ok d)
  | _ => .stuck
theorem ds_retV (i : Nat) {x : Str} {p : Pos} (hN : X.N[i]? = some x := by rfl) (hv : Vis X.env.scope x := by first | exact Or.inl rfl | exact Or.inr (Or.inl rfl) | exact Or.inr (Or.inr rfl)) (hd : (x == ("__debug__" : Str)) = false := by decide)
    (hcd : (x == ("__classdict__" : Str)) = false := by decide) : DS X (.Return (some (.Name x p)) pos) (retO (rdO i)) := by
 with_unfolding_all exact (PS.imp (ps_ret (pe_var hN hv hd hcd)) fun E σ H ⟨G, H0, env, o, k, ef, q⟩ => by
  obtain ⟨d, e1, e2⟩ := bind_inv ef
  cases e2
  unfold rdO at e1
  split at e1
  · rename_i d' hs
    cases e1
    obtain ⟨a, h1, h0, h2⟩ := k.own i d hs
    refine ⟨.ref a, h1, q _ H k.base (h2.rep (fun c z => ⟨z.2, own_ne k hs h1 c z⟩) (k.g0 a h0)) fun _ b e o' q' => ?_⟩
    cases e
    rw [h0] at q'; cases q'
  · rename_i d' hs
    obtain ⟨hm, e3⟩ := must_inv e1
    cases e3
    obtain ⟨v, h1, h2⟩ := k.shr i d hs
    exact ⟨v, h1, q v H k.base (h2.imm hm) fun _ => imm_top k.base h2 hm⟩
  · cases e1)
def ifO (t : Sl → Res Bool) (g1 g2 : Sl → Res Out) : Sl → Res Out := fun env => t env >>= fun b => if b = true then g1 env else g2 env
theorem ds_if {t : Sl → Res Bool} (hc : DT X c t) (h1 : DSs X body g1) (h2 : DSs X orelse g2) : DS X (.If c body orelse pos) (ifO t g1 g2) := by
 with_unfolding_all exact (PS.imp (ps_if hc h1 h2) fun E σ H ⟨G, H0, env, o, k, ef, q⟩ => by
  obtain ⟨b, e1, e2⟩ := bind_inv ef
  refine ⟨G, H0, env, b, k, e1, fun H' s => ?_⟩
  cases b with
  | true => rw [if_pos rfl] at e2 ⊢; exact ⟨G, H0, env, o, k.grow s, e2, out_tr (Frm.refl s) q⟩
  | false => rw [if_neg Bool.false_ne_true] at e2 ⊢; exact ⟨G, H0, env, o, k.grow s, e2, out_tr (Frm.refl s) q⟩)
/-- name = a new thing -/
def setO (i : Nat) (f : Sl → Res D) : Sl → Res Out := fun env => f env >>= fun d => .ok (.nx (env.set i (slotN d)))
theorem ds_set (i : Nat) {x : Str} {pos' : Pos} (hN : X.N.Nodup) (h : DE X .t e f) (hi : X.N[i]? = some x := by rfl) (hx : Loc X.env.scope x := by first | exact Or.inl rfl | exact Or.inr rfl) (hs : swapsWith e (some (.Name x pos')) pos.line X.env = pure false := by rfl)
    (hf : X.fn x = true ∨ X.env.scope.names.lookup x = some .local := by first | exact .inl rfl | exact .inr rfl | assumption) : DS X (.Assign [.Name x pos'] e pos) (setO i f) := by
 with_unfolding_all exact (
  PS.imp (ps_set (i := i) hN hi hx h hs hf) fun E σ H ⟨G, H0, env, o, k, ef, q⟩ => by
    obtain ⟨d, e1, e2⟩ := bind_inv ef
    cases e2
    exact ⟨G, H0, env, d, k, e1, fun v H' s r nt => q _ H' (k.setNew s r nt).1 (k.setNew s r nt).2⟩)
/-- name = what is shared -/
def setOs (i : Nat) (f : Sl → Res D) : Sl → Res Out := fun env => f env >>= fun d => .ok (.nx (env.set i (.shr d)))
theorem ds_setS (i : Nat) {x : Str} {pos' : Pos} (hN : X.N.Nodup) (h : DE X .s e f) (hi : X.N[i]? = some x := by rfl) (hx : Loc X.env.scope x := by first | exact Or.inl rfl | exact Or.inr rfl) (hs : swapsWith e (some (.Name x pos')) pos.line X.env = pure false := by rfl)
    (hf : X.fn x = true ∨ X.env.scope.names.lookup x = some .local := by first | exact .inl rfl | exact .inr rfl | assumption) : DS X (.Assign [.Name x pos'] e pos) (setOs i f) := by
 with_unfolding_all exact (
  PS.imp (ps_set (i := i) hN hi hx h hs hf) fun E σ H ⟨G, H0, env, o, k, ef, q⟩ => by
    obtain ⟨d, e1, e2⟩ := bind_inv ef
    cases e2
    exact ⟨G, H0, env, d, k, e1, fun v H' s r _ => q _ H' ((k.grow s).setS r) (.set s fun _ _ z _ => by cases z)⟩)
/-- name op= int -/
theorem ds_aug (i : Nat) {x : Str} {pos' : Pos} {op : Operator} {h : Int → Int → Int} (hN : X.N.Nodup) (he : DE X l e f) (ho : PIp X op (ipI h)) (hi : X.N[i]? = some x := by rfl) (hx : Loc X.env.scope x := by first | exact Or.inl rfl | exact Or.inr rfl)
    (hf : X.fn x = true ∨ X.env.scope.names.lookup x = some .local := by first | exact .inl rfl | exact .inr rfl | assumption) :
    DS X (.AugAssign (.Name x pos') op e pos) (setOs i (two (rdS i) f (augI h))) := by
 with_unfolding_all exact (
  PS.imp (ps_aug (i := i) hN hi hx he ho hf) fun E σ H ⟨G, H0, env, o, k, ef, q⟩ => by
    obtain ⟨d, e1, e2⟩ := bind_inv ef
    obtain ⟨a, e3, e4⟩ := bind_inv e1
    obtain ⟨b, e5, e6⟩ := bind_inv e4
    cases e2
    obtain ⟨v, h1, h2⟩ := k.shr i a (rdS_inv e3)
    refine ⟨v, h1, G, H0, env, b, k, e5, fun w H' s r _ => ?_⟩
    cases a with
    | int m =>
      cases b with
      | int n =>
        cases e6
        cases h2.intE
        cases r.intE
        exact ⟨m, n, rfl, rfl, q _ H' ((k.grow s).setS (.int _)) (.set s fun _ _ z _ => by cases z)⟩
      | _ => cases e6
    | _ => cases e6)
end
end M

set_option Elab.async false
set_option linter.all false
set_option maxRecDepth 100000
set_option maxHeartbeats 4000000
namespace M
open PySem PySem.Spec L2
open PyProof.Rows hiding St

/-! ### texts walked sign by sign -/
def Its (x : Str) : It := ⟨fun i _ => i < x.cps.size, fun i H v H' => H' = H ∧ ∃ c, x.cps[i]? = some c ∧ v = .str ⟨#[c]⟩, fun i _ => x.cps.size ≤ i⟩
theorem turn_ascii {P : Program} {w : World} {K : PySem.W.Frag} {tg : Expr} (it : Addr) (x : Str) (t : Tok) : Turn P w K tg (Its x) [it] it (fun i h => h.IsStrIter it "str_ascii_iterator" x t i) where
  mem := by simp
  obj := fun i h st b hb => by
    have e : b = it := by simpa using hb
    subst e
    obtain ⟨o, e, c, d⟩ := st
    exact ⟨o, e, fun v z => by rw [d] at z; cases z⟩
  keep := fun i h h' st k => let ⟨o, ho, r⟩ := st; ⟨o, k it (by simp) o ho, r⟩
  item := by
    intro X hP hw hK hc i pins s σ H E I hf st hg
    subst hP hw hK
    have hi : i < x.cps.size := hg
    obtain ⟨f0, f1, f2, f3, f4, f5⟩ := hf it (by simp)
    refine wpAny_pyNext_ascii_item st (c := x.cps[i]) (by simp [hi]) fun h' st' sb => ?_
    have I1 : Inv X pins σ H { s with heap := h', toks := s.toks + 1 } := I.turned (fun b o hb e => (sb.2 b hb).trans e) f0 f1 f3 f4 f5
    obtain ⟨o, e, c, d⟩ := id st'
    exact ⟨_, rfl, go_of (s := { s with heap := h', toks := s.toks + 1 }) e c d (by decide) ⟨.str ⟨#[x.cps[i]]⟩, H, I1, ⟨_, rfl⟩, ⟨rfl, _, by simp [hi], rfl⟩, st', fun b hb => (hf b hb).1⟩⟩
  done := by
    intro X hP hw hK hc i pins s σ H E I hf st hg
    subst hP hw hK
    have hi : x.cps.size ≤ i := hg
    obtain ⟨f0, f1, f2, f3, f4, f5⟩ := hf it (by simp)
    exact wpAny_pyNext_ascii_end (I.ok.hd hc) st (by simp; exact hi) fun h' eb => ⟨rfl, I.turned (t' := s.toks) (fun b o hb e => eb b o hb e) f0 f1 f3 f4 f5⟩
  self := fun _ _ _ _ _ st h => wpAny_pyIter_striter_ascii st h
theorem turn_wide {P : Program} {w : World} {K : PySem.W.Frag} {tg : Expr} (it : Addr) (x : Str) (t : Tok) : Turn P w K tg (Its x) [it] it (fun i h => h.IsStrIter it "str_iterator" x t i) where
  mem := by simp
  obj := fun i h st b hb => by
    have e : b = it := by simpa using hb
    subst e
    obtain ⟨o, e, c, d⟩ := st
    exact ⟨o, e, fun v z => by rw [d] at z; cases z⟩
  keep := fun i h h' st k => let ⟨o, ho, r⟩ := st; ⟨o, k it (by simp) o ho, r⟩
  item := by
    intro X hP hw hK hc i pins s σ H E I hf st hg
    subst hP hw hK
    have hi : i < x.cps.size := hg
    obtain ⟨f0, f1, f2, f3, f4, f5⟩ := hf it (by simp)
    refine wpAny_pyNext_wide_item st (c := x.cps[i]) (by simp [hi]) fun h' st' sb => ?_
    have I1 : Inv X pins σ H { s with heap := h', toks := s.toks + 1 } := I.turned (fun b o hb e => (sb.2 b hb).trans e) f0 f1 f3 f4 f5
    obtain ⟨o, e, c, d⟩ := id st'
    exact ⟨_, rfl, go_of (s := { s with heap := h', toks := s.toks + 1 }) e c d (by decide) ⟨.str ⟨#[x.cps[i]]⟩, H, I1, ⟨_, rfl⟩, ⟨rfl, _, by simp [hi], rfl⟩, st', fun b hb => (hf b hb).1⟩⟩
  done := by
    intro X hP hw hK hc i pins s σ H E I hf st hg
    subst hP hw hK
    have hi : x.cps.size ≤ i := hg
    obtain ⟨f0, f1, f2, f3, f4, f5⟩ := hf it (by simp)
    exact wpAny_pyNext_wide_end (I.ok.hd hc) st (by simp; exact hi) fun h' eb => ⟨rfl, I.turned (t' := s.toks) (fun b o hb e => eb b o hb e) f0 f1 f3 f4 f5⟩
  self := fun _ _ _ _ _ st h => wpAny_pyIter_striter_wide st h

/-! ### what is walked -/
/-- J walks xs where P holds -/
def Walk (J : It) (xs : List V) (P : Hp → Prop) : Prop := ∀ i H, P H → (i < xs.length → J.go i H) ∧ (i < xs.length → ∀ x H', J.yld i H x H' → H' = H ∧ xs[i]? = some x) ∧ (xs.length ≤ i → J.stop i H)
/-- what an iterator gives: a thing that was there, or a tuple of such things just laid -/
def Yd (K : PySem.W.Frag) (A : Addr → Prop) (H1 H H' : Hp) (x : V) (d : D) : Prop :=
  (H' = H ∧ Rep K A H1 x d) ∨ ∃ p vs es, H p = none ∧ x = .ref p ∧ H' = L2.upd H p (.tup vs) ∧ d = .tup es ∧ Reps K A H1 vs es
def WalkD (K : PySem.W.Frag) (A : Addr → Prop) (H1 : Hp) (J : It) (ds : List D) (P : Hp → Prop) : Prop := ∀ i H, P H → (i < ds.length → J.go i H) ∧ (∀ d, ds[i]? = some d → ∀ x H', J.yld i H x H' → Yd K A H1 H H' x d) ∧ (ds.length ≤ i → J.stop i H)
theorem Walk.toD {K : PySem.W.Frag} {A : Addr → Prop} {H1 : Hp} {J : It} {xs : List V} {ds : List D} {P : Hp → Prop} (rs : Reps K A H1 xs ds) (w : Walk J xs P) : WalkD K A H1 J ds P := fun i H p => by
  have hl := rs.length
  obtain ⟨w1, w2, w3⟩ := w i H p
  refine ⟨fun h => w1 (by omega), fun d hd x H' y => ?_, fun h => w3 (by omega)⟩
  have hi : i < ds.length := (List.getElem?_eq_some_iff.mp hd).1
  obtain ⟨e, hx⟩ := w2 (by omega) x H' y
  obtain ⟨d', hd', r⟩ := rs.get' hx
  rw [hd] at hd'; cases hd'
  exact .inl ⟨e, r⟩
def tI (K : PySem.W.Frag) (f : Sl → Res (List D)) : TI := fun σ H R => ∃ G H0 env ds, EnvOk K G H0 env σ H ∧ f env = .ok ds ∧
  ∀ J H1 P, Same H H1 → WalkD K (Sf G env σ) H1 J ds P → P H1 → (∀ env' σ' H', Frm env σ H1 env' σ' H' → P H') → R J H1
@[irreducible] def DI (X : Cx) (tg e : Expr) (f : Sl → Res (List D)) : Prop := PI X tg e (tI X.K f)
def signs (z : Str) : List D := z.cps.toList.map fun c => .str ⟨#[c]⟩
def iterD : D → Res (List D)
  | .lst ds => .ok ds
  | .scr ds => .ok ds
  | .tup ds => .ok ds
  | .str z => .ok (signs z)
  | _ => .stuck
def signV (z : Str) : List V := z.cps.toList.map fun c => .str ⟨#[c]⟩
theorem signs_rep {K : PySem.W.Frag} {A : Addr → Prop} {H : Hp} (z : Str) : Reps K A H (signV z) (signs z) := by
  unfold signV signs
  generalize z.cps.toList = l
  induction l with
  | nil => exact .nil
  | cons c r ih => exact .cons (.str _ (one_len c)) ih
section
variable {X : Cx} {tg e : Expr} {f : Sl → Res D} {l : Lv}
def itF (f : Sl → Res D) : Sl → Res (List D) := fun env => f env >>= iterD
theorem di_seq (h : DE X .s e f) : DI X tg e (itF f) := by
 with_unfolding_all exact (by
  intro pins s σ H R I ⟨G, H0, env, ds, k, ef, q⟩
  obtain ⟨d, e1, e2⟩ := bind_inv ef
  refine thn (h pins s σ H (fun v H1 => Same H H1 ∧ Rep X.K (Sf G env σ) H1 v d) I ⟨G, H0, env, d, k, e1, fun v H' s r _ => ⟨s, r⟩⟩) fun v s1 ⟨x, H1, I1, r1, sm, rep⟩ => ?_
  have k1 := k.grow sm
  cases d with
  | lst ds' =>
    cases e2
    obtain ⟨a, xs, rfl, ha, na, rs⟩ := rep.lstE
    cases r1
    obtain ⟨its, rv, p, hz⟩ := I1.list (.of ha)
    refine wpAny_pyIter_list p.isList ?_
    refine ⟨s1.heap.objs.size, [s1.heap.objs.size], _, _, H1, rfl, I1.kept (t' := s1.toks) fun b o e => Heap.get?_push_of_some _ e, turn_list a _, ⟨_, Heap.get?_push_size _ rfl, rfl, rfl⟩, fun b hb => ?_, ?_⟩
    · have e : b = s1.heap.objs.size := by simpa using hb
      subst e
      exact I1.fpOk (Nat.le_refl _) (I1.hok.fresh (Nat.le_refl _))
    · refine q _ H1 (fun H => H a = some (.lst xs)) sm (Walk.toD rs.low fun i H' p => ?_) ha (fun env' σ' H' fr => fr.keep a _ ha na.1)
      exact ⟨fun hi => ⟨xs, xs[i], .of p, by simp [hi]⟩, fun _ x H' y => ⟨y.1, y.2 xs (.of p)⟩, fun hi => ⟨xs, .of p, hi⟩⟩
  | scr ds' =>
    cases e2
    obtain ⟨a, xs, rfl, ha, rs⟩ := rep.scrE
    cases r1
    obtain ⟨its, rv, p, hz⟩ := I1.list ha.sql
    refine wpAny_pyIter_list p.isList ?_
    refine ⟨s1.heap.objs.size, [s1.heap.objs.size], _, _, H1, rfl, I1.kept (t' := s1.toks) fun b o e => Heap.get?_push_of_some _ e, turn_list a _, ⟨_, Heap.get?_push_size _ rfl, rfl, rfl⟩, fun b hb => ?_, ?_⟩
    · have e : b = s1.heap.objs.size := by simpa using hb
      subst e
      exact I1.fpOk (Nat.le_refl _) (I1.hok.fresh (Nat.le_refl _))
    · refine q _ H1 (fun H => LsK X.K H a xs) sm (Walk.toD rs fun i H' p => ?_) ha (fun env' σ' H' fr => ?_)
      · exact ⟨fun hi => ⟨xs, xs[i], p.sql, by simp [hi]⟩, fun _ x H' y => ⟨y.1, y.2 xs p.sql⟩, fun hi => ⟨xs, p.sql, hi⟩⟩
      · rcases ha with ⟨o, eo⟩ | z
        · exact .inl ⟨o, fr.keep a _ eo fun ow => (k1.mutO ow eo).elim⟩
        · exact .inr z
  | tup ds' =>
    cases e2
    obtain ⟨a, xs, rfl, ha, rs⟩ := rep.tupE
    cases r1
    obtain ⟨its, rv, p, hz⟩ := I1.tuple (.of ha)
    refine wpAny_pyIter_tuple (show s1.heap.IsTuple a its.toArray from p) ?_
    refine ⟨s1.heap.objs.size, [s1.heap.objs.size], _, _, H1, rfl, I1.kept (t' := s1.toks) fun b o e => Heap.get?_push_of_some _ e, turn_tuple a _, ⟨_, Heap.get?_push_size _ rfl, rfl, rfl⟩, fun b hb => ?_, ?_⟩
    · have e : b = s1.heap.objs.size := by simpa using hb
      subst e
      exact I1.fpOk (Nat.le_refl _) (I1.hok.fresh (Nat.le_refl _))
    · refine q _ H1 (fun H => H a = some (.tup xs)) sm (Walk.toD rs fun i H' p => ?_) ha (fun env' σ' H' fr => fr.keep a _ ha fun ow => (k1.mutO ow ha).elim)
      exact ⟨fun hi => ⟨xs, xs[i], .of p, by simp [hi]⟩, fun _ x H' y => ⟨y.1, y.2 xs (.of p)⟩, fun hi => ⟨xs, .of p, hi⟩⟩
  | str z =>
    cases e2
    obtain ⟨rfl, hz⟩ := rep.strE
    obtain ⟨t, rfl⟩ := r1
    have fin : ∀ (J : It) , J = Its z → ∃ (xs : List V) (P : Hp → Prop), Reps X.K (Sf G env σ) H1 xs (signs z) ∧ Walk J xs P ∧ P H1 ∧ ∀ env' σ' H', Frm env σ H1 env' σ' H' → P H' := by
      rintro J rfl
      refine ⟨signV z, fun _ => True, signs_rep z, fun i H' _ => ?_, trivial, fun _ _ _ _ => trivial⟩
      have hl : (signV z).length = z.cps.size := by simp [signV]
      refine ⟨fun hi => by rw [hl] at hi; exact hi, fun hi x H2 y => ?_, fun hi => by rw [hl] at hi; exact hi⟩
      obtain ⟨y1, c, y2, y3⟩ := y
      refine ⟨y1, ?_⟩
      subst y3
      simp [signV, y2]
    obtain ⟨xs, P, h1, h2, h3, h4⟩ := fin (Its z) rfl
    cases hall : z.cps.all (· < 128) with
    | true =>
      refine wpAny_pyIter_ascii hall ?_
      refine ⟨s1.heap.objs.size, [s1.heap.objs.size], _, _, H1, rfl, I1.kept (t' := s1.toks) fun b o e => Heap.get?_push_of_some _ e, turn_ascii _ z t, ⟨_, Heap.get?_push_size _ rfl, rfl, rfl⟩, fun b hb => ?_, q _ H1 P sm (Walk.toD h1 h2) h3 h4⟩
      have e : b = s1.heap.objs.size := by simpa using hb
      subst e
      exact I1.fpOk (Nat.le_refl _) (I1.hok.fresh (Nat.le_refl _))
    | false =>
      refine wpAny_pyIter_wide hall ?_
      refine ⟨s1.heap.objs.size, [s1.heap.objs.size], _, _, H1, rfl, I1.kept (t' := s1.toks) fun b o e => Heap.get?_push_of_some _ e, turn_wide _ z t, ⟨_, Heap.get?_push_size _ rfl, rfl, rfl⟩, fun b hb => ?_, q _ H1 P sm (Walk.toD h1 h2) h3 h4⟩
      have e : b = s1.heap.objs.size := by simpa using hb
      subst e
      exact I1.fpOk (Nat.le_refl _) (I1.hok.fresh (Nat.le_refl _))
  | _ => cases e2)
def intsD (lo : Int) (n : Nat) : List D := (List.range n).map fun (i : Nat) => .int (lo + (i : Int))
def intsV (lo : Int) (n : Nat) : List V := (List.range n).map fun (i : Nat) => .int (lo + (i : Int))
theorem intsD_rep {K : PySem.W.Frag} {A : Addr → Prop} {H : Hp} (lo : Int) (n : Nat) : Reps K A H (intsV lo n) (intsD lo n) := by
  unfold intsV intsD
  generalize List.range n = l
  induction l with
  | nil => exact .nil
  | cons c r ih => exact .cons (.int _) ih
theorem walk_range (lo : Int) (n : Nat) : Walk (Itr lo n) (intsV lo n) (fun _ => True) := fun i H _ => by
  have hl : (intsV lo n).length = n := by simp [intsV]
  refine ⟨fun hi => by rw [hl] at hi; exact hi, fun hi x H2 y => ?_, fun hi => by rw [hl] at hi; exact hi⟩
  obtain ⟨y1, y2⟩ := y
  refine ⟨y1, ?_⟩
  subst y2
  rw [hl] at hi
  simp [intsV, hi]

def rng1 : List D → Res (List D)
  | [.int j] => must (-(2 ^ 62) ≤ j ∧ j < 2 ^ 62) (.ok (intsD 0 j.toNat))
  | _ => .stuck
theorem Reps.one {K : PySem.W.Frag} {A : Addr → Prop} {H : Hp} {vs : List V} {d : D} (r : Reps K A H vs [d]) : ∃ v, vs = [v] ∧ Rep K A H v d := by
  cases r with
  | cons h t => cases t; exact ⟨_, rfl, h⟩
theorem Reps.two {K : PySem.W.Frag} {A : Addr → Prop} {H : Hp} {vs : List V} {d d' : D} (r : Reps K A H vs [d, d']) : ∃ v v', vs = [v, v'] ∧ Rep K A H v d ∧ Rep K A H v' d' := by
  cases r with
  | cons h t =>
    obtain ⟨v', rfl, h'⟩ := t.one
    exact ⟨_, _, rfl, h, h'⟩
theorem PI.imp {t t' : TI} (h : PI X tg e t) (w : ∀ σ H Q, t' σ H Q → t σ H Q) : PI X tg e t' := fun pins s σ H Q I q => h pins s σ H Q I (w σ H Q q)
def rngF (fa : Sl → Res (List D)) : Sl → Res (List D) := fun env => fa env >>= rng1
theorem di_range1 {a : Expr} {p pos : Pos} {fa : Sl → Res (List D)} (hg : Gl X "range") (hm : X.mg "range" = none) (ha : DA X l [a] fa) (hs : starEach [a] X.env = [(false, eval a X.env)] := by rfl) : DI X tg (.Call (.Name "range" p) [a] [] pos) (rngF fa) := by
 with_unfolding_all exact (
  PI.imp (pi_range1 hg hm ha hs) fun σ H R ⟨G, H0, env, ds, k, ef, q⟩ => by
    obtain ⟨as, e1, e2⟩ := bind_inv ef
    refine ⟨G, H0, env, as, k, e1, fun vs H1 s1 r1 => ?_⟩
    unfold rng1 at e2
    split at e2
    · obtain ⟨⟨h1, h2⟩, e3⟩ := must_inv e2
      cases e3
      obtain ⟨v, rfl, r⟩ := r1.one
      cases r.intE
      exact ⟨_, rfl, h1, h2, q _ H1 _ s1 (Walk.toD (intsD_rep 0 _) (walk_range 0 _)) trivial fun _ _ _ _ => trivial⟩
    · cases e2)
def rng2 : List D → Res (List D)
  | [.int i, .int j] => must ((-(2 ^ 62) ≤ i ∧ i < 2 ^ 62) ∧ -(2 ^ 62) ≤ j ∧ j < 2 ^ 62) (.ok (intsD i (j - i).toNat))
  | _ => .stuck
def rng2F (fa : Sl → Res (List D)) : Sl → Res (List D) := fun env => fa env >>= rng2
theorem di_range2 {a b : Expr} {p pos : Pos} {fa : Sl → Res (List D)} (hg : Gl X "range") (hm : X.mg "range" = none) (ha : DA X l [a, b] fa) (hs : starEach [a, b] X.env = [(false, eval a X.env), (false, eval b X.env)] := by rfl) (hs2 : starEach [b] X.env = [(false, eval b X.env)] := by rfl) :
    DI X tg (.Call (.Name "range" p) [a, b] [] pos) (rng2F fa) := by
 with_unfolding_all exact (
  PI.imp (pi_range2 hg hm ha hs hs2) fun σ H R ⟨G, H0, env, ds, k, ef, q⟩ => by
    obtain ⟨as, e1, e2⟩ := bind_inv ef
    refine ⟨G, H0, env, as, k, e1, fun vs H1 s1 r1 => ?_⟩
    unfold rng2 at e2
    split at e2
    · obtain ⟨⟨⟨h1, h2⟩, h3, h4⟩, e3⟩ := must_inv e2
      cases e3
      obtain ⟨v, v', rfl, r, r'⟩ := r1.two
      cases r.intE
      cases r'.intE
      exact ⟨_, _, rfl, ⟨h1, h2, h3, h4⟩, q _ H1 _ s1 (Walk.toD (intsD_rep _ _) (walk_range _ _)) trivial fun _ _ _ _ => trivial⟩
    · cases e2)

/-! ### targets -/
def tG (K : PySem.W.Frag) (t : D → Sl → Res Sl) : TG := fun v σ H Q => ∃ G H0 env d env', EnvOk K G H0 env σ H ∧ Rep K (Sf G env σ) H v d ∧ t d env = .ok env' ∧ ∀ σ', EnvOk K G H0 env' σ' H → Frm env σ H env' σ' H → Q σ' H
@[irreducible] def DG (X : Cx) (tg : Expr) (t : D → Sl → Res Sl) : Prop := PG X tg (tG X.K t)
theorem PG.imp {t t' : TG} (h : PG X tg t) (w : ∀ v σ H Q, t' v σ H Q → t v σ H Q) : PG X tg t' := fun pins s σ H v u Q I r q => h pins s σ H v u Q I r (w v σ H Q q)
def gN (i : Nat) : D → Sl → Res Sl := fun d env => .ok (env.set i (.shr d))
theorem dg_name (i : Nat) {x : Str} {pos : Pos} (hN : X.N.Nodup) (hi : X.N[i]? = some x := by rfl) (hx : Loc X.env.scope x := by first | exact Or.inl rfl | exact Or.inr rfl)
    (hf : X.fn x = true ∨ X.env.scope.names.lookup x = some .local := by first | exact .inl rfl | exact .inr rfl | assumption) : DG X (.Name x pos) (gN i) := by
 with_unfolding_all exact (
  PG.imp (pg_name hN hi hx hf) fun v σ H Q ⟨G, H0, env, d, env', k, r, e, q⟩ => by
    cases e
    exact q _ (k.setS r) (.set (Same.refl H) fun _ _ z _ => by cases z))
/-- a, b -/
def g2 (t u : D → Sl → Res Sl) : D → Sl → Res Sl := fun d env => match d with
  | .tup [x, y] => t x env >>= fun env' => u y env'
  | _ => .stuck
theorem dg_two {a b : Expr} {k : Nat} {pos : Pos} {t u : D → Sl → Res Sl} (hc : X.calm = true) (h1 : DG X a t) (h2 : DG X b u)
    (hs : (assignEach [a, b] X.env).map (·.2) = assign a X.env :: (assignEach [b] X.env).map (·.2) := by rfl) (hs2 : (assignEach [b] X.env).map (·.2) = assign b X.env :: (assignEach [] X.env).map (·.2) := by rfl)
    (hn : (assignEach [a, b] X.env).length = 2 := by rfl) (hst : (assignEach [a, b] X.env).findIdx? (·.1) = none := by rfl) : DG X (.Tuple [a, b] k pos) (g2 t u) := by
 with_unfolding_all exact (
  PG.imp (pg_tup (n := 2) hc (pgs_cons h1 (pgs_cons h2 pgs_nil hs2) hs) hn hst) fun v σ H Q ⟨G, H0, env, d, env', k, r, e, q⟩ => by
    unfold g2 at e
    split at e
    · obtain ⟨env1, e1, e2⟩ := bind_inv e
      obtain ⟨a, xs, rfl, ha, rs⟩ := r.tupE
      obtain ⟨v1, v2, rfl, r1, r2⟩ := rs.two
      refine ⟨a, _, rfl, .of ha, rfl, v1, [v2], rfl, G, H0, env, _, env1, k, r1, e1, fun σ1 k1 f1 => ⟨v2, [], rfl, G, H0, env1, _, env', k1, f1.rep k r2, e2, fun σ2 k2 f2 => ⟨rfl, q σ2 k2 (f1.trans f2)⟩⟩⟩
    · cases e)
/-- target = what is shared or new -/
def asgO (f : Sl → Res D) (t : D → Sl → Res Sl) : Sl → Res Out := fun env => f env >>= fun d => t d env >>= fun env' => .ok (.nx env')
theorem ds_asg {pos : Pos} {t : D → Sl → Res Sl} (he : DE X .s e f) (hg : DG X tg t) (hs : swapsWithSole [tg] e pos.line X.env = pure false := by rfl) (hw : swappedStores [tg] e X.env = pure none := by rfl)
    (h1 : (assignEach [tg] X.env).map (·.2) = [assign tg X.env] := by rfl) : DS X (.Assign [tg] e pos) (asgO f t) := by
 with_unfolding_all exact (
  PS.imp (ps_asg he hg hs hw h1) fun E σ H ⟨G, H0, env, o, k, ef, q⟩ => by
    obtain ⟨d, e1, e2⟩ := bind_inv ef
    obtain ⟨env', e3, e4⟩ := bind_inv e2
    cases e4
    exact ⟨G, H0, env, d, k, e1, fun v H' s r _ => ⟨G, H0, env, d, env', k.grow s, r, e3, fun σ' k' f' => q σ' H' k' (f'.grow s)⟩⟩)

/-! ### for -/
def forD (body : D → Sl → Res Out) : List D → Sl → Res Out
  | [], env => .ok (.nx env)
  | d :: ds, env => body d env >>= fun o => match o with
    | .nx env' => forD body ds env'
    | .ct env' => forD body ds env'
    | .bk env' => .ok (.nx env')
    | .rt fr d => .ok (.rt fr d)
def turnD (t : D → Sl → Res Sl) (g : Sl → Res Out) : D → Sl → Res Out := fun d env => t d env >>= g
def forO (f : Sl → Res (List D)) (t : D → Sl → Res Sl) (g : Sl → Res Out) : Sl → Res Out := fun env => f env >>= fun ds => forD (turnD t g) ds env
theorem ds_for {pos : Pos} {body : List Stmt} {fi : Sl → Res (List D)} {t : D → Sl → Res Sl} {g : Sl → Res Out} (hp : PassesOwn (model X.prog X.w) X.A X.env X.xe) (hc : X.calm = true) (hi : DI X tg e fi) (hg : DG X tg t) (hb : DSs X body g)
    (hs : ∀ x, foldedSetIterable e X.env x = pure x := by intro _; rfl) : DS X (.For tg e body [] pos) (forO fi t g) := by
 with_unfolding_all exact (
  PS.imp (ps_for hp hc hi hg hb hs) fun E σ H ⟨G, H0, env, o, k, ef, q⟩ => by
    obtain ⟨ds, e1, e2⟩ := bind_inv ef
    refine ⟨G, H0, env, ds, k, e1, fun J H1 P sm wk p0 pst => ?_⟩
    have k1 := k.grow sm
    have q1 : Post X.K G H0 env σ H1 E o := out_tr (Frm.refl sm) q
    refine ⟨fun i m σ' H' => m = ds.length - i ∧ i ≤ ds.length ∧ ∃ env', EnvOk X.K G H0 env' σ' H' ∧ Frm env σ H1 env' σ' H' ∧ forD (turnD t g) (ds.drop i) env' = .ok o, ⟨ds.length, by simp, Nat.zero_le _, env, k1, Frm.refl (Same.refl H1), by simpa using e2⟩, ?_⟩
    rintro i m σ' H' ⟨rfl, hi, env', k', f', e'⟩
    obtain ⟨w1, w2, w3⟩ := wk i H' (pst env' σ' H' f')
    by_cases hd : i < ds.length
    · refine .inr ⟨w1 hd, ?_⟩
      rw [List.drop_eq_getElem_cons hd] at e'
      obtain ⟨o1, e3, e4⟩ := bind_inv e'
      obtain ⟨env1, e5, e6⟩ := bind_inv e3
      refine ⟨fun σ2 H2 => ds.length - (i + 1) = ds.length - (i + 1) ∧ i + 1 ≤ ds.length ∧ ∃ env2, EnvOk X.K G H0 env2 σ2 H2 ∧ Frm env σ H1 env2 σ2 H2 ∧ forD (turnD t g) (ds.drop (i + 1)) env2 = .ok o, fun σ2 H2 z => ⟨ds.length - (i + 1), by omega, z⟩, fun x H2 y => ?_⟩
      obtain ⟨sm2, rd⟩ : Same H' H2 ∧ Rep X.K (Sf G env' σ') H2 x ds[i] := by
        rcases w2 _ (List.getElem?_eq_getElem hd) x H2 y with ⟨rfl, rd⟩ | ⟨p, vs, es, hp, rfl, rfl, ed, rds⟩
        · exact ⟨Same.refl _, f'.rep k1 rd⟩
        · refine ⟨Same.upd hp, ?_⟩
          rw [ed]
          exact .tup upd_same ((f'.reps k1 rds).grow (Same.upd hp))
      refine ⟨G, H0, env', ds[i], env1, k'.grow sm2, rd, e5, fun σ1 kk1 ff1 => ⟨G, H0, env1, o1, kk1, e6, ?_⟩⟩
      have fr1 := (f'.trans (Frm.refl sm2)).trans ff1
      cases o1 with
      | nx env2 => exact fun σ2 H3 kk2 ff2 => ⟨rfl, hd, env2, kk2, fr1.trans ff2, e4⟩
      | ct env2 => exact fun σ2 H3 kk2 ff2 => ⟨rfl, hd, env2, kk2, fr1.trans ff2, e4⟩
      | bk env2 => cases e4; exact fun σ2 H3 kk2 ff2 => q1 σ2 H3 kk2 (fr1.trans ff2)
      | rt fr dd => cases e4; exact q1
    · have he : i = ds.length := by omega
      refine .inl ⟨w3 (by omega), ?_⟩
      rw [List.drop_eq_nil_of_le (by omega)] at e'
      cases e'
      exact q1 σ' H' k' f')

/-! ### while: by at most n turns -/
def whileD (n : Nat) (t : Sl → Res Bool) (g : Sl → Res Out) : Sl → Res Out := fun env => match n with
  | 0 => .stuck
  | n + 1 => t env >>= fun b => if b = true then g env >>= fun o => match o with
      | .nx env' => whileD n t g env'
      | .ct env' => whileD n t g env'
      | .bk env' => .ok (.nx env')
      | .rt fr d => .ok (.rt fr d)
    else .ok (.nx env)
theorem ds_while (n : Nat) {pos : Pos} {c : Expr} {body : List Stmt} {t : Sl → Res Bool} {g : Sl → Res Out} (hp : PassesOwn (model X.prog X.w) X.A X.env X.xe) (hc : DT X c t) (hb : DSs X body g) : DS X (.While c body [] pos) (whileD n t g) := by
 with_unfolding_all exact (
  PS.imp (ps_while hp hc hb) fun E σ H ⟨G, H0, env, o, k, ef, q⟩ => by
    refine ⟨fun m σ' H' => ∃ env', EnvOk X.K G H0 env' σ' H' ∧ Frm env σ H env' σ' H' ∧ whileD m t g env' = .ok o, ⟨n, env, k, Frm.refl (Same.refl H), ef⟩, ?_⟩
    rintro m σ' H' ⟨env', k', f', e'⟩
    cases m with
    | zero => cases e'
    | succ m =>
      obtain ⟨b, e1, e2⟩ := bind_inv e'
      refine ⟨G, H0, env', b, k', e1, fun H1 s1 => ?_⟩
      cases b with
      | false =>
        rw [if_neg Bool.false_ne_true] at e2 ⊢
        cases e2
        exact q σ' H1 (k'.grow s1) (f'.trans (Frm.refl s1))
      | true =>
        rw [if_pos rfl] at e2 ⊢
        obtain ⟨o1, e3, e4⟩ := bind_inv e2
        refine ⟨fun σ2 H2 => ∃ env2, EnvOk X.K G H0 env2 σ2 H2 ∧ Frm env σ H env2 σ2 H2 ∧ whileD m t g env2 = .ok o, fun σ2 H2 z => ⟨m, Nat.lt_succ_self m, z⟩, G, H0, env', o1, k'.grow s1, e3, ?_⟩
        have fr1 := f'.trans (Frm.refl s1)
        cases o1 with
        | nx env2 => exact fun σ2 H3 kk2 ff2 => ⟨env2, kk2, fr1.trans ff2, e4⟩
        | ct env2 => exact fun σ2 H3 kk2 ff2 => ⟨env2, kk2, fr1.trans ff2, e4⟩
        | bk env2 => cases e4; exact fun σ2 H3 kk2 ff2 => q σ2 H3 kk2 (fr1.trans ff2)
        | rt fr dd => cases e4; exact q)
end

/-! ### a slot's list is no longer changed -/
def frz (i : Nat) (env : Sl) : Sl := match env[i]? with
  | some (.own d) => env.set i (.shr d)
  | _ => env
def frzO (i : Nat) (g : Sl → Res Out) : Sl → Res Out := fun env => g (frz i env)
end M

set_option Elab.async false
set_option linter.all false
set_option maxRecDepth 100000
set_option maxHeartbeats 4000000
namespace PySem.AutoSeq1
open PySem Builtin
theorem list_extend_tupleG (l : Addr) (items : Array Value) (n : Nat) (b : Addr) (items2 : Array Value) (n2 : Nat) (dd : Option Addr) (sl : Array (Option Value)) (hs0 : ¬(!items.isEmpty && Builtin.List.listTooLong (items.size + items2.size)) = true) (hs1 : items.size ≤ sizeLine) (hs2 : items.size + items2.size ≤ sizeLine + 1) :
    Meets (Builtin.«list.extend» ⟨[.ref l, .ref b], []⟩) (fun _ R s => s.heap.get? l = some { cls := .type "list", dict := none, data := .seq items n, slots := #[] } ∧ s.heap.get? b = some { cls := .type "tuple", dict := dd, data := .seq items2 n2, slots := sl } ∧ R (.ok (.ret Value.none)) { s with heap := s.heap.update l (Obj.mapSeq fun x => x ++ items2), toks := s.toks }) :=
  .of_wp fun prog w A R s h => by
    obtain ⟨hp, g, d, tk, os⟩ := s; obtain ⟨hl, hb, h⟩ := h; have f1 := idx_int; have f2 := sub_tuple_tuple; have f3 := sub_list_list; have f4 := sub_tuple_list; have f5 := sub_list_tuple;
    have hz' : (items ++ items2).size ≤ sizeLine + 1 := by rw [Array.size_append]; exact hs2
    wp_walk using (wpAny_updateSeq hl rfl (hz := hs1) (_hz' := hz')), wpAny_loadPart' hl, wpAny_loadPart' hb; exact ⟨_, rfl, h⟩
end PySem.AutoSeq1
namespace M
open PySem PySem.Spec L2
open PyProof.Rows hiding St

theorem imms_iff : ∀ {ds : List D}, D.imms ds = true ↔ ∀ d ∈ ds, d.imm = true
  | [] => by simp [D.imms]
  | d :: ds => by simp [D.imms, imms_iff (ds := ds)]
/-! ### a slot's own list is changed -/
section
variable {X : Cx}
def rExtendT : V → List V → Hp → VK → Prop := fun x vs H Q => ∃ l b xs zs, x = .ref l ∧ vs = [.ref b] ∧ H l = some (.lst xs) ∧ H b = some (.tup zs) ∧ xs.length + zs.length ≤ sizeLine ∧ Q .non (upd H l (.lst (xs ++ zs)))
theorem mt_extendT : MtM X "list.extend" rExtendT := by
  intro pins s σ H x vs v us Q I rx rv h
  obtain ⟨l, b, xs, zs, rfl, rfl, hH, hB, hz, q⟩ := h
  cases rx
  obtain ⟨u, rfl, ru⟩ := rv.one
  cases ru
  obtain ⟨z, its, n, r, hl, e⟩ := I.lstM hH
  obtain ⟨its2, r2, ⟨ob, e2, hc, n2, hd⟩, z2⟩ := I.tuple (.of hB)
  have hl2 := r2.length
  obtain ⟨c2, dd2, dt2, sl2⟩ := ob
  have hc' : c2 = .type "tuple" := hc
  have hd' : dt2 = .seq its2.toArray n2 := hd
  subst hc' hd'
  have hsz : its.toArray.size + its2.toArray.size ≤ sizeLine := by rw [List.size_toArray, List.size_toArray]; omega
  have hlong : ¬ (!its.toArray.isEmpty && Builtin.List.listTooLong (its.toArray.size + its2.toArray.size)) = true := by
    rw [notLongL hsz, Bool.and_false]
    exact Bool.false_ne_true
  refine call_meets F.slot_list_extend ⟨_, e, rfl⟩ F.entry_list_extend (F.args_list_extend_2 _ _)
    (AutoSeq1.list_extend_tupleG l its.toArray n b its2.toArray n2 dd2 sl2 hlong (by rw [List.size_toArray]; omega) (by omega)) ⟨e, e2, ?_⟩
  refine ⟨.non, _, I.lset (its' := its ++ its2) hH e (by simp) (r.append r2) ?_, rfl, q⟩
  rw [List.length_append]
  omega

theorem owned_same {env : Sl} {σ : L2.St} {i : Nat} {d d' : D} {a : Addr} (hi : env[i]? = some (.own d)) : Owned (env.set i (.own d')) σ a ↔ Owned env σ a := by
  have hl : i < env.length := (List.getElem?_eq_some_iff.mp hi).1
  constructor
  · rintro ⟨j, e, h1, h2⟩
    by_cases z : i = j
    · subst z; exact ⟨i, d, hi, h2⟩
    · rw [get_set_ne z] at h1; exact ⟨j, e, h1, h2⟩
  · rintro ⟨j, e, h1, h2⟩
    by_cases z : i = j
    · subst z; exact ⟨i, d', List.getElem?_set_self hl, h2⟩
    · exact ⟨j, e, by rw [get_set_ne z]; exact h1, h2⟩
/-- the list that the slot i owns is written anew -/
theorem EnvOk.write {K : PySem.W.Frag} {G : Addr → Prop} {H0 H : Hp} {env : Sl} {σ : L2.St} {i : Nat} {ds ds' : List D} {a : Addr} {xs xs' : List V} (k : EnvOk K G H0 env σ H) (hi : env[i]? = some (.own (.lst ds))) (ha : σ[i]? = some (some (.ref a))) (hx : H a = some (.lst xs))
    (r : Reps K (Sf G env σ) H xs' ds') : EnvOk K G H0 (env.set i (.own (.lst ds'))) σ (upd H a (.lst xs')) ∧ Frm env σ H (env.set i (.own (.lst ds'))) σ (upd H a (.lst xs')) := by
  have hl : i < env.length := (List.getElem?_eq_some_iff.mp hi).1
  have ow : Owned env σ a := ⟨i, _, hi, ha⟩
  have st : Stay (Sf G env σ) H (upd H a (.lst xs')) := fun c o e m => by
    rw [upd_ne ?_]
    · exact e
    · rintro rfl
      rw [hx] at e; cases e
      exact (m trivial).1 ow
  have w : ∀ c, Sf G env σ c → Sf G (env.set i (.own (.lst ds'))) σ c := fun c n => ⟨fun o => n.1 ((owned_same hi).mp o), n.2⟩
  refine ⟨⟨by simp [k.len], fun c o e => ?_, k.g0, fun j d' h => ?_, fun j d' h => ?_, fun j j' d1 d2 b q1 q2 q3 q4 => ?_⟩, ⟨fun c o e n => ?_, fun c o => .inl ((owned_same hi).mp o), fun c e => ?_⟩⟩
  · have hc : c ≠ a := by
      rintro rfl
      obtain ⟨b, h1, h0, _⟩ := k.own i _ hi
      rw [ha] at h1; cases h1
      rw [h0] at e; cases e
    rw [upd_ne hc]
    exact k.base c o e
  · by_cases z : i = j
    · subst z
      obtain ⟨q, _⟩ := get_set_eq h
      cases q
    · rw [get_set_ne z] at h
      obtain ⟨v, h1, h2⟩ := k.shr j d' h
      exact ⟨v, h1, h2.stay st w⟩
  · by_cases z : i = j
    · subst z
      obtain ⟨q, _⟩ := get_set_eq h
      cases q
      obtain ⟨b, h1, h0, _⟩ := k.own i _ hi
      rw [ha] at h1; cases h1
      exact ⟨a, ha, h0, .lst upd_same (r.stay st w)⟩
    · rw [get_set_ne z] at h
      obtain ⟨b, h1, h0, h2⟩ := k.own j d' h
      have hb : b ≠ a := by
        rintro rfl
        exact z (k.dis i j _ _ b hi h ha h1)
      exact ⟨b, h1, h0, h2.stay st w fun o e => by rw [upd_ne hb]; exact e⟩
  · have real : ∀ (j : Nat) (d1 : D), (env.set i (.own (.lst ds')))[j]? = some (.own d1) → ∃ d0 : D, env[j]? = some (.own d0) := fun j d1 q => by
      by_cases z : i = j
      · subst z; exact ⟨_, hi⟩
      · rw [get_set_ne z] at q; exact ⟨_, q⟩
    obtain ⟨e1, z1⟩ := real j d1 q1
    obtain ⟨e2, z2⟩ := real j' d2 q2
    exact k.dis j j' e1 e2 b z1 z2 q3 q4
  · have hc : c ≠ a := by
      rintro rfl
      exact n ow
    rw [upd_ne hc]; exact e
  · by_cases hc : c = a
    · subst hc; rw [upd_same] at e; cases e
    · rw [upd_ne hc] at e; exact e
theorem own_list {K : PySem.W.Frag} {G : Addr → Prop} {H0 H : Hp} {env : Sl} {σ : L2.St} {i : Nat} {ds : List D} (k : EnvOk K G H0 env σ H) (hi : env[i]? = some (.own (.lst ds))) : ∃ a xs, σ[i]? = some (some (.ref a)) ∧ H a = some (.lst xs) ∧ Reps K (Sf G env σ) H xs ds := by
  obtain ⟨a, h1, h0, h2⟩ := k.own i _ hi
  cases h2 with
  | lst e r => exact ⟨a, _, h1, e, r⟩

variable {e : Expr} {f : Sl → Res D} {l : Lv} {pos cpos apos p : Pos} {x : Str}
/-- the own list of slot i -/
def ownL (i : Nat) (env : Sl) : Res (List D) := match env[i]? with
  | some (.own (.lst ds)) => .ok ds
  | _ => .stuck
theorem ownL_inv {i : Nat} {env : Sl} {ds : List D} (h : ownL i env = .ok ds) : env[i]? = some (.own (.lst ds)) := by
  unfold ownL at h
  split at h
  · cases h; assumption
  · cases h
def appendO (i : Nat) (f : Sl → Res D) : Sl → Res Out := fun env => ownL i env >>= fun ds => f env >>= fun d => must (ds.length < sizeLine) (.ok (.nx (env.set i (.own (.lst (ds ++ [d]))))))
theorem ds_append (i : Nat) (he : DE X .s e f) (hN : X.N[i]? = some x := by rfl) (hv : Vis X.env.scope x := by first | exact Or.inl rfl | exact Or.inr (Or.inl rfl) | exact Or.inr (Or.inr rfl))
    (hd : (x == ("__debug__" : Str)) = false := by decide) (hcd : (x == ("__classdict__" : Str)) = false := by decide)
    (hbase : attributeBase (.Name x p) "append" X.env (eval (.Name x p) X.env) = eval (.Name x p) X.env := by rfl)
    (hfew : ((backTo cpos (starEach [e] X.env)).all (fun x => !x.1) && (backToKw cpos (keywordEach [] X.env)).all (fun x => x.1.isSome)
      && decide ([e].length + ([] : List Keyword).length + (if ([] : List Keyword).isEmpty then 0 else 1) < 30)) = true := by exact few_plain rfl rfl)
    (hline : (apos.endLine == cpos.line) = true := by rfl) (hs : starEach [e] X.env = (false, eval e X.env) :: starEach [] X.env := by exact star_plain rfl) (hplain : (backTo cpos (starEach [] X.env)).any (·.1) = false := by exact any_plain rfl)
    (hsw : swapsWith (.Call (.Attribute (.Name x p) "append" apos) [e] [] cpos) none pos.line X.env = pure false := by rfl) :
    DS X (.Expr (.Call (.Attribute (.Name x p) "append" apos) [e] [] cpos) pos) (appendO i f) := by
 with_unfolding_all exact (
  PS.imp (ps_expr (pe_bm PySem.F.plainAttrs_list PySem.F.slot_list_append PySem.F.type_list_append mt_append (pe_var (i := i) hN hv hd hcd) (pa_cons he pa_nil hs) hbase hfew hline hs hplain) hsw) fun E σ H ⟨G, H0, env, o, k, ef, q⟩ => by
    obtain ⟨ds, e1, e2⟩ := bind_inv ef
    obtain ⟨d, e3, e4⟩ := bind_inv e2
    obtain ⟨hz, e5⟩ := must_inv e4
    cases e5
    have hi := ownL_inv e1
    obtain ⟨a, xs, ha, hx, rs⟩ := own_list k hi
    refine ⟨.ref a, ha, .inl ⟨rfl, xs, .of hx⟩, G, H0, env, d, k, e3, fun v H1 s1 r1 _ => ?_⟩
    have hx1 := s1 _ _ hx
    refine ⟨a, xs, v, rfl, rfl, hx1, by rw [rs.length]; exact hz, ?_⟩
    have W := (k.grow s1).write hi ha hx1 (xs' := xs ++ [v]) (ds' := ds ++ [d]) ((rs.grow s1).append (.cons r1 .nil))
    exact q σ _ W.1 (W.2.grow s1))
def extendO (i : Nat) (f : Sl → Res D) : Sl → Res Out := fun env => ownL i env >>= fun ds => f env >>= fun d => match d with
  | .lst es => must (ds.length + es.length ≤ sizeLine) (.ok (.nx (env.set i (.own (.lst (ds ++ es))))))
  | .tup es => must (ds.length + es.length ≤ sizeLine) (.ok (.nx (env.set i (.own (.lst (ds ++ es))))))
  | _ => .stuck
theorem ds_extend (i : Nat) (he : DE X .s e f) (hN : X.N[i]? = some x := by rfl) (hv : Vis X.env.scope x := by first | exact Or.inl rfl | exact Or.inr (Or.inl rfl) | exact Or.inr (Or.inr rfl))
    (hd : (x == ("__debug__" : Str)) = false := by decide) (hcd : (x == ("__classdict__" : Str)) = false := by decide)
    (hbase : attributeBase (.Name x p) "extend" X.env (eval (.Name x p) X.env) = eval (.Name x p) X.env := by rfl)
    (hfew : ((backTo cpos (starEach [e] X.env)).all (fun x => !x.1) && (backToKw cpos (keywordEach [] X.env)).all (fun x => x.1.isSome)
      && decide ([e].length + ([] : List Keyword).length + (if ([] : List Keyword).isEmpty then 0 else 1) < 30)) = true := by exact few_plain rfl rfl)
    (hline : (apos.endLine == cpos.line) = true := by rfl) (hs : starEach [e] X.env = (false, eval e X.env) :: starEach [] X.env := by exact star_plain rfl) (hplain : (backTo cpos (starEach [] X.env)).any (·.1) = false := by exact any_plain rfl)
    (hsw : swapsWith (.Call (.Attribute (.Name x p) "extend" apos) [e] [] cpos) none pos.line X.env = pure false := by rfl) :
    DS X (.Expr (.Call (.Attribute (.Name x p) "extend" apos) [e] [] cpos) pos) (extendO i f) := by
 with_unfolding_all exact (
  PS.imp (ps_expr (pe_bm PySem.F.plainAttrs_list PySem.F.slot_list_extend PySem.F.type_list_extend (MtR.or mt_extend mt_extendT) (pe_var (i := i) hN hv hd hcd) (pa_cons he pa_nil hs) hbase hfew hline hs hplain) hsw) fun E σ H ⟨G, H0, env, o, k, ef, q⟩ => by
    obtain ⟨ds, e1, e2⟩ := bind_inv ef
    obtain ⟨d, e3, e4⟩ := bind_inv e2
    have hi := ownL_inv e1
    obtain ⟨a, xs, ha, hx, rs⟩ := own_list k hi
    refine ⟨.ref a, ha, .inl ⟨rfl, xs, .of hx⟩, G, H0, env, d, k, e3, fun v H1 s1 r1 _ => ?_⟩
    have hx1 := s1 _ _ hx
    cases d with
    | lst es =>
      obtain ⟨hz, e5⟩ := must_inv e4
      cases e5
      obtain ⟨b, ys, rfl, hb, _, ry⟩ := r1.lstE
      have ry' := ry.low
      refine .inl ⟨a, b, xs, ys, rfl, rfl, hx1, hb, by rw [rs.length, ry.length]; exact hz, ?_⟩
      have W := (k.grow s1).write hi ha hx1 (xs' := xs ++ ys) (ds' := ds ++ es) ((rs.grow s1).append ry')
      exact q σ _ W.1 (W.2.grow s1)
    | tup es =>
      obtain ⟨hz, e5⟩ := must_inv e4
      cases e5
      obtain ⟨b, ys, rfl, hb, ry⟩ := r1.tupE
      have ry' := ry
      refine .inr ⟨a, b, xs, ys, rfl, rfl, hx1, hb, by rw [rs.length, ry.length]; exact hz, ?_⟩
      have W := (k.grow s1).write hi ha hx1 (xs' := xs ++ ys) (ds' := ds ++ es) ((rs.grow s1).append ry')
      exact q σ _ W.1 (W.2.grow s1)
    | _ => cases e4)
/-- target = xs.pop() -/
def popO (i : Nat) (t : D → Sl → Res Sl) : Sl → Res Out := fun env => ownL i env >>= fun ds => match ds.getLast? with
  | some d => t d (env.set i (.own (.lst ds.dropLast))) >>= fun env' => .ok (.nx env')
  | none => .stuck
def clearO (i : Nat) : Sl → Res Out := fun env => ownL i env >>= fun _ => .ok (.nx (env.set i (.own (.lst []))))
end
end M

set_option Elab.async false
set_option linter.all false
set_option maxRecDepth 100000
set_option maxHeartbeats 4000000
namespace M
open PySem PySem.Spec L2
open PyProof.Rows hiding St

/-! ### a list comprehension -/
/-- the loop of a comprehension, a target of any kind -/
theorem compLoop_any {prog : Program} {w : World} {A : Around} {R : Result → Shared → Prop} {s : Shared} {elt target iter : Expr} {ifs : List Expr} {scope : Scope} {pos : Pos} {it acc : Value} {env : Env} (I : Nat → Shared → Prop)
    (turn : ∀ n s, I n s → wpAny (model prog w) A (pyNext it) (fun r s₁ => match r with
      | none => R (.ok .next) s₁
      | some v => wpAny (model prog w) A (letOwnedTupleGo target it v) (fun _ s₁' => wpAny (model prog w) A (assign target env v) (fun _ s₂ =>
          wpAny (model prog w) A (forIn ifs true fun c r => if r = true then do let ok ← isTrue c env (eval c env); pure (ForInStep.yield ok) else pure (ForInStep.yield r)) (fun ok s₃ =>
            if ok = true then wpAny (model prog w) A (eval elt env) (fun x s₄ =>
              wpAny (model prog w) A (call (.builtin "list.append") [acc, x]) (fun _ s₅ => ∃ m, m < n ∧ I m s₅) (fun _ _ => False) s₄) (fun _ _ => False) s₃
            else ∃ m, m < n ∧ I m s₃) (fun _ _ => False) s₂) (fun _ _ => False) s₁') (fun _ _ => False) s₁) (fun _ _ => False) s)
    (n : Nat) (h : I n s) : codeAny (model prog w) A (.compLoop (.ListComp elt [⟨target, iter, ifs, 0⟩] scope pos) 0 it acc env) R s := by
  refine codeAny_loop rfl I (fun n s hI => ?_) n h
  show wpAny _ A ((compTurn (.ListComp elt [⟨target, iter, ifs, 0⟩] scope pos) 0 it acc env).onRaise (fun x => do noteFrame x env; theTreesLotGoes x)) _ _ s
  refine wpAny_noted ?_
  rw [compTurn_list]
  refine wpAny_bind (wpAny_standAt (wpAny_bind (wpAny_mono (turn n s hI) (fun r s₁ h₁ => ?_) fun _ _ h' => h'.elim)))
  cases r with
  | none => exact wpAny_pure h₁
  | some v =>
    refine wpAny_bind (wpAny_mono h₁ (fun _ s₁' h₁' => ?_) fun _ _ h' => h'.elim)
    refine wpAny_bind (wpAny_mono h₁' (fun _ s₂ h₂ => wpAny_bind (wpAny_mono h₂ (fun ok s₃ h₃ => ?_) fun _ _ h' => h'.elim)) fun _ _ h' => h'.elim)
    cases ok with
    | false => exact wpAny_pure ⟨rfl, h₃⟩
    | true =>
      exact wpAny_bind (wpAny_bind (wpAny_mono h₃ (fun x s₄ h₄ => wpAny_bind (wpAny_mono h₄ (fun _ s₅ h₅ => wpAny_pure (wpAny_pure ⟨rfl, h₅⟩)) fun _ _ h' => h'.elim)) fun _ _ h' => h'.elim))

/-- the context of a comprehension's block -/
def cxComp (X : Cx) (N : List Str) (scope : Scope) (cl : List (Str × Addr)) (C : Addr) (s : Shared) (H : Hp) (fp : List Addr) : Cx where
  prog := X.prog
  w := X.w
  K := X.K
  mg := X.mg
  base := X.base
  A := X.A
  N := N
  s₀ := s
  H₀ := H
  env := compEnvC scope cl C X.env
  outer := X.stack
  stack := X.stack
  ex := fp
  fn := fun _ => false
  calm := true
  pn := []
  xe := fun _ _ => False

/-- the tests of a comprehension -/
@[irreducible] def DTs (X : Cx) (ifs : List Expr) (c : Sl → Res Bool) : Prop :=
  ∀ (pins : List (Addr × Obj)) (s : Shared) (σ : L2.St) (H : Hp) (Q : Bool → Hp → Prop), Inv X pins σ H s → tT X.K c σ H Q →
    wpAny (model X.prog X.w) X.A (forIn ifs true fun c r => if r = true then do let ok ← isTrue c X.env (eval c X.env); pure (ForInStep.yield ok) else pure (ForInStep.yield r)) (TP X pins σ Q) X.xe s
def trueB : Sl → Res Bool := fun _ => .ok true
theorem dts_nil {X : Cx} : DTs X [] trueB := by
 with_unfolding_all exact (fun pins s σ H Q I ⟨G, H0, env, b, k, ef, q⟩ => by
  cases ef
  exact wpAny_tests_nil ⟨H, I, q H (Same.refl H)⟩)
def compD (n : Nat) (t : D → Sl → Res Sl) (c : Sl → Res Bool) (fe : Sl → Res D) : List D → Sl → Res Sl
  | [], env => .ok env
  | d :: ds, env => t d env >>= fun env1 => c env1 >>= fun b => if b = true
      then fe env1 >>= fun v => ownL n env1 >>= fun acc => must (acc.length < sizeLine) (compD n t c fe ds (env1.set n (.own (.lst (acc ++ [v])))))
      else compD n t c fe ds env1
def capS (im : Bool) (env : Sl) (j : Nat) : Slot := match env[j]? with
  | some (.shr d) => .shr d
  | some (.own d) => if im = true then .shr d else .un
  | _ => .un
def compE (im : Bool) (m : Nat) (js : List Nat) (env : Sl) : Sl := List.replicate m .un ++ js.map (capS im env) ++ [.own (.lst [])]
/-- im: the slots' own lists are seen, and what is made can't change -/
def compO (im : Bool) (m : Nat) (js : List Nat) (fi : Sl → Res (List D)) (t : D → Sl → Res Sl) (c : Sl → Res Bool) (fe : Sl → Res D) : Sl → Res D := fun env =>
  fi env >>= fun ds => compD (m + js.length) t c fe ds (compE im m js env) >>= fun env' => ownL (m + js.length) env' >>= fun acc => must (im = true → D.imms acc = true) (.ok (.lst acc))
def compσ (m : Nat) (js : List Nat) (σ : L2.St) (a : Addr) : L2.St := List.replicate m none ++ js.map (fun j => (σ[j]?).join) ++ [some (.ref a)]

theorem relabel_mem {env : Env} : ∀ {names : List (Str × NameKind)} {x : Str} {k : NameKind},
    (names.map fun (n, k) => if (k == NameKind.free && env.scope.kind == .function && env.kindOf n == some .cell) then (n, NameKind.cell) else (n, k)).lookup x = some k → ∃ k', (x, k') ∈ names ∧ (k = k' ∨ k' = .free)
  | [], _, _, h => by simp at h
  | (n, k') :: r, x, k, h => by
    have h' : List.lookup x ((if (k' == NameKind.free && env.scope.kind == .function && env.kindOf n == some .cell) = true then (n, NameKind.cell) else (n, k')) :: (r.map fun (n, k) => if (k == NameKind.free && env.scope.kind == .function && env.kindOf n == some .cell) then (n, NameKind.cell) else (n, k))) = some k := h
    by_cases hc : (k' == NameKind.free && env.scope.kind == .function && env.kindOf n == some .cell) = true
    · rw [if_pos hc] at h'
      simp only [List.lookup_cons] at h'
      cases hx : x == n with
      | true =>
        rw [hx] at h'
        have e : x = n := by simpa using hx
        subst e
        refine ⟨k', List.mem_cons_self, .inr ?_⟩
        simp only [Bool.and_eq_true, beq_iff_eq] at hc
        exact hc.1.1
      | false =>
        rw [hx] at h'
        obtain ⟨k2, h1, h2⟩ := relabel_mem h'
        exact ⟨k2, List.mem_cons_of_mem _ h1, h2⟩
    · rw [if_neg hc] at h'
      simp only [List.lookup_cons] at h'
      cases hx : x == n with
      | true =>
        rw [hx] at h'
        have e : x = n := by simpa using hx
        subst e
        cases h'
        exact ⟨_, List.mem_cons_self, .inl rfl⟩
      | false =>
        rw [hx] at h'
        obtain ⟨k2, h1, h2⟩ := relabel_mem h'
        exact ⟨k2, List.mem_cons_of_mem _ h1, h2⟩

/-- what is asked of a comprehension's scope; N: its names, m targets, then the names of the slots js, then one that is none -/
structure CompSc (X : Cx) (scope : Scope) (cl : List (Str × Addr)) (N : List Str) (m : Nat) (js : List Nat) : Prop where
  clos : closureFor scope X.env = pure cl
  kind : scope.kind = .function
  names : ∀ x ∈ scope.names, x.2 = .local → scope.names.lookup x.1 = some .local
  nocell : ∀ y ∈ scope.names, y.2 ≠ .cell
  cls : ∀ x c, cl.lookup x = some c → X.env.cells.lookup x = some c
  free : ∀ y ∈ scope.names, y.2 = .free → ∃ c, cl.lookup y.1 = some c
  nd : N.Nodup
  len : N.length = m + js.length + 1
  cap : ∀ (k j : Nat), js[k]? = some j → ∃ y, N[m + k]? = some y ∧ X.N[j]? = some y ∧ (X.env.scope.names.lookup y = some .cell ∨ X.env.scope.names.lookup y = some .free) ∧ scope.names.lookup y = some .free
  last : ∀ y, N[m + js.length]? = some y → ∀ p ∈ scope.names, p.1 ≠ y

section
variable {X : Cx} {tg iter elt : Expr} {ifs : List Expr} {scope : Scope} {cl : List (Str × Addr)} {N : List Str} {m : Nat} {js : List Nat} {pos : Pos} {im : Bool}
  {fi : Sl → Res (List D)} {t : D → Sl → Res Sl} {c : Sl → Res Bool} {fe : Sl → Res D}

theorem comp_ok {pins : List (Addr × Obj)} {σ : L2.St} {H : Hp} {s : Shared} {C : Addr} {fp : List Addr} (S : CompSc X scope cl N m js) (hc : X.calm = true) (I : Inv X pins σ H s) (hC : s.heap.objs.size ≤ C) (hf : ∀ b ∈ fp, FpOk X pins H b) (hfp : ∀ b ∈ fp, b < s.heap.objs.size) :
    (cxComp X N scope cl C s H fp).Ok where
  mod := I.ok.mod
  kind := S.kind
  glob := I.ok.glob
  blt := I.ok.blt
  above := hC
  inj := fun x y c h1 h2 => I.ok.inj x y c (S.cls x c h1) (S.cls y c h2)
  has := fun x h => by
    have mem : ∃ k', (x, k') ∈ scope.names ∧ k' = .free := by
      rcases h with h | h
      · obtain ⟨k', h1, h2⟩ := relabel_mem (env := X.env) (names := scope.names) h
        rcases h2 with z | z
        · exact absurd z.symm (S.nocell _ h1)
        · exact ⟨k', h1, z⟩
      · obtain ⟨k', h1, h2⟩ := relabel_mem (env := X.env) (names := scope.names) h
        rcases h2 with z | z
        · exact ⟨k', h1, z.symm⟩
        · exact ⟨k', h1, z⟩
    obtain ⟨k', h1, h2⟩ := mem
    exact S.free _ h1 h2
  cab := fun x c h => by cases h
  hd := fun _ => I.ok.hd hc
  frames := I.ok.frames
  stk := .inl rfl
  exf := fun b hb => ⟨fun z => absurd (Nat.lt_of_lt_of_le (hfp b hb) (by rw [z]; exact hC)) (Nat.lt_irrefl _), fun x c h => (hf b hb).2.2.2.2.1 x c (S.cls x c h)⟩
  bs := I.bs
  bsz := Nat.le_trans I.ok.bsz I.sz
  noex := fun b o e hb => by
    rcases (hf b hb).2.2.2.1 with z | z
    · exact I.ok.noex b o e z
    · exact absurd (Nat.lt_of_lt_of_le (Heap.lt_size e) (Nat.le_trans I.ok.bsz z)) (Nat.lt_irrefl _)
  exfs := fun b hb z => by
    rcases List.mem_cons.mp (I.stkSub b z) with q | q
    · exact (hf b hb).2.1 q
    · exact (hf b hb).2.2.1 q
  funs := I.stack
  frf := I.stkFree

theorem cap_own {env : Sl} {j : Nat} {d : D} (h : capS im env j = .own d) : False := by
  unfold capS at h
  split at h
  · cases h
  · split at h <;> cases h
  · cases h
theorem comp_owned {env : Sl} {σ : L2.St} {a b : Addr} (h : Owned (compE im m js env) (compσ m js σ a) b) : b = a := by
  obtain ⟨i, d, h, h2⟩ := h
  have hi : i = m + js.length := by
    unfold compE at h
    by_cases h1 : i < m
    · rw [List.append_assoc, List.getElem?_append_left (by simpa using h1), List.getElem?_replicate] at h
      split at h <;> cases h
    · rw [List.append_assoc, List.getElem?_append_right (by simpa using h1)] at h
      simp only [List.length_replicate] at h
      by_cases h2 : i - m < js.length
      · rw [List.getElem?_append_left (by simpa using h2), List.getElem?_map] at h
        cases e : js[i - m]? with
        | none => rw [e] at h; cases h
        | some j =>
          rw [e] at h
          have h' : capS im env j = .own d := Option.some.inj h
          exact (cap_own h').elim
      · rw [List.getElem?_append_right (by simpa using h2)] at h
        simp only [List.length_map] at h
        by_cases h3 : i - m - js.length = 0
        · omega
        · rw [List.getElem?_eq_none (by simp; omega)] at h; cases h
  subst hi
  have at_n : (compσ m js σ a)[m + js.length]? = some (some (.ref a)) := by
    unfold compσ
    rw [List.append_assoc, List.getElem?_append_right (by simp), List.getElem?_append_right (by simp)]
    simp
  rw [at_n] at h2; cases h2; rfl
/-- what the block may hold -/
abbrev Gc (im : Bool) (G : Addr → Prop) (env : Sl) (σ : L2.St) : Addr → Prop := fun c => G c ∧ (im = false → ¬ Owned env σ c)
theorem env_comp {K : PySem.W.Frag} {G : Addr → Prop} {H0 H : Hp} {env : Sl} {σ : L2.St} {a : Addr} (k : EnvOk K G H0 env σ H) (ha : H a = none) :
    EnvOk K (Gc im G env σ) H (compE im m js env) (compσ m js σ a) (upd H a (.lst [])) := by
  have own1 : ∀ (i : Nat) (d : D), (compE im m js env)[i]? = some (.own d) → i = m + js.length ∧ d = .lst [] := fun i d h => by
    unfold compE at h
    by_cases h1 : i < m
    · rw [List.append_assoc, List.getElem?_append_left (by simpa using h1), List.getElem?_replicate] at h
      split at h <;> cases h
    · rw [List.append_assoc, List.getElem?_append_right (by simpa using h1)] at h
      simp only [List.length_replicate] at h
      by_cases h2 : i - m < js.length
      · rw [List.getElem?_append_left (by simpa using h2), List.getElem?_map] at h
        cases e : js[i - m]? with
        | none => rw [e] at h; cases h
        | some j =>
          rw [e] at h
          have h' : capS im env j = .own d := Option.some.inj h
          exact (cap_own h').elim
      · rw [List.getElem?_append_right (by simpa using h2)] at h
        simp only [List.length_map] at h
        by_cases h3 : i - m - js.length = 0
        · rw [h3] at h
          cases h
          exact ⟨by omega, rfl⟩
        · rw [List.getElem?_eq_none (by simp; omega)] at h; cases h
  have at_n : (compσ m js σ a)[m + js.length]? = some (some (.ref a)) := by
    unfold compσ
    rw [List.append_assoc, List.getElem?_append_right (by simp), List.getElem?_append_right (by simp)]
    simp
  have owned : ∀ b, Owned (compE im m js env) (compσ m js σ a) b → b = a := fun b ⟨i, d, h1, h2⟩ => by
    obtain ⟨rfl, rfl⟩ := own1 i d h1
    rw [at_n] at h2; cases h2; rfl
  have sm : Same H (upd H a (.lst [])) := Same.upd ha
  refine ⟨by simp [compE, compσ], sm, fun c z => ⟨(k.new c z).2, fun _ => (k.new c z).1⟩, fun i d h => ?_, fun i d h => ?_, fun i j d e b h1 h2 h3 h4 => (own1 i d h1).1.trans (own1 j e h2).1.symm⟩
  · unfold compE at h
    by_cases h1 : i < m
    · rw [List.append_assoc, List.getElem?_append_left (by simpa using h1), List.getElem?_replicate] at h
      split at h <;> cases h
    · rw [List.append_assoc, List.getElem?_append_right (by simpa using h1)] at h
      simp only [List.length_replicate] at h
      by_cases h2 : i - m < js.length
      · rw [List.getElem?_append_left (by simpa using h2), List.getElem?_map] at h
        cases e : js[i - m]? with
        | none => rw [e] at h; cases h
        | some j =>
          rw [e] at h
          have h' : capS im env j = .shr d := Option.some.inj h
          have hσ : (compσ m js σ a)[i]? = some ((σ[j]?).join) := by
            unfold compσ
            rw [List.append_assoc, List.getElem?_append_right (by simpa using h1)]
            simp only [List.length_replicate]
            rw [List.getElem?_append_left (by simpa using h2), List.getElem?_map, e]
            rfl
          have fin : ∀ v, σ[j]? = some (some v) → Rep K (Gc im G env σ) H v d → ∃ v, (compσ m js σ a)[i]? = some (some v) ∧ Rep K (Sf (Gc im G env σ) (compE im m js env) (compσ m js σ a)) (upd H a (.lst [])) v d := fun v e1 r => by
            refine ⟨v, by rw [hσ, e1]; rfl, (r.inDom.grow sm).weak fun b z => ⟨fun o => ?_, z.1⟩⟩
            rw [owned b o] at z
            exact z.2 ha
          unfold capS at h'
          split at h'
          · rename_i d' hd; cases h'
            obtain ⟨v, h3, h4⟩ := k.shr j d hd
            exact fin v h3 (h4.weak fun c z => ⟨z.2, fun _ => z.1⟩)
          · rename_i d' hd
            split at h'
            · rename_i hi'
              cases h'
              obtain ⟨v, h3, h0, h4⟩ := k.own j d hd
              exact fin _ h3 (h4.rep (fun c z => ⟨⟨z.2, fun _ => z.1⟩, own_ne k hd h3 c z⟩) ⟨k.g0 _ h0, fun z => by rw [hi'] at z; cases z⟩)
            · cases h'
          · cases h'
      · rw [List.getElem?_append_right (by simpa using h2)] at h
        simp only [List.length_map] at h
        by_cases h3 : i - m - js.length = 0
        · rw [h3] at h
          cases h
        · rw [List.getElem?_eq_none (by simp; omega)] at h; cases h
  · obtain ⟨rfl, rfl⟩ := own1 i d h
    exact ⟨a, at_n, ha, .lst upd_same .nil⟩

theorem comp_core (use : Option (Value → Sem Unit)) (Q' : Value → Shared → Prop) (im : Bool) (N : List Str) (m : Nat) (js : List Nat) (S : CompSc X scope cl N m js) (hc : X.calm = true) (hi : PI X tg iter (tI X.K fi))
    (hb : ∀ (C : Addr) (s : Shared) (H : Hp) (fp : List Addr), PG (cxComp X N scope cl C s H fp) tg (tG X.K t) ∧ DTs (cxComp X N scope cl C s H fp) ifs c ∧ PE (cxComp X N scope cl C s H fp) elt (tE X.K .s fe))
    (hs : ∀ x, foldedSetIterable iter X.env x = pure x) {pins : List (Addr × Obj)} {s : Shared} {σ : L2.St} {H : Hp} {G : Addr → Prop} {H0 : Hp} {env : Sl} {d : D} (I : Inv X pins σ H s) (k : EnvOk X.K G H0 env σ H) (ef : compO im m js fi t c fe env = .ok d)
    (hend : ∀ (a C : Addr) (s' : Shared) (H' : Hp) (mm : Str → Option Value) (r : Flow), s'.heap.Ns C mm → (∀ h', Heap.SameBut C s'.heap h' → Inv X pins σ H' { s' with heap := h' }) → FpOk X pins H' C → Same H H' → Rep X.K (Sf G env σ) H' (.ref a) d → NewTop H (.ref a) → compPost (model X.prog X.w) X.A X.xe use Q' (.ref a) C (.ok r) s') :
    wpAny (model X.prog X.w) X.A (comprehension (.ListComp elt [⟨tg, iter, ifs, 0⟩] scope pos) scope X.env (firstIterPos [⟨tg, iter, ifs, 0⟩] pos) (newList []) (firstAsync [⟨tg, iter, ifs, 0⟩]) (firstIter [⟨tg, iter, ifs, 0⟩] X.env) use) Q' X.xe s := by
 with_unfolding_all exact (by
  obtain ⟨ds, e1, ef⟩ := bind_inv ef
  obtain ⟨envF, e2, ef⟩ := bind_inv ef
  obtain ⟨accF, e3, e4⟩ := bind_inv ef
  obtain ⟨himF, e4⟩ := must_inv e4
  cases e4
  refine wpAny_comprehension_free (use := use) rfl hs S.clos S.kind S.names ?_
  refine thn (hi pins s σ H (fun J H1 => ∃ P, Same H H1 ∧ WalkD X.K (Sf G env σ) H1 J ds P ∧ P H1 ∧ ∀ env' σ' H', Frm env σ H1 env' σ' H' → P H') I ⟨G, H0, env, ds, k, e1, fun J H1 P a b c' d' => ⟨P, a, b, c', d'⟩⟩) fun v s1 h1 => thn h1 fun itv s2 h2 => ?_
  obtain ⟨it, fp, tn, J, H2, rfl, I2, T, st2, f2, P, sm, wk, p0, pst⟩ := h2
  have k2 := k.grow sm
  -- the accumulator, the frame
  refine wpAny_newObj_type (wpAny_newFunctionEnv S.nocell (by intro y hy; simp at hy) (fun h₁ hns₁ hsb₁ => ?_) S.kind)
  dsimp only at hns₁ hsb₁ ⊢
  have hfr : H2 s2.heap.objs.size = none := I2.hok.fresh (Nat.le_refl _)
  let a := s2.heap.objs.size
  have ha : H2 a = none := hfr
  have I3 : Inv X pins σ (upd H2 a (.lst [])) { s2 with heap := s2.heap.push { cls := .type "list", dict := none, data := .seq ([] : List Value).toArray } } := I2.lnew (t' := s2.toks) (its := []) .nil (Nat.zero_le _)
  let s3 : Shared := { s2 with heap := s2.heap.push { cls := .type "list", dict := none, data := .seq ([] : List Value).toArray } }
  let C := s3.heap.objs.size
  have f3 : ∀ b ∈ fp, FpOk X pins (upd H2 a (.lst [])) b := fun b hb' => by
    obtain ⟨z0, z⟩ := f2 b hb'
    refine ⟨?_, z⟩
    have hb2 : b ≠ a := by
      obtain ⟨o, ho, _⟩ := T.obj 0 _ st2 b hb'
      exact Nat.ne_of_lt (Heap.lt_size ho)
    rw [upd_ne hb2]; exact z0
  have hfp : ∀ b ∈ fp, b < s3.heap.objs.size := fun b hb' => by
    obtain ⟨o, ho, _⟩ := T.obj 0 _ st2 b hb'
    refine Nat.lt_of_lt_of_le (Heap.lt_size ho) ?_
    show s2.heap.objs.size ≤ (s2.heap.push { cls := .type "list", dict := none, data := .seq ([] : List Value).toArray }).objs.size
    rw [Heap.size_push]; exact Nat.le_succ _
  have XO := comp_ok (C := C) S hc I3 (Nat.le_refl _) f3 hfp
  obtain ⟨DGt, DTc, DEe⟩ := hb C s3 (upd H2 a (.lst [])) fp
  have old : ∀ b o, s3.heap.get? b = some o → h₁.get? b = some o := fun b o e => hsb₁.extBut b o (Nat.ne_of_lt (Heap.lt_size e)) (Heap.get?_push_of_some _ e)
  have I4 : Inv (cxComp X N scope cl C s3 (upd H2 a (.lst [])) fp) [] (compσ m js σ a) (upd H2 a (.lst [])) { s2 with heap := h₁, toks := s2.toks + ([] : List (Str × Value)).length } := by
    refine ⟨XO, rfl, I3.bare, Un.kept old, ⟨_, hns₁, fun i y v' h1 h2 h3 => ?_⟩, fun y c' h => ?_, I3.hok.fresh (Nat.le_refl _), fun y c' h => I3.freeC y c' (S.cls y c' h), fun p hp => absurd hp (by simp [cxComp]), I3.hok.kept old, ?_⟩
    · -- a captured name
      have hN1 : N[i]? = some y := h1
      unfold compσ at h2
      by_cases q1 : i < m
      · rw [List.append_assoc, List.getElem?_append_left (by simpa using q1), List.getElem?_replicate] at h2
        split at h2 <;> cases h2
      · rw [List.append_assoc, List.getElem?_append_right (by simpa using q1)] at h2
        simp only [List.length_replicate] at h2
        by_cases q2 : i - m < js.length
        · rw [List.getElem?_append_left (by simpa using q2), List.getElem?_map] at h2
          cases e : js[i - m]? with
          | none => rw [e] at h2; cases h2
          | some j =>
            rw [e] at h2
            have h2' : (σ[j]?).join = some v' := Option.some.inj h2
            have hj : σ[j]? = some (some v') := by
              cases z : σ[j]? with
              | none => rw [z] at h2'; cases h2'
              | some w' => rw [z] at h2'; simp at h2'; rw [h2']
            obtain ⟨y', g1, g2, g3, g4⟩ := S.cap (i - m) j e
            have ey : y' = y := by
              rw [show m + (i - m) = i by omega, hN1] at g1
              exact (Option.some.inj g1).symm
            subst ey
            obtain ⟨mm, hn, hl⟩ := I3.loc
            have vis : Vis X.env.scope y' := by
              rcases g3 with z | z
              · exact .inr (.inl z)
              · exact .inr (.inr z)
            obtain ⟨u, ru, lk⟩ := hl j y' v' g2 hj vis
            refine ⟨u, ru, .inr ⟨?_, ?_⟩⟩
            · rcases h3 with z | z
              · exfalso
                obtain ⟨k', m1, m2⟩ := relabel_mem (env := X.env) (names := scope.names) z
                have lk2 := S.names _ m1
                rcases m2 with w' | w'
                · subst w'
                  have := lk2 rfl
                  rw [g4] at this; cases this
                · subst w'
                  -- relabel gives cell or free, never local
                  have : ∀ {names : List (Str × NameKind)}, names.lookup y' = some .free → (names.map fun (n, k) => if (k == NameKind.free && X.env.scope.kind == .function && X.env.kindOf n == some .cell) then (n, NameKind.cell) else (n, k)).lookup y' ≠ some .local := by
                    intro names
                    induction names with
                    | nil => intro h; cases h
                    | cons p r ih =>
                      obtain ⟨n, kk⟩ := p
                      intro h h'
                      have h'' : List.lookup y' ((if (kk == NameKind.free && X.env.scope.kind == .function && X.env.kindOf n == some .cell) = true then (n, NameKind.cell) else (n, kk)) :: (r.map fun (n, k) => if (k == NameKind.free && X.env.scope.kind == .function && X.env.kindOf n == some .cell) then (n, NameKind.cell) else (n, k))) = some .local := h'
                      simp only [List.lookup_cons] at h
                      cases hx : y' == n with
                      | true =>
                        rw [hx] at h
                        cases h
                        split at h'' <;> simp [List.lookup_cons, hx] at h''
                      | false =>
                        rw [hx] at h
                        split at h'' <;> (simp only [List.lookup_cons, hx] at h''; exact ih h h'')
                  exact this g4 z
              · exact z
            · rcases lk with ⟨kk, _⟩ | ⟨kk, c', hc', cell'⟩
              · exfalso
                have kk' : X.env.scope.names.lookup y' = some .local := kk
                rcases g3 with z | z <;> (rw [z] at kk'; cases kk')
              · obtain ⟨c2, hc2⟩ := S.free (y', .free) (PySem.mem_of_lookup g4) rfl
                have : c2 = c' := by
                  have := S.cls _ _ hc2
                  rw [hc'] at this
                  exact (Option.some.inj this).symm
                subst this
                obtain ⟨o, ho, hd⟩ := cell'
                exact ⟨c2, hc2, o, old _ _ ho, hd⟩
        · exfalso
          have hi' : i = m + js.length := by
            have hl : i < N.length := (List.getElem?_eq_some_iff.mp hN1).1
            rw [S.len] at hl
            omega
          subst hi'
          have no := S.last y hN1
          rcases h3 with z | z | z <;>
          · obtain ⟨k', m1, _⟩ := relabel_mem (env := X.env) (names := scope.names) z
            exact no _ m1 rfl
    · obtain ⟨v', o, ho, hd⟩ := I3.cell y c' (S.cls y c' h)
      exact ⟨v', o, old _ _ ho, hd⟩
    · show (compσ m js σ a).length = N.length
      rw [S.len]; simp [compσ]; omega
  have kC : EnvOk X.K (Gc im G env σ) H2 (compE im m js env) (compσ m js σ a) (upd H2 a (.lst [])) := env_comp k2 ha
  have fC : ∀ b ∈ fp, FpOk (cxComp X N scope cl C s3 (upd H2 a (.lst [])) fp) [] (upd H2 a (.lst [])) b := fun b hb' => by
    obtain ⟨z0, z1, z2, z3, z4, z5⟩ := f3 b hb'
    exact ⟨z0, (XO.exf b hb').1, XO.exfs b hb', .inl hb', (XO.exf b hb').2, fun p hp => absurd hp (by simp [cxComp])⟩
  have stC : tn 0 h₁ := T.keep 0 _ _ st2 fun b hb' o e => old b o (Heap.get?_push_of_some _ e)
  -- the loop
  have loop : codeAny (model X.prog X.w) X.A (.compLoop (.ListComp elt [⟨tg, iter, ifs, 0⟩] scope pos) 0 (.ref it) (.ref a) (compEnvC scope cl C X.env))
      (compPost (model X.prog X.w) X.A X.xe use Q' (.ref a) C) { s2 with heap := h₁, toks := s2.toks + ([] : List (Str × Value)).length } := by
    refine compLoop_any (fun n s' => ∃ i σ' H' env', n = ds.length + 1 - i ∧ i ≤ ds.length ∧ Inv (cxComp X N scope cl C s3 (upd H2 a (.lst [])) fp) [] σ' H' s' ∧ tn i s'.heap ∧ (∀ b ∈ fp, H' b = none) ∧ (∀ b, Owned env' σ' b → b = a) ∧
        EnvOk X.K (Gc im G env σ) H2 env' σ' H' ∧ Frm (compE im m js env) (compσ m js σ a) (upd H2 a (.lst [])) env' σ' H' ∧ compD (m + js.length) t c fe (ds.drop i) env' = .ok envF) ?_ (ds.length + 1)
      ⟨0, _, _, _, rfl, Nat.zero_le _, I4, stC, fun b hb' => (fC b hb').1, ?_, kC, Frm.refl (Same.refl _), by simpa using e2⟩
    · rintro n s' ⟨i, σ', H', env', rfl, hi', Ic, st, fr, hs', kc, fc, ec⟩
      have hP : P H' := pst env σ H' (Frm.refl kc.base)
      obtain ⟨w1, w2, w3⟩ := wk i H' hP
      have fpk : ∀ {H' : Hp}, (∀ b ∈ fp, H' b = none) → ∀ b ∈ fp, FpOk (cxComp X N scope cl C s3 (upd H2 a (.lst [])) fp) [] H' b := fun hn b hb' => ⟨hn b hb', (fC b hb').2⟩
      by_cases hlt : i < ds.length
      · have hd : i < ds.length := by omega
        rw [List.drop_eq_getElem_cons hd] at ec
        obtain ⟨env1, e5, ec⟩ := bind_inv ec
        obtain ⟨b, e6, ec⟩ := bind_inv ec
        refine thn (T.item (cxComp X N scope cl C s3 (upd H2 a (.lst [])) fp) rfl rfl rfl rfl i [] s' σ' H' (fun _ _ => False) Ic (fpk fr) st (w1 hlt)) fun r s4 ⟨u, hr, h4⟩ => ?_
        subst hr
        refine thn h4 fun _ s5 ⟨x, H5, I5, r5, y5, st5, fr5⟩ => ?_
        have wkA : ∀ b, (Sf G env σ b ∧ H2 b ≠ none) → Sf (Gc im G env σ) env' σ' b := fun b z => ⟨fun o => (by
          rw [hs' b o] at z
          exact z.2 ha), z.1.2, fun _ => z.1.1⟩
        obtain ⟨sm5, rd'⟩ : Same H' H5 ∧ Rep X.K (Sf (Gc im G env σ) env' σ') H5 x ds[i] := by
          rcases w2 _ (List.getElem?_eq_getElem hd) x H5 y5 with ⟨rfl, rd⟩ | ⟨p, vs, es, hp, rfl, rfl, ed, rds⟩
          · exact ⟨Same.refl _, (rd.inDom.grow kc.base).weak wkA⟩
          · refine ⟨Same.upd hp, ?_⟩
            rw [ed]
            exact .tup upd_same (((rds.inDom.grow kc.base).weak wkA).grow (Same.upd hp))
        have kc5 := kc.grow sm5
        have I5' := I5.pinned (fpk fr5) (T.obj _ _ st5)
        refine thn (DGt _ s5 σ' H5 x u (fun σ1 Hn => Hn = H5 ∧ EnvOk X.K (Gc im G env σ) H2 env1 σ1 H5 ∧ Frm env' σ' H5 env1 σ1 H5) I5' r5 ⟨_, H2, env', ds[i], env1, kc5, rd', e5, fun σ1 k1 f1 => ⟨rfl, k1, f1⟩⟩) fun _ s6 ⟨σ6, H6, I6, z6, k6, ff6⟩ => ?_
        subst z6
        have ow6 : ∀ b, Owned env1 σ6 b → b = a := fun b o => by
          rcases ff6.more b o with z | z
          · exact hs' b z
          · obtain ⟨uu, hu⟩ := k6.there o
            rw [z] at hu; cases hu
        refine thn (DTc _ s6 σ6 H6 (fun b' Hn => b' = b ∧ Same H6 Hn) I6 ⟨_, H2, env1, b, k6, e6, fun Hn sn => ⟨rfl, sn⟩⟩) fun ok s7 ⟨H7, I7, z7, sm7⟩ => ?_
        subst z7
        have k7 := k6.grow sm7
        have fr7 := ((fc.trans (Frm.refl sm5)).trans ff6).trans (Frm.refl sm7)
        have out : ∀ {s8 : Shared} {σ8 : L2.St} {H8 : Hp} {env8 : Sl}, Inv (cxComp X N scope cl C s3 (upd H2 a (.lst [])) fp) ([] ++ pinsAt fp s5.heap) σ8 H8 s8 → (∀ b, Owned env8 σ8 b → b = a) → EnvOk X.K (Gc im G env σ) H2 env8 σ8 H8 →
            Frm (compE im m js env) (compσ m js σ a) (upd H2 a (.lst [])) env8 σ8 H8 → compD (m + js.length) t c fe (ds.drop (i + 1)) env8 = .ok envF →
            ∃ mm, mm < ds.length + 1 - i ∧ ∃ i σ' H' env', mm = ds.length + 1 - i ∧ i ≤ ds.length ∧ Inv (cxComp X N scope cl C s3 (upd H2 a (.lst [])) fp) [] σ' H' s8 ∧ tn i s8.heap ∧ (∀ b ∈ fp, H' b = none) ∧ (∀ b, Owned env' σ' b → b = a) ∧
              EnvOk X.K (Gc im G env σ) H2 env' σ' H' ∧ Frm (compE im m js env) (compσ m js σ a) (upd H2 a (.lst [])) env' σ' H' ∧ compD (m + js.length) t c fe (ds.drop i) env' = .ok envF := by
          intro s8 σ8 H8 env8 I8 ow8 k8 f8 e8
          refine ⟨ds.length + 1 - (i + 1), by omega, i + 1, σ8, H8, env8, rfl, hlt, I8.unpinned, T.keep _ _ _ st5 fun b hb' o e => (I8.pin (b, o) (List.mem_append_right _ (List.mem_append_right _ (mem_pinsAt hb' e)))).1, fun b hb' => ?_, ow8, k8, f8, e8⟩
          obtain ⟨o, e, _⟩ := T.obj _ _ st5 b hb'
          exact (I8.pin (b, o) (List.mem_append_right _ (List.mem_append_right _ (mem_pinsAt hb' e)))).2.1
        cases ok with
        | false =>
          rw [if_neg Bool.false_ne_true] at ec ⊢
          exact out I7 ow6 k7 fr7 ec
        | true =>
          rw [if_pos rfl] at ec ⊢
          obtain ⟨vd, e7, ec⟩ := bind_inv ec
          obtain ⟨acc, e8, ec⟩ := bind_inv ec
          obtain ⟨hz, ec⟩ := must_inv ec
          refine thn (DEe _ s7 σ6 H7 (fun y Hn => Same H7 Hn ∧ Rep X.K (Sf (Gc im G env σ) env1 σ6) Hn y vd) I7 ⟨_, H2, env1, vd, k7, e7, fun y Hn sn rn _ => ⟨sn, rn⟩⟩) fun yv s8 ⟨y, H8, I8, ry, sm8, rep8⟩ => ?_
          have k8 := k7.grow sm8
          have hi8 := ownL_inv e8
          obtain ⟨a8, xs8, ha8, hx8, rs8⟩ := own_list k8 hi8
          have ea : a8 = a := ow6 a8 ⟨_, _, hi8, ha8⟩
          subst ea
          have W := k8.write hi8 ha8 hx8 (xs' := xs8 ++ [y]) (ds' := acc ++ [vd]) (rs8.append (.cons rep8 .nil))
          refine thn (mt_append (X := cxComp X N scope cl C s3 (upd H2 a (.lst [])) fp) _ s8 σ6 H8 (.ref a) [y] (.ref a) [yv] (fun _ Hn => Hn = upd H8 a (.lst (xs8 ++ [y]))) I8 rfl (.cons ry .nil)
            ⟨a, xs8, y, rfl, rfl, hx8, by rw [rs8.length]; exact hz, rfl⟩) fun _ s9 ⟨_, H9, I9, _, z9⟩ => ?_
          subst z9
          exact out I9 (fun b o => ow6 b ((owned_same hi8).mp o)) W.1 ((fr7.trans (Frm.refl sm8)).trans W.2) ec
      · have he : i = ds.length := by omega
        rw [List.drop_eq_nil_of_le (by omega)] at ec
        cases ec
        refine thn (T.done (cxComp X N scope cl C s3 (upd H2 a (.lst [])) fp) rfl rfl rfl rfl i [] s' σ' H' (fun _ _ => False) Ic (fpk fr) st (w3 (by omega))) fun r s4 ⟨hr, I5⟩ => ?_
        subst hr
        have hiF := ownL_inv e3
        obtain ⟨aF, xsF, haF, hxF, rsF⟩ := own_list kc hiF
        have ea : aF = a := hs' aF ⟨_, _, hiF, haF⟩
        subst ea
        obtain ⟨mm, hn, _⟩ := I5.loc
        refine hend a C s4 H' mm _ hn (fun h' hsb => ?_) (I3.fpOk (Nat.le_refl _) I5.free) (sm.trans kc.base) (.lst hxF (k.new a (Same.free sm ha)) ?_) (new_top sm ha)
        rotate_left
        · cases him : im with
          | true => exact rsF.imm (himF him)
          | false => exact rsF.weak fun c z => ⟨⟨z.2.2 him, z.2.1⟩, own_ne kc hiF haF c z⟩
        have nC : ∀ b o, H' b = some o → b ≠ C := fun b o e z => by
          have := I5.free
          rw [z] at e
          have e' : H' C = none := this
          rw [e] at e'; cases e'
        have B := I5.base
        have ltC : ∀ b o, s3.heap.get? b = some o → b ≠ C := fun b o e => Nat.ne_of_lt (Heap.lt_size e)
        have U : Un (frs X.stack) fp (upd H2 a (.lst [])) H' s3.heap h' := ⟨fun b o e n hb' hx' => (hsb.2 b (ltC b o e)).trans (B.keep b o e n hb' hx'),
          fun b o e n hb' hx' => let ⟨sl, z⟩ := B.slot b o e n hb' hx'; ⟨sl, (hsb.2 b (ltC b o e)).trans z⟩, B.free,
          fun b o e hx' => let ⟨o', z⟩ := B.there b o e hx'; ⟨o', (hsb.2 b (ltC b o e)).trans z⟩, B.tups, B.frzs, B.tbls⟩
        refine Inv.call' (ch := fp) I3 I5.os U (fun b o e => (I5.hok b o e).stay (fun c' u hc' qq => (hsb.2 c' ?_).trans qq) (fun _ z => z) fun _ _ z => z) I5.bare (fun b hb' => ?_)
        · rcases hc' with z | z
          · rw [z]; exact nC b o e
          · exact nC c' _ z
        · obtain ⟨z0, z1, z2, z3, z4, z5⟩ := f3 b hb'
          exact ⟨z3, z1, z4, z5⟩
    · exact fun b o => comp_owned o
  exact codeAny_compStart_list loop (T.self _ 0 _ _ _ stC loop))

theorem de_comp (im : Bool) (N : List Str) (m : Nat) (js : List Nat) (S : CompSc X scope cl N m js) (hc : X.calm = true) (hi : DI X tg iter fi)
    (hb : ∀ (C : Addr) (s : Shared) (H : Hp) (fp : List Addr), DG (cxComp X N scope cl C s H fp) tg t ∧ DTs (cxComp X N scope cl C s H fp) ifs c ∧ DE (cxComp X N scope cl C s H fp) .s elt fe)
    (hs : ∀ x, foldedSetIterable iter X.env x = pure x := by intro _; rfl) :
    DE X .t (.ListComp elt [⟨tg, iter, ifs, 0⟩] scope pos) (compO im m js fi t c fe) := by
 with_unfolding_all exact (by
  intro pins s σ H Q I ⟨G, H0, env, d, k, ef, q⟩
  rw [eval_ListComp]
  exact comp_core none (EP X pins σ Q) im N m js S hc hi hb hs I k ef fun a C s' H' mm r hn hinv hfp sm rep nt => ⟨mm, hn, fun h' hsb => ⟨.ref a, H', hinv h' hsb, rfl, q _ H' sm rep nt⟩⟩)
end
end M

set_option Elab.async false
set_option linter.all false
set_option maxRecDepth 100000
set_option maxHeartbeats 4000000
namespace M
open PySem PySem.Spec L2
open PyProof.Rows hiding St

/-! ### a def -/
def startE (n : Nat) (ds : List D) : Sl := ds.map .shr ++ List.replicate (n - ds.length) .un
theorem env_start {K : PySem.W.Frag} {B : Addr → Prop} {N : List Str} {vs : List V} {ds : List D} {H : Hp} (r : Reps K B H vs ds) : EnvOk K (fun a => H a = none ∨ B a) H (startE N.length ds) (start N vs) H := by
  have hl := r.length
  have no : ∀ (i : Nat) (d : D), (startE N.length ds)[i]? ≠ some (.own d) := fun i d h => by
    unfold startE at h
    by_cases q : i < ds.length
    · rw [List.getElem?_append_left (by simpa using q), List.getElem?_map] at h
      cases e : ds[i]? with
      | none => rw [e] at h; cases h
      | some x => rw [e] at h; cases h
    · rw [List.getElem?_append_right (by simpa using q), List.getElem?_replicate] at h
      split at h <;> cases h
  refine ⟨by simp [L2.start, startE, hl], Same.refl H, fun _ z => .inl z, fun i d h => ?_, fun i d h => (no i d h).elim, fun i j d e a h => (no i d h).elim⟩
  unfold startE at h
  by_cases q : i < ds.length
  · rw [List.getElem?_append_left (by simpa using q), List.getElem?_map] at h
    cases e : ds[i]? with
    | none => rw [e] at h; cases h
    | some x =>
      rw [e] at h
      cases h
      obtain ⟨v, h1, h2⟩ := r.get e
      refine ⟨v, ?_, h2.weak fun a z => ⟨fun o => ?_, .inr z⟩⟩
      · unfold L2.start
        rw [List.getElem?_append_left (by simp; omega), List.getElem?_map, h1]
        rfl
      · obtain ⟨i', d', z, _⟩ := o
        exact no i' d' z
  · rw [List.getElem?_append_right (by simpa using q), List.getElem?_replicate] at h
    split at h <;> cases h
section
variable {P : Program} {w : World} {K : PySem.W.Frag} {mg : Str → Option Value} {base : Heap}
/-- a body comes to what F tells -/
def Meets (fr : Bool) (n : Nat) (g : Sl → Res Out) (ds : List D) (d : D) : Prop := (∃ fr', g (startE n ds) = .ok (.rt fr' d) ∧ (fr = true → fr' = true)) ∨ (d = .non ∧ ∃ env', g (startE n ds) = .ok (.nx env'))
theorem fn_ok {x qual : Str} {st : Stmt} {f : Addr} {fd : FuncData} {N ps : List Str} {k : Nat} {fr : Bool} {F : List D → Res D} {g : Sl → Res Out} (Fu : Fun K x qual st f fd) (S : FnScope N ps (defScope st))
    (hb : ∀ (cdv : Value) (A : Around) (outer : List Env) (s : Shared) (H : Hp) (E : XK), Room k (A.deeper (envOfC qual (defScope st) s.heap.objs.size f cdv)) → DSs (cxOf CX0 P w K mg base N qual (defScope st) f cdv A outer s H E).nox (defBody st) g)
    (hF : ∀ ds d, ds.length = ps.length → F ds = .ok d → Meets fr N.length g ds d) :
    FnOk P w K mg base CX0 (k + 1) f fd ps (spF K fr ps.length F) := by
 with_unfolding_all exact (by
  refine Fu.ok S (fun vs H Q E ⟨B, ds, d, hl, _⟩ => hl) (fun cdv A outer s H vs Q E hr h => ?_)
  obtain ⟨B, ds, d, hl, r, e, q⟩ := h
  refine ⟨_, hb cdv A outer s H E hr, ?_⟩
  have kk := env_start (N := N) r
  rcases hF ds d (by rw [← r.length]; exact hl) e with ⟨fr', z, hf⟩ | ⟨rfl, env', z⟩
  · exact ⟨_, H, _, _, kk, z, fun v H' s r nt => q v H' s r fun hh => nt (hf hh)⟩
  · exact ⟨_, H, _, _, kk, z, fun σ' H' k' f' => q .non H' k'.base .non fun _ a e => by cases e⟩)
end

/-! ### the law -/
open PySem.W in
theorem bits_of {ns : List Int} (h : WData.layableAll [WData.list (ns.map WData.int)] = true) : ∀ n ∈ ns, Builtin.Int.intBits n ≤ 2 ^ 20 := fun n hn => by
  have h1 := layableW_arg h _ List.mem_cons_self
  have h2 := layableW_item h1 (.int n) (List.mem_map.mpr ⟨n, hn, rfl⟩)
  have h3 := (layableW_iff.mp h2).2.2
  simpa only [WData.weight, Builtin.Int.intBits] using h3
open PySem.W PySem.Calls Att in
theorem attach_bits {l : OpenLaw} {n : Nat} {q : Program} {loose : List Str} {XP : (Str → Option Value) → Heap → Prop} {YP : World → Heap → Prop} {d : DefRec}
    (hn : l.most = some n) (hdf : d.params.defaults = [])
    (call : ∀ (w : World) (s₀ s₁ : Shared) (mg mb : Str → Option Value) (fa : Addr) (o : Obj) (pm cd doc : Value) (a : Addr) (vs : List Value) (ns : List Int),
      Ground q loose [] XP w s₀ mg mb s₁.heap → YP w s₁.heap →
      s₁.heap.get? fa = some o → o.data = .func (docDef d.name d.params d.body d.scope pm cd doc) → s₁.heap.CodeRec cd d.name → mg d.name = some (.ref fa) →
      s₁.heap.get? a = some { cls := .type "list", data := .seq vs.toArray } → IntsAre vs ns → ns.length ≤ n → (∀ n ∈ ns, Builtin.Int.intBits n ≤ 2 ^ 20) → s₁.gens = #[] →
      codeAny (model l.prog w) callerA (.call (.ref fa) ⟨[.ref a], []⟩) (fun r s' => r = .ok (.ret (.bool true)) ∧ OldK s₁.heap s'.heap ∧ s'.os = s₁.os ∧ AllBare s'.gens) s₁) :
    WalkO q loose XP YP l.row.toRowW d [] (fun f vs => PySem.call f vs) := by
  intro w s₀ s₁ mg mb G Y fa o pm cd doc dV kV ho hd hcd hD hmg hg args vals as hpre hlay hrd hwl hlo
  obtain rfl : dV = .none := Dflts.none hD hdf
  obtain rfl : kV = .none := Dflts.noKw hD
  obtain ⟨a, vs, ns, rfl, rfl, hobj, hints, hlen⟩ := script_of hn hpre hwl
  refine enter_call (codeAny_mono (call w s₀ s₁ mg mb fa o pm cd doc a vs ns G Y ho (fd_plain hd) hcd hmg hobj hints hlen (bits_of hlay) hg) fun r s' hq => ?_)
  obtain ⟨rfl, h2, h3, h4⟩ := hq
  exact ⟨.inl ⟨.bool true, .bool true, [], rfl, fun _ => rfl, .bool true, post_true l _, fun _ => ⟨List.Pairwise.nil, fun _ hm => (nomatch hm)⟩⟩, h2, h3, h4⟩
theorem only_lsk {K : PySem.W.Frag} {H : Hp} {a : Addr} {xs : List V} (hO : Only H) (h : SqL K H a xs) : LsK K H a xs := by
  rcases h with (h | h) | h
  · rcases hO a with z | ⟨o, ys, z⟩
    · rw [z] at h; cases h
    · rw [z] at h; cases h
  · exact .inl h
  · exact .inr h
theorem ints_rep {K : PySem.W.Frag} {A : Addr → Prop} {H : Hp} : ∀ ns : List Int, Reps K A H (ns.map V.int) (ns.map D.int)
  | [] => .nil
  | n :: r => .cons (.int n) (ints_rep r)
/-- the goal that k_head leaves: from the law's function of data -/
theorem walk_law {l : PySem.W.OpenLaw} {n k : Nat} {q : Program} {loose : List Str} {XP : (Str → Option Value) → Heap → Prop} {YP : World → Heap → Prop} {d : DefRec} {K : Params → PySem.W.Frag} {F : List D → Res D} {x : Str}
    (hn : l.most = some n) (hn2 : n ≤ sizeLine) (hdf : d.params.defaults = []) (hr : Room k callerA)
    (hY : ∀ (w : World) (h : Heap), YP w h → (K w.params).In h)
    (hF : ∀ (w : World) (mg : Str → Option Value) (fa : Addr) (h : Heap), (K w.params).In h → h.Ns mainGlobals mg → mg d.name = some (.ref fa) →
      ∃ fd : FuncData, (∀ (s : Shared) (u : Value), BindsTo s fd ⟨[u], []⟩ [(x, u)]) ∧
        ∀ base : Heap, (K w.params).In base → base.Ns mainGlobals mg → FnOk l.prog w (K w.params) mg base CX0 k fa fd [x] (spF (K w.params) true 1 F))
    (ht : ∀ ns : List Int, ns.length ≤ n → (∀ i ∈ ns, Builtin.Int.intBits i ≤ 2 ^ 20) → F [.scr (ns.map D.int)] = .ok (.bl true)) :
    PySem.W.WalkO q loose XP YP l.row.toRowW d [] (fun f vs => PySem.call f vs) := by
  refine attach_bits hn hdf fun w s₀ s₁ mg mb fa o pm cd doc a vs ns G Y ho hd hcd hmg hobj hints hlen hbits hg => ?_
  have KX := hY w _ Y
  obtain ⟨fd, hb, hFn⟩ := hF w mg fa _ KX G.T.g hmg
  refine law_call KX G.T.g G.T.b G.T.builtins G.T.nolimit hg hobj hints (Nat.le_trans hlen hn2) hr hFn hb (fun H hO hS => ?_) fun H e s' h => h
  exact ⟨Any, _, _, rfl, .cons (.lsk (only_lsk hO hS) (ints_rep ns)) .nil, ht ns hlen hbits, fun v H' _ r _ => r.blE⟩
end M

set_option Elab.async false
set_option linter.all false
set_option maxRecDepth 100000
set_option maxHeartbeats 4000000
namespace M
open PySem PySem.Spec L2
open PyProof.Rows hiding St

section
variable {X : Cx} {K : PySem.W.Frag}
/-! ### ints -/
def iOp (C : Int → Int → Prop) [∀ i j, Decidable (C i j)] (g : Int → Int → D) : D → D → Res D
  | .int i, .int j => must (C i j) (.ok (g i j))
  | _, _ => .stuck
theorem iOp_inv {C : Int → Int → Prop} [∀ i j, Decidable (C i j)] {g : Int → Int → D} {a b d : D} (h : iOp C g a b = .ok d) : ∃ i j, a = .int i ∧ b = .int j ∧ C i j ∧ d = g i j := by
  unfold iOp at h
  split at h
  · obtain ⟨h1, h2⟩ := must_inv h
    cases h2
    exact ⟨_, _, rfl, rfl, h1, rfl⟩
  · cases h
theorem od_I {C C' : Int → Int → Prop} [∀ i j, Decidable (C i j)] {h : Int → Int → V} {g : Int → Int → D} (w : ∀ i j, C i j → C' i j) (r : ∀ i j, Sc K (h i j) (g i j)) : OpS K (rI C' h) (iOp C g) := by
  intro x y H a b d Q ra rb e q
  obtain ⟨i, j, rfl, rfl, hc, rfl⟩ := iOp_inv e
  exact ⟨i, j, ra.intE, rb.intE, w i j hc, q _ (r i j)⟩
abbrev TrueC : Int → Int → Prop := fun _ _ => True
instance : ∀ i j, Decidable (TrueC i j) := fun _ _ => inferInstanceAs (Decidable True)
theorem od_I0 {h : Int → Int → V} {g : Int → Int → D} (r : ∀ i j, Sc K (h i j) (g i j)) : OpS K (rI0 h) (iOp TrueC g) := by
  intro x y H a b d Q ra rb e q
  obtain ⟨i, j, rfl, rfl, hc, rfl⟩ := iOp_inv e
  exact ⟨i, j, ra.intE, rb.intE, q _ (r i j)⟩
theorem sc_top {v : V} {d : D} {H : Hp} (h : Sc K v d) : NewTop H v := fun a e => absurd e (h.2 a)

def addD : D → D → Res D
  | .int i, .int j => .ok (.int (i + j))
  | .str i, .str j => must (i.length + j.length ≤ sizeLine) (.ok (.str (i ++ j)))
  | .lst a, .lst b => must (a.length + b.length ≤ sizeLine) (.ok (.lst (a ++ b)))
  | .tup a, .tup b => must (a.isEmpty = false ∧ a.length + b.length ≤ sizeLine) (.ok (.tup (a ++ b)))
  | _, _ => .stuck
theorem op_addD : OpR X (binaryOp .Add) (fun x y H Q => rI0 (fun i j => .int (i + j)) x y H Q ∨ (∃ i j, x = .str i ∧ y = .str j ∧ i.length + j.length ≤ sizeLine ∧ Q (.str (i ++ j)) H) ∨ rCat x y H Q ∨ rCatT X.K x y H Q) :=
  op_add.or (op_add_str.or (op_cat.or op_catT))
theorem Reps.len_app {A : Addr → Prop} {H : Hp} {xs ys : List V} {a b : List D} (r : Reps K A H xs a) (s : Reps K A H ys b) (h : a.length + b.length ≤ sizeLine) : xs.length + ys.length ≤ sizeLine := by rw [r.length, s.length]; exact h
theorem orA {A : Addr → Prop} {H : Hp} : ∀ c, A c → (H c = none ∨ A c) := fun _ z => .inr z
theorem od_add : OpD K (fun x y H Q => rI0 (fun i j => .int (i + j)) x y H Q ∨ (∃ i j, x = .str i ∧ y = .str j ∧ i.length + j.length ≤ sizeLine ∧ Q (.str (i ++ j)) H) ∨ rCat x y H Q ∨ rCatT K x y H Q) addD := by
  intro A x y H a b d Q ra rb e q
  unfold addD at e
  split at e
  · cases e
    exact .inl ⟨_, _, ra.intE, rb.intE, q _ H (Same.refl H) (.int _) (sc_top (sc_int (K := K) _))⟩
  · obtain ⟨h1, h2⟩ := must_inv e
    cases h2
    have hl : ∀ i j : Str, i.length + j.length ≤ sizeLine → (i ++ j).length ≤ sizeLine := fun i j h => by rw [strLen_append]; exact h
    exact .inr (.inl ⟨_, _, ra.strE.1, rb.strE.1, h1, q _ H (Same.refl H) (.str _ (hl _ _ h1)) (sc_top (sc_str (K := K) _ (hl _ _ h1)))⟩)
  · obtain ⟨h3, h4⟩ := must_inv e
    cases h4
    obtain ⟨l, xs, rfl, hl, _, rx⟩ := ra.lstE
    obtain ⟨l', ys, rfl, hl', _, ry⟩ := rb.lstE
    refine .inr (.inr (.inl ⟨l, l', xs, ys, rfl, rfl, hl, hl', rx.low.len_app ry.low h3, fun p hp => q _ _ (Same.upd hp) ?_ (new_top (Same.refl H) hp)⟩))
    exact .lst upd_same (.inl hp) (((rx.low.append ry.low).laid hp).weak fun c z => ⟨.inr z.1, z.2⟩)
  · obtain ⟨⟨h3, h4⟩, h5⟩ := must_inv e
    cases h5
    obtain ⟨l, xs, rfl, hl, rx⟩ := ra.tupE
    obtain ⟨l', ys, rfl, hl', ry⟩ := rb.tupE
    refine .inr (.inr (.inr ⟨l, l', xs, ys, rfl, rfl, .of hl, .of hl', fun z => ?_, rx.len_app ry h4, fun z => ?_, fun z p hp => q _ _ (Same.upd hp) ?_ (new_top (Same.refl H) hp)⟩))
    · subst z; cases rx; cases h3
    · subst z
      cases ry
      rw [List.append_nil] at q
      refine q _ H (Same.refl H) (.tup hl (rx.weak orA)) fun a e o q' m => ?_
      cases e; rw [hl] at q'; cases q'; exact m
    · exact .tup upd_same (((rx.append ry).weak orA).grow (Same.upd hp))
  · cases e
theorem od_sub : OpS K (rI0 fun i j => .int (i - j)) (iOp TrueC fun i j => .int (i - j)) := od_I0 fun i j => sc_int _
abbrev MulC : Int → Int → Prop := fun i j => Builtin.Int.intBits i + Builtin.Int.intBits j ≤ 134217728
theorem op_mulB : OpR X (binaryOp .Mult) (rI MulC fun i j => .int (i * j)) := opI fun _ _ _ _ _ _ _ hc q => mul_int q (IntMulOk.of_le (Nat.le_refl _) (Nat.le_refl _) hc)
theorem od_mul : OpS K (rI MulC fun i j => .int (i * j)) (iOp MulC fun i j => .int (i * j)) := od_I (fun _ _ h => h) fun i j => sc_int _
abbrev DivC : Int → Int → Prop := fun _ j => 0 < j ∧ j < 1073741824
theorem od_fdiv : OpS K (rI CDiv fun i j => .int (i / j)) (iOp DivC fun i j => .int (i / j)) := od_I (fun _ _ h => h) fun i j => sc_int _
abbrev PosC : Int → Int → Prop := fun _ j => 0 < j
theorem od_mod : OpS K (rI (fun _ j => 0 < j) fun i j => .int (i % j)) (iOp PosC fun i j => .int (i % j)) := od_I (fun _ _ h => h) fun i j => sc_int _
abbrev PowC : Int → Int → Prop := fun i j => 0 ≤ j ∧ j ≤ 1000000 ∧ i.natAbs < 2 ^ 64
theorem od_pow : OpS K (rI CPow fun i j => .int (i ^ j.toNat)) (iOp PowC fun i j => .int (i ^ j.toNat)) := od_I (fun _ _ h => h) fun i j => sc_int _
theorem od_lt : OpS K (rI0 fun i j => .bl (decide (i < j))) (iOp TrueC fun i j => .bl (decide (i < j))) := od_I0 fun i j => sc_bl _
theorem od_le : OpS K (rI0 fun i j => .bl (decide (i ≤ j))) (iOp TrueC fun i j => .bl (decide (i ≤ j))) := od_I0 fun i j => sc_bl _
theorem od_gt : OpS K (rI0 fun i j => .bl (decide (j < i))) (iOp TrueC fun i j => .bl (decide (j < i))) := od_I0 fun i j => sc_bl _
/-! ### in, of texts -/
def inS (i j : Str) : Bool := !(Builtin.Str.occurrences j i 0 j.length 1).isEmpty
def inD : D → D → Res D
  | .str i, .str j => .ok (.bl (inS i j))
  | _, _ => .stuck
def ninD : D → D → Res D
  | .str i, .str j => .ok (.bl (!inS i j))
  | _, _ => .stuck
/-! ### is None -/
def D.isNon : D → Bool
  | .non => true
  | _ => false
def isN : D → D → Res D
  | a, .non => .ok (.bl a.isNon)
  | _, _ => .stuck
/-! ### len, tuple, list, min, max -/
def lenD : List D → Res D
  | [.lst ds] => .ok (.int ds.length)
  | [.scr ds] => .ok (.int ds.length)
  | [.tup ds] => .ok (.int ds.length)
  | [.str z] => .ok (.int z.length)
  | _ => .stuck
theorem call_lenA : CallR X (.builtin "len") (fun xs H Q => (∃ p ys, xs = [.ref p] ∧ (SqL X.K H p ys ∨ SqT X.K H p ys) ∧ Q (.int ys.length) H) ∨ (∃ z, xs = [.str z] ∧ z.length ≤ sizeLine ∧ Q (.int z.length) H)) := call_len_seq.or call_len_str
theorem cd_len : CallS K (fun xs H Q => (∃ p ys, xs = [.ref p] ∧ (SqL K H p ys ∨ SqT K H p ys) ∧ Q (.int ys.length) H) ∨ (∃ z, xs = [.str z] ∧ z.length ≤ sizeLine ∧ Q (.int z.length) H)) lenD := by
  intro xs H ds d Q r e q
  unfold lenD at e
  split at e
  · cases e
    obtain ⟨v, rfl, r1⟩ := r.one
    obtain ⟨p, ys, rfl, hp, _, ry⟩ := r1.lstE
    exact .inl ⟨p, ys, rfl, .inl (.of hp), by rw [ry.length]; exact q _ (sc_int _)⟩
  · cases e
    obtain ⟨v, rfl, r1⟩ := r.one
    obtain ⟨p, ys, rfl, hp, ry⟩ := r1.scrE
    exact .inl ⟨p, ys, rfl, .inl hp.sql, by rw [ry.length]; exact q _ (sc_int _)⟩
  · cases e
    obtain ⟨v, rfl, r1⟩ := r.one
    obtain ⟨p, ys, rfl, hp, ry⟩ := r1.tupE
    exact .inl ⟨p, ys, rfl, .inr (.of hp), by rw [ry.length]; exact q _ (sc_int _)⟩
  · cases e
    obtain ⟨v, rfl, r1⟩ := r.one
    obtain ⟨rfl, hz⟩ := r1.strE
    exact .inr ⟨_, rfl, hz, q _ (sc_int _)⟩
  · cases e
def tupleD : List D → Res D
  | [.lst ds] => (.ok (.tup ds))
  | [.tup ds] => (.ok (.tup ds))
  | _ => .stuck
theorem tup_top {H : Hp} {p : Addr} {xs : List V} (h : H p = some (.tup xs)) : NewTop H (.ref p) := fun a e o q m => by
  cases e; rw [h] at q; cases q; exact m
theorem cd_tuple : CallD K (fun xs H Q => ∃ p ys, xs = [.ref p] ∧ ((SqL K H p ys ∧ ∀ l, H l = none → Q (.ref l) (upd H l (.tup ys))) ∨ (SqT K H p ys ∧ Q (.ref p) H))) tupleD := by
  intro A xs H ds d Q r e q
  unfold tupleD at e
  split at e
  · cases e
    obtain ⟨v, rfl, r1⟩ := r.one
    obtain ⟨p, ys, rfl, hp, _, ry⟩ := r1.lstE
    exact ⟨p, ys, rfl, .inl ⟨.of hp, fun l hl => q _ _ (Same.upd hl) (.tup upd_same ((ry.low.weak orA).grow (Same.upd hl))) (new_top (Same.refl H) hl)⟩⟩
  · cases e
    obtain ⟨v, rfl, r1⟩ := r.one
    obtain ⟨p, ys, rfl, hp, ry⟩ := r1.tupE
    exact ⟨p, ys, rfl, .inr ⟨.of hp, q _ H (Same.refl H) (.tup hp (ry.weak orA)) (tup_top hp)⟩⟩
  · cases e
def listD : List D → Res D
  | [.lst ds] => (.ok (.lst ds))
  | [.tup ds] => (.ok (.lst ds))
  | _ => .stuck
theorem cd_list : CallD K (fun xs H Q => ∃ p ys, xs = [.ref p] ∧ (SqL K H p ys ∨ SqT K H p ys) ∧ ∀ l, H l = none → Q (.ref l) (upd H l (.lst ys))) listD := by
  intro A xs H ds d Q r e q
  unfold listD at e
  split at e
  · cases e
    obtain ⟨v, rfl, r1⟩ := r.one
    obtain ⟨p, ys, rfl, hp, _, ry⟩ := r1.lstE
    exact ⟨p, ys, rfl, .inl (.of hp), fun l hl => q _ _ (Same.upd hl) (.lst upd_same (.inl hl) ((ry.low.laid hl).weak fun c z => ⟨.inr z.1, z.2⟩)) (new_top (Same.refl H) hl)⟩
  · cases e
    obtain ⟨v, rfl, r1⟩ := r.one
    obtain ⟨p, ys, rfl, hp, ry⟩ := r1.tupE
    exact ⟨p, ys, rfl, .inr (.of hp), fun l hl => q _ _ (Same.upd hl) (.lst upd_same (.inl hl) ((ry.laid hl).weak fun c z => ⟨.inr z.1, z.2⟩)) (new_top (Same.refl H) hl)⟩
  · cases e
def minD : List D → Res D
  | [.int i, .int j] => .ok (.int (if j < i then j else i))
  | _ => .stuck
def maxD : List D → Res D
  | [.int i, .int j] => .ok (.int (if j > i then j else i))
  | _ => .stuck
/-! ### isinstance -/
def tyN : D → Option String
  | .non => some "NoneType"
  | .bl _ => some "bool"
  | .int _ => some "int"
  | .str _ => some "str"
  | .tup _ => some "tuple"
  | .lst _ => some "list"
  | .scr _ => none
  | .dic _ _ => some "dict"
  | .dit _ _ => some "dict"
  | .exn _ => none
theorem ty_of {A : Addr → Prop} {H : Hp} {v : V} {d : D} {n : String} (r : Rep K A H v d) (h : tyN d = some n) : TyOf K H v (.type n) := by
  cases r with
  | non => cases h; exact .non
  | bl b => cases h; exact .bl b
  | int i => cases h; exact .int i
  | str x _ => cases h; exact .str x
  | tup e _ => cases h; exact .tup e
  | lst e _ _ => cases h; exact .lst e
  | lsk _ _ => cases h
  | dic e _ _ _ _ => cases h; exact .dK e
  | dit e _ _ _ _ => cases h; exact .dT e
  | exn _ _ _ => cases h
/-- of a class's name: which kinds of ours are of it -/
def isTy (T n : String) : Bool := n == T || (T == "int" && n == "bool")
def IsTy (T : String) : Prop := ∀ (K : PySem.W.Frag) (n : String), n ∈ ["NoneType", "bool", "int", "str", "tuple", "list", "dict"] → PySem.W.kitOne K (.type n) (.type T) = some (isTy T n)
theorem ty_mem {d : D} {n : String} (h : tyN d = some n) : n ∈ ["NoneType", "bool", "int", "str", "tuple", "list", "dict"] := by
  cases d <;> first | (cases h; done) | (cases h; decide)
theorem isTy_of {T : String} (h : ∀ (K : PySem.W.Frag), PySem.W.kitOne K (.type "NoneType") (.type T) = some (isTy T "NoneType") ∧ PySem.W.kitOne K (.type "bool") (.type T) = some (isTy T "bool") ∧ PySem.W.kitOne K (.type "int") (.type T) = some (isTy T "int") ∧
    PySem.W.kitOne K (.type "str") (.type T) = some (isTy T "str") ∧ PySem.W.kitOne K (.type "tuple") (.type T) = some (isTy T "tuple") ∧ PySem.W.kitOne K (.type "list") (.type T) = some (isTy T "list") ∧ PySem.W.kitOne K (.type "dict") (.type T) = some (isTy T "dict")) : IsTy T := by
  intro K n hn
  obtain ⟨h1, h2, h3, h4, h5, h6, h7⟩ := h K
  simp only [List.mem_cons, List.not_mem_nil, or_false] at hn
  rcases hn with rfl | rfl | rfl | rfl | rfl | rfl | rfl <;> assumption
theorem isTy_int : IsTy "int" := isTy_of fun K => ⟨rfl, rfl, rfl, rfl, rfl, rfl, rfl⟩
theorem isTy_bool : IsTy "bool" := isTy_of fun K => ⟨rfl, rfl, rfl, rfl, rfl, rfl, rfl⟩
theorem isTy_tuple : IsTy "tuple" := isTy_of fun K => ⟨rfl, rfl, rfl, rfl, rfl, rfl, rfl⟩
theorem isTy_list : IsTy "list" := isTy_of fun K => ⟨rfl, rfl, rfl, rfl, rfl, rfl, rfl⟩
def isiD (T : String) (d : D) : Res D := match tyN d with
  | some n => .ok (.bl (isTy T n))
  | none => .stuck
theorem call_isi (T : String) (h : IsTy T) : CallR X (.builtin "isinstance") (fun xs H Q => ∃ x d, xs = [x, .ty T] ∧ Rep X.K Any H x d ∧ ∃ b, isiD T d = .ok (.bl b) ∧ Q (.bl b) H) := by
  intro pins s σ H xs us Q I r ⟨x, d, ex, rp, b, e, q⟩
  subst ex
  obtain ⟨u, w', rfl, r1, r2⟩ := vals2 r
  cases (show w' = Value.type T from r2)
  unfold isiD at e
  split at e
  · rename_i n hn
    cases e
    refine isinst_ok I r1 (ty_of rp hn) (h X.K n (ty_mem hn)) fun tk => ⟨.bl _, H, I.tok tk, rfl, q⟩
  · cases e
def isiF (T : String) (f : Sl → Res D) : Sl → Res D := fun env => f env >>= isiD T
theorem de_isi (T : String) (Ty : Str) {l l' : Lv} {e : Expr} {f : Sl → Res D} {p p2 pos : Pos} (ht : IsTy T) (he : DE X l e f) (hg : Gl X "isinstance") (hm : X.mg "isinstance" = none) (hg2 : Gl X Ty) (hm2 : X.mg Ty = none) (hv : bootBuiltins Ty = some (.type T))
    (hn : Ty ≠ "__name__" := by decide) (hd : (Ty == ("__debug__" : Str)) = false := by decide) (hs : starEach [e, .Name Ty p2] X.env = (false, eval e X.env) :: starEach [.Name Ty p2] X.env := by exact star_plain rfl)
    (hs2 : starEach [.Name Ty p2] X.env = (false, eval (.Name Ty p2) X.env) :: starEach [] X.env := by exact star_plain rfl) (hpl : (backTo pos (starEach [.Name Ty p2] X.env)).any (·.1) = false := by exact any_plain rfl) :
    DE X l' (.Call (.Name "isinstance" p) [e, .Name Ty p2] [] pos) (isiF T f) := by
 with_unfolding_all exact (
  PE.imp (pe_callB (call_isi T ht) hg hm boot_isinstance (pa_cons he (pa_cons (pe_bltn (v := .ty T) hg2 hm2 hv rfl hn hd) pa_nil hs2) hs) (by decide) (by decide) hs hpl) fun σ H Q ⟨G, H0, env, d, k, ef, q⟩ => by
    obtain ⟨a, e1, e2⟩ := bind_inv ef
    refine ⟨G, H0, env, a, k, e1, fun v H' s r _ => ?_⟩
    have hb : ∃ b, d = .bl b := by
      unfold isiD at e2
      split at e2
      · cases e2; exact ⟨_, rfl⟩
      · cases e2
    obtain ⟨b, rfl⟩ := hb
    exact ⟨v, a, rfl, r.weak Lv.weak_b, b, e2, q _ H' s (.bl b) (sc_bl (K := X.K) b).T⟩)

/-! ### all of a list of bools -/
def bools : List D → Option (List Bool)
  | [] => some []
  | .bl b :: r => (bools r).map (b :: ·)
  | _ => none
theorem bools_get : ∀ {ds : List D} {bs : List Bool}, bools ds = some bs → ds = bs.map D.bl
  | [], bs, h => by cases h; rfl
  | d :: r, bs, h => by
    cases d with
    | bl b =>
      simp only [bools, Option.map_eq_some_iff] at h
      obtain ⟨bs', h1, rfl⟩ := h
      rw [bools_get h1]; rfl
    | _ => cases h
def allD : List D → Res D
  | [.lst ds] => match bools ds with
    | some bs => .ok (.bl (bs.all id))
    | none => .stuck
  | _ => .stuck
theorem reps_bools {A : Addr → Prop} {H : Hp} : ∀ {bs : List Bool} {xs : List V}, Reps K A H xs (bs.map D.bl) → xs = bs.map V.bl
  | [], _, .nil => rfl
  | b :: bs, _, .cons h t => by rw [h.blE, reps_bools t]; rfl
theorem vals_bools : ∀ {bs : List Bool} {us : List Value}, Vals (bs.map V.bl) us → us = bs.map Value.bool
  | [], _, .nil => rfl
  | b :: bs, _, .cons h t => by
    rw [vals_bools t]
    have : _ = Value.bool b := h
    rw [this]; rfl
theorem call_allB (hc : X.calm = true) : CallR X (.builtin "all") (fun xs H Q => ∃ (p : Addr) (bs : List Bool), xs = [.ref p] ∧ SqL X.K H p (bs.map V.bl) ∧ Q (.bl (bs.all id)) H) := by
  intro pins s σ H xs us Q I r ⟨p, bs, ex, hq, q⟩
  subst ex
  obtain ⟨u, rfl, ru⟩ := vals1 r
  cases ru
  obtain ⟨its, rv, pl, hz⟩ := I.list hq
  have hits := vals_bools rv
  subst hits
  refine call_all_walk (wpAny_pyIter_list pl.isList ?_)
  have hne : p ≠ s.heap.objs.size := by
    obtain ⟨o, n, e, _⟩ := pl
    exact Nat.ne_of_lt (Heap.lt_size e)
  refine ⟨s.heap.objs.size, _, _, _, _, _, fun i => (bs[i]?).getD true, rfl, Walks.list (show X.A.in1.handled = none from I.ok.hd hc) s.heap.objs.size p hne (bs.map Value.bool).toArray, ⟨⟨_, Heap.get?_push_size _ rfl, rfl, rfl⟩, pl.isList.at fun o e => Heap.get?_push_of_some _ e⟩, ?_, fun h' tk kk => ?_⟩
  · intro i v s' Q' E' hP hQ
    have hP' : (bs.map Value.bool)[i]? = some v := by simpa using hP
    rw [List.getElem?_map] at hP'
    cases e : bs[i]? with
    | none => rw [e] at hP'; cases hP'
    | some b =>
      rw [e] at hP'
      cases hP'
      dsimp only at hQ
      rw [e] at hQ
      exact wpAny_truthy_bool hQ
  · have hn : (bs.map Value.bool).toArray.size = bs.length := by simp
    have e : ((List.range (bs.map Value.bool).toArray.size).all fun i => (bs[i]?).getD true) = bs.all id := by
      rw [hn, Bool.eq_iff_iff, List.all_eq_true, List.all_eq_true]
      constructor
      · intro hh b hb
        obtain ⟨i, hi, rfl⟩ := List.mem_iff_getElem.mp hb
        have := hh i (List.mem_range.mpr hi)
        rw [List.getElem?_eq_getElem hi] at this
        exact this
      · intro hh i hi
        have hi' := List.mem_range.mp hi
        rw [List.getElem?_eq_getElem hi']
        exact hh _ (List.getElem_mem hi')
    rw [e]
    refine ⟨.bl _, H, ?_, rfl, q⟩
    exact I.kept (t' := tk) fun b o e => kk b o (by
      intro z
      have hb : b = s.heap.objs.size := by simpa using z
      exact absurd (Heap.lt_size e) (by rw [hb]; exact Nat.lt_irrefl _)) (Heap.get?_push_of_some _ e)
theorem cd_all : CallS K (fun xs H Q => ∃ (p : Addr) (bs : List Bool), xs = [.ref p] ∧ SqL K H p (bs.map V.bl) ∧ Q (.bl (bs.all id)) H) allD := by
  intro xs H ds d Q r e q
  unfold allD at e
  split at e
  · split at e
    · rename_i bs hbs
      cases e
      obtain ⟨v, rfl, r1⟩ := r.one
      obtain ⟨p, ys, rfl, hp, _, ry⟩ := r1.lstE
      rw [bools_get hbs] at ry
      have := reps_bools ry
      subst this
      exact ⟨p, bs, rfl, .of hp, q _ (sc_bl _)⟩
    · cases e
  · cases e
end
end M

set_option Elab.async false
set_option linter.all false
set_option maxRecDepth 100000
set_option maxHeartbeats 4000000
namespace M
open PySem PySem.Spec L2
open PyProof.Rows hiding St
open PySem.SeqAt (EqAt RcAt RcNeAt)

mutual
theorem D.ind {P : D → Prop} (h0 : P .non) (h1 : ∀ b, P (.bl b)) (h2 : ∀ i, P (.int i)) (h3 : ∀ x, P (.str x)) (h4 : ∀ ds, (∀ d ∈ ds, P d) → P (.tup ds)) (h5 : ∀ ds, (∀ d ∈ ds, P d) → P (.lst ds))
    (h6 : ∀ ds, (∀ d ∈ ds, P d) → P (.scr ds)) (h7 : (∀ ks ds, (∀ d ∈ ds, P d) → P (.dic ks ds)) ∧ (∀ ks ds, (∀ d ∈ ds, P d) → P (.dit ks ds)) ∧ ∀ c, P (.exn c)) : ∀ d, P d
  | .non => h0
  | .bl b => h1 b
  | .int i => h2 i
  | .str x => h3 x
  | .tup ds => h4 ds (D.inds h0 h1 h2 h3 h4 h5 h6 h7 ds)
  | .lst ds => h5 ds (D.inds h0 h1 h2 h3 h4 h5 h6 h7 ds)
  | .scr ds => h6 ds (D.inds h0 h1 h2 h3 h4 h5 h6 h7 ds)
  | .dic ks ds => h7.1 ks ds (D.inds h0 h1 h2 h3 h4 h5 h6 h7 ds)
  | .dit ks ds => h7.2.1 ks ds (D.inds h0 h1 h2 h3 h4 h5 h6 h7 ds)
  | .exn c => h7.2.2 c
theorem D.inds {P : D → Prop} (h0 : P .non) (h1 : ∀ b, P (.bl b)) (h2 : ∀ i, P (.int i)) (h3 : ∀ x, P (.str x)) (h4 : ∀ ds, (∀ d ∈ ds, P d) → P (.tup ds)) (h5 : ∀ ds, (∀ d ∈ ds, P d) → P (.lst ds))
    (h6 : ∀ ds, (∀ d ∈ ds, P d) → P (.scr ds)) (h7 : (∀ ks ds, (∀ d ∈ ds, P d) → P (.dic ks ds)) ∧ (∀ ks ds, (∀ d ∈ ds, P d) → P (.dit ks ds)) ∧ ∀ c, P (.exn c)) : ∀ ds : List D, ∀ d ∈ ds, P d
  | [], _, h => by cases h
  | x :: r, d, h => by
    have p := D.ind h0 h1 h2 h3 h4 h5 h6 h7 x
    have q := D.inds h0 h1 h2 h3 h4 h5 h6 h7 r
    rcases List.mem_cons.mp h with z | z
    · rw [z]; exact p
    · exact q d z
end
mutual
/-- levels of lists and tuples in it -/
def D.dep : D → Nat
  | .tup ds => D.deps ds + 1
  | .lst ds => D.deps ds + 1
  | _ => 0
def D.deps : List D → Nat
  | [] => 0
  | d :: ds => max (D.dep d) (D.deps ds)
end
mutual
/-- what == is told of here -/
def D.eqb : D → Bool
  | .scr _ => false
  | .dic _ _ => false
  | .dit _ _ => false
  | .exn _ => false
  | .tup ds => D.eqbs ds
  | .lst ds => D.eqbs ds
  | _ => true
def D.eqbs : List D → Bool
  | [] => true
  | d :: ds => D.eqb d && D.eqbs ds
end
mutual
def eqD : D → D → Bool
  | .non, .non => true
  | .bl a, .bl b => a == b
  | .bl a, .int j => (if a then 1 else 0) == j
  | .int i, .bl b => i == (if b then 1 else 0)
  | .int i, .int j => i == j
  | .str x, .str y => x == y
  | .tup a, .tup b => eqDs a b
  | .lst a, .lst b => eqDs a b
  | _, _ => false
def eqDs : List D → List D → Bool
  | [], [] => true
  | a :: as, b :: bs => eqD a b && eqDs as bs
  | _, _ => false
end
theorem deps_mem : ∀ {ds : List D} {d : D}, d ∈ ds → D.dep d ≤ D.deps ds
  | x :: r, d, h => by
    simp only [D.deps]
    rcases List.mem_cons.mp h with rfl | h
    · omega
    · have := deps_mem h; omega
theorem eqbs_mem : ∀ {ds : List D} {d : D}, D.eqbs ds = true → d ∈ ds → D.eqb d = true
  | x :: r, d, hb, h => by
    simp only [D.eqbs, Bool.and_eq_true] at hb
    rcases List.mem_cons.mp h with rfl | h
    · exact hb.1
    · exact eqbs_mem hb.2 h
theorem eqDs_refl_of : ∀ {ds : List D}, (∀ d ∈ ds, D.eqb d = true → eqD d d = true) → D.eqbs ds = true → eqDs ds ds = true
  | [], _, _ => by simp [eqDs]
  | d :: ds, h, hb => by
    simp only [D.eqbs, Bool.and_eq_true] at hb
    simp only [eqDs, Bool.and_eq_true]
    exact ⟨h d List.mem_cons_self hb.1, eqDs_refl_of (fun x hx => h x (List.mem_cons_of_mem _ hx)) hb.2⟩
theorem eqD_refl (d : D) : D.eqb d = true → eqD d d = true := by
  refine D.ind (P := fun d => D.eqb d = true → eqD d d = true) ?_ ?_ ?_ ?_ ?_ ?_ ?_ ?_ d
  · intro _; simp [eqD]
  · intro b _; simp [eqD]
  · intro i _; simp [eqD]
  · intro x _; simp [eqD]
  · intro ds ih hb; simp only [eqD]; exact eqDs_refl_of ih (by simpa only [D.eqb] using hb)
  · intro ds ih hb; simp only [eqD]; exact eqDs_refl_of ih (by simpa only [D.eqb] using hb)
  · intro ds ih hb; simp [D.eqb] at hb
  · exact ⟨by intro ks ds ih hb; simp [D.eqb] at hb, by intro ks ds ih hb; simp [D.eqb] at hb, by intro c hb; simp [D.eqb] at hb⟩
section
variable {K : PySem.W.Frag} {H : Hp}
theorem Reps.inj_of : ∀ {A A' : Addr → Prop} {vs : List V} {ds ds' : List D}, (∀ d ∈ ds, ∀ (A A' : Addr → Prop) v d', D.eqb d = true → D.eqb d' = true → Rep K A H v d → Rep K A' H v d' → d = d') → D.eqbs ds = true → D.eqbs ds' = true → Reps K A H vs ds → Reps K A' H vs ds' → ds = ds'
  | _, _, _, _, _, _, _, _, .nil, .nil => rfl
  | _, _, _, _, _, h, hb, hb', .cons r t, .cons r' t' => by
    simp only [D.eqbs, Bool.and_eq_true] at hb hb'
    rw [h _ List.mem_cons_self _ _ _ _ hb.1 hb'.1 r r', Reps.inj_of (fun d hd => h d (List.mem_cons_of_mem _ hd)) hb.2 hb'.2 t t']
/-- a value stands for one datum (no script in it) -/
theorem Rep.inj (d : D) : ∀ (A A' : Addr → Prop) v d', D.eqb d = true → D.eqb d' = true → Rep K A H v d → Rep K A' H v d' → d = d' := by
  refine D.ind (P := fun d => ∀ (A A' : Addr → Prop) v d', D.eqb d = true → D.eqb d' = true → Rep K A H v d → Rep K A' H v d' → d = d') ?_ ?_ ?_ ?_ ?_ ?_ ?_ ?_ d
  · intro A A' v d' _ _ r r'; cases r.nonE; cases r'; rfl
  · intro b A A' v d' _ _ r r'; cases r.blE; cases r'; rfl
  · intro b A A' v d' _ _ r r'; cases r.intE; cases r'; rfl
  · intro b A A' v d' _ _ r r'; cases r.strE.1; cases r'; rfl
  · intro ds ih A A' v d' hb hd' r r'
    obtain ⟨a, xs, rfl, ha, rs⟩ := r.tupE
    have hb' : D.eqbs ds = true := by simpa only [D.eqb] using hb
    cases r' with
    | tup e rs' =>
      rw [ha] at e; cases e
      rw [Reps.inj_of ih hb' (by simpa only [D.eqb] using hd') rs rs']
    | lst e _ _ => rw [ha] at e; cases e
    | lsk e _ => simp [D.eqb] at hd'
    | dic e _ _ _ _ => rw [ha] at e; cases e
    | dit e _ _ _ _ => rw [ha] at e; cases e
    | exn e _ _ => rw [ha] at e; cases e
  · intro ds ih A A' v d' hb hd' r r'
    obtain ⟨a, xs, rfl, ha, _, rs⟩ := r.lstE
    have hb' : D.eqbs ds = true := by simpa only [D.eqb] using hb
    cases r' with
    | tup e rs' => rw [ha] at e; cases e
    | lst e _ rs' =>
      rw [ha] at e; cases e
      rw [Reps.inj_of ih hb' (by simpa only [D.eqb] using hd') rs rs']
    | lsk e _ => simp [D.eqb] at hd'
    | dic e _ _ _ _ => rw [ha] at e; cases e
    | dit e _ _ _ _ => rw [ha] at e; cases e
    | exn e _ _ => rw [ha] at e; cases e
  · intro ds ih A A' v d' hb; simp [D.eqb] at hb
  · exact ⟨by intro ks ds ih A A' v d' hb; simp [D.eqb] at hb, by intro ks ds ih A A' v d' hb; simp [D.eqb] at hb, by intro c A A' v d' hb; simp [D.eqb] at hb⟩
end
/-- the answers place by place -/
def eqAtJ (a b : List D) (j : Nat) : Bool := match a[j]?, b[j]? with
  | some x, some y => eqD x y
  | _, _ => true
theorem eqDs_range : ∀ (a b : List D), a.length = b.length → eqDs a b = (List.range a.length).all (eqAtJ a b)
  | [], [], _ => by simp [eqDs]
  | x :: a, y :: b, h => by
    have hl : a.length = b.length := by simpa using h
    rw [List.length_cons, List.range_succ_eq_map, List.all_cons, List.all_map]
    simp only [eqDs]
    rw [eqDs_range a b hl]
    congr 1
theorem eqDs_len : ∀ (a b : List D), a.length ≠ b.length → eqDs a b = false
  | [], [], h => absurd rfl h
  | [], y :: b, _ => by simp [eqDs]
  | x :: a, [], _ => by simp [eqDs]
  | x :: a, y :: b, h => by
    simp only [eqDs]
    rw [eqDs_len a b (by simpa using h), Bool.and_false]
theorem eqDs_tup (a b : List D) : eqDs a b = ((List.range (min a.length b.length)).all (eqAtJ a b) && a.length == b.length) := by
  by_cases h : a.length = b.length
  · rw [eqDs_range a b h, h]; simp
  · rw [eqDs_len a b h]; simp [h]

section
variable {X : Cx} {pins : List (Addr × Obj)} {σ : L2.St} {H : Hp} {s : Shared}
/-- the two values compared, as objects -/
inductive Cm (X : Cx) (H : Hp) (s : Shared) : Value → D → Prop where
  | non : Cm X H s .none .non
  | bl (b : Bool) : Cm X H s (.bool b) (.bl b)
  | int (i : Int) (t : Tok) : Cm X H s (.int i t) (.int i)
  | str (x : Str) (t : Tok) : Cm X H s (.str x t) (.str x)
  | tup {a : Addr} {xs : List V} {its : List Value} {ds : List D} : H a = some (.tup xs) → s.heap.IsTuple a its.toArray → Vals xs its → Reps X.K Any H xs ds → Cm X H s (.ref a) (.tup ds)
  | lst {a : Addr} {xs : List V} {its : List Value} {ds : List D} : H a = some (.lst xs) → s.heap.IsList a its.toArray → Vals xs its → Reps X.K Any H xs ds → Cm X H s (.ref a) (.lst ds)
theorem cm_of (I : Inv X pins σ H s) {v : V} {u : Value} {d : D} (r : Rep X.K Any H v d) (ru : RelV v u) (hb : D.eqb d = true) : Cm X H s u d := by
  cases r with
  | non => cases ru; exact .non
  | bl b => cases ru; exact .bl b
  | int i => obtain ⟨t, rfl⟩ := ru; exact .int i t
  | str x _ => obtain ⟨t, rfl⟩ := ru; exact .str x t
  | tup e rs =>
    cases ru
    obtain ⟨its, rv, p, hz⟩ := I.tuple (.of e)
    exact .tup e p rv rs
  | lst e _ rs =>
    cases ru
    obtain ⟨its, rv, p, hz⟩ := I.list (.of e)
    exact .lst e p.isList rv rs.low
  | lsk _ _ => simp [D.eqb] at hb
  | dic _ _ _ _ _ => simp [D.eqb] at hb
  | dit _ _ _ _ _ => simp [D.eqb] at hb
  | exn _ _ _ => simp [D.eqb] at hb
theorem elems {A : Around} {xs ys : List V} {its its2 : List Value} {a b : List D} (ra : Reps X.K Any H xs a) (rb : Reps X.K Any H ys b) (va : Vals xs its) (vb : Vals ys its2)
    (ih : ∀ d ∈ a, ∀ (v v' : V) (u u' : Value) (d' : D), Rep X.K Any H v d → RelV v u → Rep X.K Any H v' d' → RelV v' u' → D.eqb d = true → D.eqb d' = true → EqAt A.in1 s u u' (eqD d d')) (ha : D.eqbs a = true) (hb : D.eqbs b = true) :
    ∀ j (h1 : j < its.toArray.size) (h2 : j < its2.toArray.size), EqAt A.in1 s its.toArray[j] its2.toArray[j] (eqAtJ a b j) := by
  intro j h1 h2
  have l1 := va.length
  have l2 := vb.length
  have l3 := ra.length
  have l4 := rb.length
  have j1 : j < a.length := by simp at h1; omega
  have j2 : j < b.length := by simp at h2; omega
  obtain ⟨v, e1, r1⟩ := ra.get (List.getElem?_eq_getElem j1)
  obtain ⟨v', e2, r2⟩ := rb.get (List.getElem?_eq_getElem j2)
  obtain ⟨u, e3, r3⟩ := va.get e1
  obtain ⟨u', e4, r4⟩ := vb.get e2
  have g1 : its.toArray[j] = u := by
    have := List.getElem?_eq_some_iff.mp e3
    obtain ⟨_, q⟩ := this
    simpa using q
  have g2 : its2.toArray[j] = u' := by
    have := List.getElem?_eq_some_iff.mp e4
    obtain ⟨_, q⟩ := this
    simpa using q
  rw [g1, g2]
  have e : eqAtJ a b j = eqD a[j] b[j] := by unfold eqAtJ; rw [List.getElem?_eq_getElem j1, List.getElem?_eq_getElem j2]
  rw [e]
  exact ih _ (List.getElem_mem j1) v v' u u' _ r1 r3 r2 r4 (eqbs_mem ha (List.getElem_mem j1)) (eqbs_mem hb (List.getElem_mem j2))
/-- == within -/
theorem eqAt_all (I : Inv X pins σ H s) (d : D) : ∀ (A : Around) (v v' : V) (u u' : Value) (d' : D), A.units + d.dep < cLine → Rep X.K Any H v d → RelV v u → Rep X.K Any H v' d' → RelV v' u' → D.eqb d = true → D.eqb d' = true → EqAt A s u u' (eqD d d') := by
  refine D.ind (P := fun d => ∀ (A : Around) (v v' : V) (u u' : Value) (d' : D), A.units + d.dep < cLine → Rep X.K Any H v d → RelV v u → Rep X.K Any H v' d' → RelV v' u' → D.eqb d = true → D.eqb d' = true → EqAt A s u u' (eqD d d')) ?_ ?_ ?_ ?_ ?_ ?_ ?_ ?_ d
  · intro A v v' u u' d' hu r ru r' ru' hb hb'
    cases cm_of I r ru hb
    have hu' : A.units < cLine := by simp only [D.dep] at hu; omega
    cases cm_of I r' ru' hb' <;> simp only [eqD]
    · exact EqAt.same _
    · exact EqAt.none_bool _
    · exact EqAt.none_int _ _
    · exact EqAt.none_str _ _
    · exact EqAt.none_tuple (by assumption) hu'
    · exact EqAt.none_list (by assumption) hu'
  · intro b A v v' u u' d' hu r ru r' ru' hb hb'
    cases cm_of I r ru hb
    have hu' : A.units < cLine := by simp only [D.dep] at hu; omega
    cases cm_of I r' ru' hb' <;> simp only [eqD]
    · exact EqAt.bool_none _
    · exact EqAt.bool_bool _ _
    · exact EqAt.bool_int _ _ _
    · exact EqAt.bool_str _ _ _
    · exact EqAt.bool_tuple _ (by assumption) hu'
    · exact EqAt.bool_list _ (by assumption) hu'
  · intro i A v v' u u' d' hu r ru r' ru' hb hb'
    cases cm_of I r ru hb
    have hu' : A.units < cLine := by simp only [D.dep] at hu; omega
    cases cm_of I r' ru' hb' <;> simp only [eqD]
    · exact EqAt.int_none _ _
    · exact EqAt.int_bool _ _ _
    · exact EqAt.int_int _ _ _ _
    · exact EqAt.int_str _ _ _ _
    · exact EqAt.int_tuple _ _ (by assumption) hu'
    · exact EqAt.int_list _ _ (by assumption) hu'
  · intro x A v v' u u' d' hu r ru r' ru' hb hb'
    cases cm_of I r ru hb
    have hu' : A.units < cLine := by simp only [D.dep] at hu; omega
    cases cm_of I r' ru' hb' <;> simp only [eqD]
    · exact EqAt.str_none _ _
    · exact EqAt.str_bool _ _ _
    · exact EqAt.str_int _ _ _ _
    · exact EqAt.str_str _ _ _ _
    · exact EqAt.str_tuple _ _ (by assumption) hu'
    · exact EqAt.str_list _ _ (by assumption) hu'
  · intro ds ih A v v' u u' d' hu r ru r' ru' hb hb'
    have hu' : A.units < cLine := by simp only [D.dep] at hu; omega
    have c1 := cm_of I r ru hb
    have c2 := cm_of I r' ru' hb'
    cases c1 with
    | tup e p rv rs =>
      cases c2 with
      | non => simp only [eqD]; exact EqAt.tuple_none p hu'
      | bl b => simp only [eqD]; exact EqAt.tuple_bool _ p hu'
      | int i t => simp only [eqD]; exact EqAt.tuple_int _ _ p hu'
      | str x t => simp only [eqD]; exact EqAt.tuple_str _ _ p hu'
      | lst e2 p2 rv2 rs2 => simp only [eqD]; exact EqAt.tuple_list p p2 hu'
      | @tup a2 xs2 its2 ds2 e2 p2 rv2 rs2 =>
        rename_i a1 xs1 its1
        by_cases z : a1 = a2
        · subst z
          have ed : D.tup ds = D.tup ds2 := Rep.inj _ Any Any _ _ hb hb' (Rep.tup e rs) (Rep.tup e2 rs2)
          rw [← ed, eqD_refl _ hb]
          exact EqAt.same _
        · have q := RcAt.tuples (A := A) (s := s) p p2 hu' (elems (A := A) rs rs2 rv rv2 (fun d hd v v' u u' d' g1 g2 g3 g4 g5 g6 => ih d hd A.in1 v v' u u' d' (by
            have := deps_mem hd
            simp only [D.dep] at hu
            show A.units + 1 + d.dep < cLine
            omega) g1 g2 g3 g4 g5 g6) (by simpa only [D.eqb] using hb) (by simpa only [D.eqb] using hb'))
          have n1 : its1.toArray.size = ds.length := by rw [List.size_toArray, ← rv.length, rs.length]
          have n2 : its2.toArray.size = ds2.length := by rw [List.size_toArray, ← rv2.length, rs2.length]
          rw [n1, n2, ← eqDs_tup] at q
          simp only [eqD]
          exact EqAt.of_refs z q
  · intro ds ih A v v' u u' d' hu r ru r' ru' hb hb'
    have hu' : A.units < cLine := by simp only [D.dep] at hu; omega
    have c1 := cm_of I r ru hb
    have c2 := cm_of I r' ru' hb'
    cases c1 with
    | lst e p rv rs =>
      cases c2 with
      | non => simp only [eqD]; exact EqAt.list_none p hu'
      | bl b => simp only [eqD]; exact EqAt.list_bool _ p hu'
      | int i t => simp only [eqD]; exact EqAt.list_int _ _ p hu'
      | str x t => simp only [eqD]; exact EqAt.list_str _ _ p hu'
      | tup e2 p2 rv2 rs2 => simp only [eqD]; exact EqAt.list_tuple p p2 hu'
      | @lst a2 xs2 its2 ds2 e2 p2 rv2 rs2 =>
        rename_i a1 xs1 its1
        have n1 : its1.toArray.size = ds.length := by rw [List.size_toArray, ← rv.length, rs.length]
        have n2 : its2.toArray.size = ds2.length := by rw [List.size_toArray, ← rv2.length, rs2.length]
        by_cases z : a1 = a2
        · subst z
          have ed : D.lst ds = D.lst ds2 := by
            rw [e] at e2; cases e2
            rw [Reps.inj_of (fun d _ A A' v d' => Rep.inj d A A' v d') (by simpa only [D.eqb] using hb) (by simpa only [D.eqb] using hb') rs rs2]
          rw [← ed, eqD_refl _ hb]
          exact EqAt.same _
        · simp only [eqD]
          by_cases hl : ds.length = ds2.length
          · have q := RcAt.lists (A := A) (s := s) p p2 (by rw [n1, n2]; exact hl) hu' (elems (A := A) rs rs2 rv rv2 (fun d hd v v' u u' d' g1 g2 g3 g4 g5 g6 => ih d hd A.in1 v v' u u' d' (by
              have := deps_mem hd
              simp only [D.dep] at hu
              show A.units + 1 + d.dep < cLine
              omega) g1 g2 g3 g4 g5 g6) (by simpa only [D.eqb] using hb) (by simpa only [D.eqb] using hb'))
            rw [n1, ← eqDs_range ds ds2 hl] at q
            exact EqAt.of_refs z q
          · rw [eqDs_len ds ds2 hl]
            exact EqAt.of_refs z (RcAt.lists_lengths p p2 (by rw [n1, n2]; simp [hl]) hu')
  · intro ds ih A v v' u u' d' hu r ru r' ru' hb; simp [D.eqb] at hb
  · exact ⟨by intro ks ds ih A v v' u u' d' hu r ru r' ru' hb; simp [D.eqb] at hb, by intro ks ds ih A v v' u u' d' hu r ru r' ru' hb; simp [D.eqb] at hb, by intro c A v v' u u' d' hu r ru r' ru' hb; simp [D.eqb] at hb⟩
/-- ==, != as operators -/
theorem rcAt_all (I : Inv X pins σ H s) {A : Around} {v v' : V} {u u' : Value} {d d' : D} (hu : A.units + d.dep < cLine) (r : Rep X.K Any H v d) (ru : RelV v u) (r' : Rep X.K Any H v' d') (ru' : RelV v' u') (hb : D.eqb d = true) (hb' : D.eqb d' = true) :
    RcAt A s u u' (eqD d d') ∧ RcNeAt A s u u' (!eqD d d') := by
  have hu' : A.units < cLine := by omega
  have c1 := cm_of I r ru hb
  have c2 := cm_of I r' ru' hb'
  cases c1 with
  | non =>
    cases c2 <;> simp only [eqD, Bool.not_true, Bool.not_false]
    · exact ⟨RcAt.none_none, RcNeAt.none_none⟩
    · exact ⟨RcAt.none_bool _, RcNeAt.none_bool _⟩
    · exact ⟨RcAt.none_int _ _, RcNeAt.none_int _ _⟩
    · exact ⟨RcAt.none_str _ _, RcNeAt.none_str _ _⟩
    · exact ⟨RcAt.none_tuple (by assumption) hu', RcNeAt.none_tuple (by assumption) hu'⟩
    · exact ⟨RcAt.none_list (by assumption) hu', RcNeAt.none_list (by assumption) hu'⟩
  | bl b =>
    cases c2 <;> simp only [eqD, Bool.not_true, Bool.not_false]
    · exact ⟨RcAt.bool_none _, RcNeAt.bool_none _⟩
    · exact ⟨RcAt.bool_bool _ _, RcNeAt.bool_bool _ _⟩
    · exact ⟨RcAt.bool_int _ _ _, RcNeAt.bool_int _ _ _⟩
    · exact ⟨RcAt.bool_str _ _ _, RcNeAt.bool_str _ _ _⟩
    · exact ⟨RcAt.bool_tuple _ (by assumption) hu', RcNeAt.bool_tuple _ (by assumption) hu'⟩
    · exact ⟨RcAt.bool_list _ (by assumption) hu', RcNeAt.bool_list _ (by assumption) hu'⟩
  | int i t =>
    cases c2 <;> simp only [eqD, Bool.not_true, Bool.not_false]
    · exact ⟨RcAt.int_none _ _, RcNeAt.int_none _ _⟩
    · exact ⟨RcAt.int_bool _ _ _, RcNeAt.int_bool _ _ _⟩
    · exact ⟨RcAt.int_int _ _ _ _, RcNeAt.int_int _ _ _ _⟩
    · exact ⟨RcAt.int_str _ _ _ _, RcNeAt.int_str _ _ _ _⟩
    · exact ⟨RcAt.int_tuple _ _ (by assumption) hu', RcNeAt.int_tuple _ _ (by assumption) hu'⟩
    · exact ⟨RcAt.int_list _ _ (by assumption) hu', RcNeAt.int_list _ _ (by assumption) hu'⟩
  | str x t =>
    cases c2 <;> simp only [eqD, Bool.not_true, Bool.not_false]
    · exact ⟨RcAt.str_none _ _, RcNeAt.str_none _ _⟩
    · exact ⟨RcAt.str_bool _ _ _, RcNeAt.str_bool _ _ _⟩
    · exact ⟨RcAt.str_int _ _ _ _, RcNeAt.str_int _ _ _ _⟩
    · exact ⟨RcAt.str_str _ _ _ _, RcNeAt.str_str _ _ _ _⟩
    · exact ⟨RcAt.str_tuple _ _ (by assumption) hu', RcNeAt.str_tuple _ _ (by assumption) hu'⟩
    · exact ⟨RcAt.str_list _ _ (by assumption) hu', RcNeAt.str_list _ _ (by assumption) hu'⟩
  | @tup a1 xs1 its1 ds e p rv rs =>
    cases c2 with
    | non => simp only [eqD, Bool.not_false]; exact ⟨RcAt.tuple_none p hu', RcNeAt.tuple_none p hu'⟩
    | bl b => simp only [eqD, Bool.not_false]; exact ⟨RcAt.tuple_bool _ p hu', RcNeAt.tuple_bool _ p hu'⟩
    | int i t => simp only [eqD, Bool.not_false]; exact ⟨RcAt.tuple_int _ _ p hu', RcNeAt.tuple_int _ _ p hu'⟩
    | str x t => simp only [eqD, Bool.not_false]; exact ⟨RcAt.tuple_str _ _ p hu', RcNeAt.tuple_str _ _ p hu'⟩
    | lst e2 p2 rv2 rs2 => simp only [eqD, Bool.not_false]; exact ⟨RcAt.tuple_list p p2 hu', RcNeAt.tuple_list p p2 hu'⟩
    | @tup a2 xs2 its2 ds2 e2 p2 rv2 rs2 =>
      have n1 : its1.toArray.size = ds.length := by rw [List.size_toArray, ← rv.length, rs.length]
      have n2 : its2.toArray.size = ds2.length := by rw [List.size_toArray, ← rv2.length, rs2.length]
      have el := elems (A := A) (s := s) rs rs2 rv rv2 (fun d hd v v' u u' d' g1 g2 g3 g4 g5 g6 => eqAt_all I d A.in1 v v' u u' d' (by
        have := deps_mem hd
        simp only [D.dep] at hu
        show A.units + 1 + d.dep < cLine
        omega) g1 g2 g3 g4 g5 g6) (by simpa only [D.eqb] using hb) (by simpa only [D.eqb] using hb')
      have q := RcAt.tuples p p2 hu' el
      have q2 := RcNeAt.tuples p p2 hu' el
      rw [n1, n2, ← eqDs_tup] at q q2
      simp only [eqD]
      exact ⟨q, q2⟩
  | @lst a1 xs1 its1 ds e p rv rs =>
    cases c2 with
    | non => simp only [eqD, Bool.not_false]; exact ⟨RcAt.list_none p hu', RcNeAt.list_none p hu'⟩
    | bl b => simp only [eqD, Bool.not_false]; exact ⟨RcAt.list_bool _ p hu', RcNeAt.list_bool _ p hu'⟩
    | int i t => simp only [eqD, Bool.not_false]; exact ⟨RcAt.list_int _ _ p hu', RcNeAt.list_int _ _ p hu'⟩
    | str x t => simp only [eqD, Bool.not_false]; exact ⟨RcAt.list_str _ _ p hu', RcNeAt.list_str _ _ p hu'⟩
    | tup e2 p2 rv2 rs2 => simp only [eqD, Bool.not_false]; exact ⟨RcAt.list_tuple p p2 hu', RcNeAt.list_tuple p p2 hu'⟩
    | @lst a2 xs2 its2 ds2 e2 p2 rv2 rs2 =>
      have n1 : its1.toArray.size = ds.length := by rw [List.size_toArray, ← rv.length, rs.length]
      have n2 : its2.toArray.size = ds2.length := by rw [List.size_toArray, ← rv2.length, rs2.length]
      simp only [eqD]
      by_cases hl : ds.length = ds2.length
      · have el := elems (A := A) (s := s) rs rs2 rv rv2 (fun d hd v v' u u' d' g1 g2 g3 g4 g5 g6 => eqAt_all I d A.in1 v v' u u' d' (by
          have := deps_mem hd
          simp only [D.dep] at hu
          show A.units + 1 + d.dep < cLine
          omega) g1 g2 g3 g4 g5 g6) (by simpa only [D.eqb] using hb) (by simpa only [D.eqb] using hb')
        have q := RcAt.lists p p2 (by rw [n1, n2]; exact hl) hu' el
        have q2 := RcNeAt.lists p p2 (by rw [n1, n2]; exact hl) hu' el
        rw [n1, ← eqDs_range ds ds2 hl] at q q2
        exact ⟨q, q2⟩
      · rw [eqDs_len ds ds2 hl]
        exact ⟨RcAt.lists_lengths p p2 (by rw [n1, n2]; simp [hl]) hu', RcNeAt.lists_lengths p p2 (by rw [n1, n2]; simp [hl]) hu'⟩
end

/-! ### the rules -/
section
variable {X : Cx}
/-- two lists of unlike lengths -/
def unlike : D → D → Bool
  | .lst a, .lst b => a.length != b.length
  | _, _ => false
theorem unlike_eq {a b : D} (h : unlike a b = true) : eqD a b = false := by
  unfold unlike at h
  split at h
  · simp only [eqD]; exact eqDs_len _ _ (by simpa using h)
  · cases h
def EqC (a b : D) : Prop := (D.eqb a = true ∧ D.eqb b = true ∧ a.dep ≤ 190) ∨ unlike a b = true
instance (a b : D) : Decidable (EqC a b) := inferInstanceAs (Decidable (_ ∨ _))
def rEqD (K : PySem.W.Frag) (neg : Bool) : R2 := fun x y H Q => ∃ a b, Rep K Any H x a ∧ Rep K Any H y b ∧ EqC a b ∧ Q (.bl (if neg then !eqD a b else eqD a b)) H
theorem unlike_at {pins : List (Addr × Obj)} {σ : L2.St} {H : Hp} {s : Shared} (I : Inv X pins σ H s) {A : Around} {v v' : V} {u u' : Value} {d d' : D} (hu : A.units < cLine) (r : Rep X.K Any H v d) (ru : RelV v u) (r' : Rep X.K Any H v' d') (ru' : RelV v' u') (h : unlike d d' = true) :
    RcAt A s u u' false ∧ RcNeAt A s u u' true := by
  unfold unlike at h
  split at h
  · obtain ⟨a, xs, rfl, ha, _, rs⟩ := r.lstE
    obtain ⟨a', xs', rfl, ha', _, rs'⟩ := r'.lstE
    cases ru
    cases ru'
    obtain ⟨its, rv, p, _⟩ := I.list (.of ha)
    obtain ⟨its', rv', p', _⟩ := I.list (.of ha')
    have e : (its.toArray.size != its'.toArray.size) = true := by
      rw [List.size_toArray, List.size_toArray, ← rv.length, ← rv'.length, rs.length, rs'.length]; exact h
    exact ⟨RcAt.lists_lengths p.isList p'.isList e hu, RcNeAt.lists_lengths p.isList p'.isList e hu⟩
  · cases h
theorem op_eqD (hu : X.A.units + 200 < cLine) : OpR X (compareOp .Eq) (rEqD X.K false) := by
  intro pins s σ H x y v u Q I rx ry ⟨a, b, ra, rb, hc, q⟩
  rcases hc with ⟨ha, hb, hd⟩ | hc
  · exact (rcAt_all I (A := X.A) (by omega) ra rx rb ry ha hb).1 X.prog X.w X.xe _ ⟨.bl _, H, I, rfl, q⟩
  · have q' : Q (.bl false) H := by have := unlike_eq hc; simpa [this] using q
    exact (unlike_at I (A := X.A) (by omega) ra rx rb ry hc).1 X.prog X.w X.xe _ ⟨.bl _, H, I, rfl, q'⟩
theorem op_neD (hu : X.A.units + 200 < cLine) : OpR X (compareOp .NotEq) (rEqD X.K true) := by
  intro pins s σ H x y v u Q I rx ry ⟨a, b, ra, rb, hc, q⟩
  rcases hc with ⟨ha, hb, hd⟩ | hc
  · exact (rcAt_all I (A := X.A) (by omega) ra rx rb ry ha hb).2 X.prog X.w X.xe _ ⟨.bl _, H, I, rfl, q⟩
  · have q' : Q (.bl true) H := by have := unlike_eq hc; simpa [this] using q
    exact (unlike_at I (A := X.A) (by omega) ra rx rb ry hc).2 X.prog X.w X.xe _ ⟨.bl _, H, I, rfl, q'⟩
def eqR (a b : D) : Res D := must (EqC a b) (.ok (.bl (eqD a b)))
def neR (a b : D) : Res D := must (EqC a b) (.ok (.bl (!eqD a b)))
theorem od_eq {K : PySem.W.Frag} : OpS K (rEqD K false) eqR := fun x y H a b d Q ra rb e q => by
  obtain ⟨h1, e2⟩ := must_inv e
  cases e2
  exact ⟨a, b, ra, rb, h1, q _ (sc_bl _)⟩
theorem od_ne {K : PySem.W.Frag} : OpS K (rEqD K true) neR := fun x y H a b d Q ra rb e q => by
  obtain ⟨h1, e2⟩ := must_inv e
  cases e2
  exact ⟨a, b, ra, rb, h1, q _ (sc_bl _)⟩
theorem Room.u200 {k : Nat} {A : Around} (r : Room k A) : A.units + 200 < cLine := by have := r.un; omega
end
end M

set_option Elab.async false
set_option linter.all false
set_option maxRecDepth 100000
set_option maxHeartbeats 4000000
namespace PySem
open Builtin
end PySem
namespace M
open PySem PySem.Spec L2
open PyProof.Rows hiding St

section
variable {X : Cx} {K : PySem.W.Frag}

/-! ### t[lo:hi], the whole of it: t itself -/
theorem getItem_whole {prog : Program} {w : World} {A : Around} {E : Value → Shared → Prop} {s : Shared} {t sl : Addr} {items : Array Value} {vl vu : Value} {lo hi : Option Int} {Q : Value → Shared → Prop} (ht : IsTup s.heap t items) (hs : s.heap.IsSliceOf sl vl vu .none) (pl : IsPart vl lo) (pu : IsPart vu hi)
    (hw : HT.sIx items.size 0 lo = 0 ∧ HT.sIx items.size items.size hi = items.size) (h : Q (.ref t) s) : wpAny (model prog w) A (getItem (.ref t) (.ref sl)) Q E s := by
  obtain ⟨os, hos, hcs, hds⟩ := id hs
  have hTs : s.TypeIs (.ref sl) "slice" := ⟨os, hos, hcs⟩
  unfold getItem
  try with_reducible refine wpAny_holding ?_
  first | refine wpAny_bind (wpAny_pure ?_) | skip
  refine wpAny_bind (wpAny_sequenceKey ht.typeIs (by decide) ?_)
  refine wpAny_bind (wpAny_callSpecial?_slot (name := Str.ofString "__getitem__") ht.typeIs PyProof.Rows.slot_tuple_getitem
    (wpAny_call_entry PyProof.Rows.slot_tuple_getitem ht.typeIs entry_tuple_getitem ?_ (args_tuple_getitem _ _)))
  show wpAny _ _ (Builtin.Tuple.tupleItemsOf (.ref t) >>= _) _ _ s
  refine wpAny_bind (tupleItemsOf_ ht ?_)
  refine wpAny_bind (wpAny_typeOf hTs ?_)
  rw [if_pos (by decide)]
  refine wpAny_bind (HT.sliceApplied_gen hs pl pu ?_)
  have hyes : (((HT.sIx items.size 0 lo : Nat) : Int) == 0 && (1 : Int) == 1 && (HT.sIx items.size items.size hi - HT.sIx items.size 0 lo) == items.size) = true := by
    rw [hw.1, hw.2]; simp
  show wpAny _ _ (if (((HT.sIx items.size 0 lo : Nat) : Int) == 0 && (1 : Int) == 1 && (HT.sIx items.size items.size hi - HT.sIx items.size 0 lo) == items.size) = true then _ else _) _ _ s
  rw [if_pos hyes]
  show wpAny _ _ (Builtin.Tuple.tupleIsExact (.ref t) >>= _) _ _ s
  unfold Builtin.Tuple.tupleIsExact
  refine wpAny_bind (wpAny_bind (wpAny_typeOf ht.typeIs (wpAny_pure ?_)))
  show wpAny _ _ (if (Value.type "tuple" == Value.type "tuple") = true then _ else _) _ _ s
  rw [if_pos (by decide)]
  first
    | exact wpAny_bind (wpAny_rule (wpAny_bind (wpAny_pure (wpAny_pure ⟨_, rfl, wpAny_pure h⟩))))
    | exact wpAny_bind (wpAny_rule (wpAny_pure ⟨_, rfl, wpAny_pure h⟩))
    | exact wpAny_bind (wpAny_rule (wpAny_bind (wpAny_pure ⟨_, rfl, wpAny_pure h⟩)))
def rSlW (K : PySem.W.Frag) : V → Option Int → Option Int → Hp → VK → Prop := fun x lo hi H Q => ∃ a xs, x = .ref a ∧ SqT K H a xs ∧ (HT.sIx xs.length 0 lo = 0 ∧ HT.sIx xs.length xs.length hi = xs.length) ∧ Q (.ref a) H
theorem sl_whole : SlR X (rSlW X.K) := by
  intro pins s σ H x v vl vu lo hi sl Q I rx hs pl pu ⟨a, xs, ex, hx, hw, q⟩
  subst ex
  cases rx
  obtain ⟨its, r, ht, hz⟩ := I.tuple hx
  have hlen : its.toArray.size = xs.length := by rw [List.size_toArray]; exact r.length.symm
  exact ⟨"tuple", _, PyProof.Rows.slot_tuple_getitem.lookup, ht.typeIs, getItem_whole ht hs pl pu (by rw [hlen]; exact hw) ⟨.ref a, H, I, rfl, q⟩⟩
/-! ### slices of texts -/
def cutS (z : Str) (lo hi : Option Int) : Str :=
  if ((Builtin.Str.strSliceIndices lo hi 1 z.length).length == z.length) = true then z else ⟨((Builtin.Str.strSliceIndices lo hi 1 z.length).filterMap (z.cps[·]?)).toArray⟩
theorem cutS_len (z : Str) (lo hi : Option Int) : (cutS z lo hi).length ≤ z.length := by
  unfold cutS
  split
  · exact Nat.le_refl _
  · show ((Builtin.Str.strSliceIndices lo hi 1 z.length).filterMap (z.cps[·]?)).toArray.size ≤ z.length
    rw [List.size_toArray]
    exact Nat.le_trans (List.length_filterMap_le _ _) (PyProof.Rows.indices_len_le lo hi z.length)
def rSlS : V → Option Int → Option Int → Hp → VK → Prop := fun x lo hi H Q => ∃ z, x = .str z ∧ z.length ≤ sizeLine ∧ Q (.str (cutS z lo hi)) H
theorem part_of {v : Value} {o : Option Int} (h : IsPart v o) : ∃ p : Option (Int × Tok), v = partValue p ∧ p.map (·.1) = o := by
  cases h with
  | none => exact ⟨none, rfl, rfl⟩
  | int i t => exact ⟨some (i, t), rfl, rfl⟩
theorem sl_str : SlR X rSlS := by
  intro pins s σ H x v vl vu lo hi sl Q I rx hs pl pu ⟨z, ex, hz, q⟩
  subst ex
  obtain ⟨t, rfl⟩ := rx
  obtain ⟨l, rfl, el⟩ := part_of pl
  obtain ⟨u, rfl, eu⟩ := part_of pu
  refine ⟨"str", _, F.slot_str_getitem.lookup, typeIs_str s z t, wpAny_getItem_str_slice (l := l) (u := u) (st := none) hs rfl ?_⟩
  have hp : slicePicked z l u none = Builtin.Str.strSliceIndices lo hi 1 z.length := by unfold slicePicked; rw [el, eu]; rfl
  unfold sliceMade
  rw [hp]
  by_cases hc : ((Builtin.Str.strSliceIndices lo hi 1 z.length).length == z.length) = true
  · have e : cutS z lo hi = z := by unfold cutS; rw [if_pos hc]
    rw [e] at q
    rw [if_pos (by simpa using hc)]
    exact ⟨.str z, H, I, ⟨t, rfl⟩, q⟩
  · have e : cutS z lo hi = ⟨((Builtin.Str.strSliceIndices lo hi 1 z.length).filterMap (z.cps[·]?)).toArray⟩ := by unfold cutS; rw [if_neg hc]
    have hl := cutS_len z lo hi
    rw [e] at q hl
    rw [if_neg (by simpa using hc)]
    exact ⟨Nat.le_trans hl hz, .str _, H, I.tok _, ⟨_, rfl⟩, q⟩
def slD : D → Option Int → Option Int → Res D
  | .tup ds, lo, hi => (.ok (.tup (cutD ds lo hi)))
  | .lst ds, lo, hi => (.ok (.lst (cutD ds lo hi)))
  | .str z, lo, hi => .ok (.str (cutS z lo hi))
  | _, _, _ => .stuck
theorem cut_whole {ds : List D} {lo hi : Option Int} (h1 : HT.sIx ds.length 0 lo = 0) (h2 : HT.sIx ds.length ds.length hi = ds.length) : cutD ds lo hi = ds := by
  unfold cutD; rw [h1, h2]; simp
theorem slice_V {A : Addr → Prop} {x : V} {H : Hp} {a d : D} {lo hi : Option Int} {Q : VK} (r3 : Rep X.K A H x a) (e4 : slD a lo hi = .ok d) (q : ∀ v H', Same H H' → Rep X.K (fun c => H c = none ∨ A c) H' v d → NewTop H v → Q v H') :
    rSlT X.K x lo hi H Q ∨ rSlW X.K x lo hi H Q ∨ rSlL X.K x lo hi H Q ∨ rSlS x lo hi H Q := by
  cases a with
  | tup ds =>
    cases e4
    obtain ⟨b, xs, rfl, hb, rs⟩ := r3.tupE
    have hl := rs.length
    by_cases hw : HT.sIx xs.length 0 lo = 0 ∧ HT.sIx xs.length xs.length hi = xs.length
    · refine .inr (.inl ⟨b, xs, rfl, .of hb, hw, ?_⟩)
      rw [hl] at hw
      rw [cut_whole hw.1 hw.2] at q
      exact q _ H (Same.refl H) (.tup hb (rs.weak orA)) (tup_top hb)
    · exact .inl ⟨b, xs, rfl, .of hb, hw, fun p hp => q _ _ (Same.upd hp) (.tup upd_same (((cut_rep rs).weak orA).grow (Same.upd hp))) (new_top (Same.refl H) hp)⟩
  | lst ds =>
    cases e4
    obtain ⟨b, xs, rfl, hb, _, rs⟩ := r3.lstE
    exact .inr (.inr (.inl ⟨b, xs, rfl, .of hb, fun p hp => q _ _ (Same.upd hp) (.lst upd_same (.inl hp) (((cut_rep rs.low).laid hp).weak fun c z => ⟨.inr z.1, z.2⟩)) (new_top (Same.refl H) hp)⟩))
  | str z =>
    cases e4
    obtain ⟨rfl, hz⟩ := r3.strE
    have hl := Nat.le_trans (cutS_len z lo hi) hz
    exact .inr (.inr (.inr ⟨z, rfl, hz, q _ H (Same.refl H) (.str _ hl) (sc_top (sc_str (K := X.K) _ hl))⟩))
  | _ => cases e4
theorem de_slice {e : Expr} {lo hi : Option Expr} {p2 pos : Pos} {f : Sl → Res D} {fl fh : Sl → Res (Option Int)} (he : DE X .s e f) (hl : DO X lo fl) (hh : DO X hi fh) :
    DE X .t (.Subscript e (.Slice lo hi none p2) pos) (slice3 f fl fh slD) := by
 with_unfolding_all exact (
  PE.imp (pe_slice (sl_tup.or (sl_whole.or (sl_list.or sl_str))) he hl hh) fun σ H Q ⟨G, H0, env, d, k, ef, q⟩ => by
    obtain ⟨a, e1, ef⟩ := bind_inv ef
    obtain ⟨lo', e2, ef⟩ := bind_inv ef
    obtain ⟨hi', e3, e4⟩ := bind_inv ef
    refine ⟨G, H0, env, a, k, e1, fun x H1 s1 r1 _ => ⟨G, H0, env, lo', k.grow s1, e2, fun H2 s2 => ⟨G, H0, env, hi', (k.grow s1).grow s2, e3, fun H3 s3 => ?_⟩⟩⟩
    have sm := s1.trans (s2.trans s3)
    exact slice_V ((r1.grow s2).grow s3) e4 fun v H4 s4 r4 nt => q v H4 (sm.trans s4) (r4.weak fun c z => z.elim (fun z => k.new c (Same.free sm z)) fun z => z) (nt.grow sm))
/-! ### methods of texts -/
def MtD (K : PySem.W.Frag) (r : V → List V → Hp → VK → Prop) (g : D → List D → Res D) : Prop := ∀ (x : V) (xs : List V) (H : Hp) (a : D) (ds : List D) (d : D) (Q : VK), Rep K Any H x a → Reps K Any H xs ds → g a ds = .ok d → (∀ v, Sc K v d → Q v H) → r x xs H Q
theorem str_ty {A : Addr → Prop} {H : Hp} {v : V} {z : Str} (r : Rep K A H v (.str z)) : tyV K "str" v H := by rw [r.strE.1]; exact rfl
/-- a text's method with arguments -/
def smF (f : Sl → Res D) (fa : Sl → Res (List D)) (g : Str → List D → Res D) : Sl → Res D := fun env => f env >>= fun a => match a with
  | .str z => fa env >>= fun ds => g z ds
  | _ => .stuck
theorem de_sm {l1 l2 l' : Lv} {o e : Expr} {es : List Expr} {name : Str} {apos cpos : Pos} {id : String} {r : V → List V → Hp → VK → Prop} {g : Str → List D → Res D} {f : Sl → Res D} {fa : Sl → Res (List D)}
    (slot : PySem.Slot "str" name id) (hty : typeOf (.builtin id) = pure (.type "method_descriptor")) (hm : MtR X id r) (hr : MtD X.K r (fun a ds => match a with | .str z => g z ds | _ => .stuck)) (ho : DE X l1 o f) (ha : DA X l2 (e :: es) fa)
    (hbase : attributeBase o name X.env (eval o X.env) = eval o X.env := by rfl)
    (hfew : ((backTo cpos (starEach (e :: es) X.env)).all (fun x => !x.1) && (backToKw cpos (keywordEach [] X.env)).all (fun x => x.1.isSome)
      && decide ((e :: es).length + ([] : List Keyword).length + (if ([] : List Keyword).isEmpty then 0 else 1) < 30)) = true := by exact few_plain rfl rfl)
    (hline : (apos.endLine == cpos.line) = true := by rfl) (hs : starEach (e :: es) X.env = (false, eval e X.env) :: starEach es X.env := by exact star_plain rfl) (hplain : (backTo cpos (starEach es X.env)).any (·.1) = false := by exact any_plain rfl) :
    DE X l' (.Call (.Attribute o name apos) (e :: es) [] cpos) (smF f fa g) := by
 with_unfolding_all exact (
  PE.imp (pe_bm PySem.F.plainAttrs_str slot hty hm ho ha hbase hfew hline hs hplain) fun σ H Q ⟨G, H0, env, d, k, ef, q⟩ => by
    obtain ⟨a, e1, e2⟩ := bind_inv ef
    cases a with
    | str z =>
      obtain ⟨ds, e3, e4⟩ := bind_inv e2
      refine ⟨G, H0, env, _, k, e1, fun x H1 s1 r1 _ => ⟨str_ty r1, G, H0, env, ds, k.grow s1, e3, fun xs H2 s2 r2 => ?_⟩⟩
      exact hr x xs H2 (.str z) ds d Q ((r1.grow s2).weak Lv.weak_b) (r2.weak Lv.weak_b) e4 fun v sc => q v H2 (s1.trans s2) (sc.1 _ _) sc.T
    | _ => cases e2)
theorem mt_find : MtR X "str.find" (fun x xs H Q => ∃ z y, x = .str z ∧ xs = [.str y] ∧ Q (.int (Txt.find z y)) H) := by
  intro pins s σ H x xs v us Q I rx rv ⟨z, y, ex, exs, q⟩
  subst ex exs
  obtain ⟨t, rfl⟩ := rx
  obtain ⟨u, rfl, ru⟩ := vals1 rv
  obtain ⟨t', rfl⟩ := ru
  exact SC.find ⟨.int _, H, I.tok _, ⟨_, rfl⟩, q⟩
def findD (z : Str) : List D → Res D
  | [.str y] => .ok (.int (Txt.find z y))
  | _ => .stuck
theorem md_find : MtD K (fun x xs H Q => ∃ z y, x = .str z ∧ xs = [.str y] ∧ Q (.int (Txt.find z y)) H) (fun a ds => match a with | .str z => findD z ds | _ => .stuck) := by
  intro x xs H a ds d Q ra rs e q
  cases a with
  | str z =>
    dsimp only at e
    unfold findD at e
    split at e
    · cases e
      obtain ⟨v, rfl, r1⟩ := rs.one
      exact ⟨z, _, ra.strE.1, by rw [r1.strE.1], q _ (sc_int _)⟩
    · cases e
  | _ => cases e
def upperD (z : Str) : List D → Res D
  | [] => must (z.length ≤ 1000) (.ok (.str (Txt.upper z)))
  | _ => .stuck
/-! ### {} -/
def cD : Sl → Res D := fun _ => .ok (.dic [] [])
theorem de_dict0 {pos : Pos} : DE X .t (.Dict [] [] pos) cD := by
 with_unfolding_all exact (PE.imp pe_dnewK fun σ H Q ⟨G, H0, env, d, k, ef, q⟩ => by
  cases ef
  exact fun p hp => q _ _ (Same.upd hp) (.dic upd_same (k.new p hp) rfl rfl .nil) (new_top (Same.refl H) hp))
/-! ### -i -/
def negD : D → Res D
  | .int i => .ok (.int (-i))
  | _ => .stuck
def negF (f : Sl → Res D) : Sl → Res D := fun env => f env >>= negD
theorem de_neg {l l' : Lv} {e : Expr} {pos : Pos} {f : Sl → Res D} (h : DE X l e f) : DE X l' (.UnaryOp .USub e pos) (negF f) := by
 with_unfolding_all exact (PE.imp (pe_un un_neg h) fun σ H Q ⟨G, H0, env, d, k, ef, q⟩ => by
  obtain ⟨a, e1, e2⟩ := bind_inv ef
  refine ⟨G, H0, env, a, k, e1, fun v H' s r _ => ?_⟩
  cases a with
  | int i => cases e2; exact ⟨i, r.intE, q _ H' s (.int _) (sc_int (K := X.K) _).T⟩
  | _ => cases e2)
end
end M
namespace PySem.AutoSeq1
open PySem Builtin
end PySem.AutoSeq1
namespace M
open PySem PySem.Spec L2
open PyProof.Rows hiding St
section
variable {X : Cx}
def rRepT (K : PySem.W.Frag) : R2 := fun x y H Q => ∃ l k xs, x = .ref l ∧ y = .int k ∧ H l = some (.tup xs) ∧ 2 ≤ k ∧ k < 1000000 ∧ xs.isEmpty = false ∧ xs.length * k.toNat ≤ sizeLine ∧
  ∀ p, H p = none → Q (.ref p) (upd H p (.tup (List.replicate k.toNat xs).flatten))
def repT : D → D → Res D
  | .tup ds, .int k => must (2 ≤ k ∧ k < 1000000 ∧ ds.isEmpty = false ∧ ds.length * k.toNat ≤ sizeLine) (.ok (.tup (List.replicate k.toNat ds).flatten))
  | _, _ => .stuck
end
end M

set_option Elab.async false
set_option linter.all false
set_option maxRecDepth 100000
set_option maxHeartbeats 4000000
namespace M
open PySem PySem.Spec L2
open PyProof.Rows hiding St

/-! ### short names of the data's operations -/
abbrev subI : D → D → Res D := iOp TrueC fun i j => .int (i - j)
abbrev mulI : D → D → Res D := iOp MulC fun i j => .int (i * j)
abbrev divI : D → D → Res D := iOp DivC fun i j => .int (i / j)
abbrev modI : D → D → Res D := iOp PosC fun i j => .int (i % j)
abbrev powI : D → D → Res D := iOp PowC fun i j => .int (i ^ j.toNat)
abbrev ltI : D → D → Res D := iOp TrueC fun i j => .bl (decide (i < j))
abbrev leI : D → D → Res D := iOp TrueC fun i j => .bl (decide (i ≤ j))
abbrev gtI : D → D → Res D := iOp TrueC fun i j => .bl (decide (j < i))
abbrev geI : D → D → Res D := iOp TrueC fun i j => .bl (decide (j ≤ i))
/-! ### a def that stands in the program -/
structure Av (P : Program) (w : World) (K : PySem.W.Frag) (mg : Str → Option Value) (base : Heap) (k : Nat) (x : Str) (ps : List Str) (fr : Bool) (F : List D → Res D) : Prop where
  ex : ∃ f fd, FnOk P w K mg base CX0 k f fd ps (spF K fr ps.length F) ∧ mg x = some (.ref f) ∧ PySem.W.keepIn K (.ref f) = true ∧ Binds K fd ps []
theorem Av.mono {P : Program} {w : World} {K : PySem.W.Frag} {mg : Str → Option Value} {base : Heap} {j k : Nat} {x : Str} {ps : List Str} {fr : Bool} {F : List D → Res D} (h : Av P w K mg base j x ps fr F) (hj : j ≤ k) : Av P w K mg base k x ps fr F :=
  let ⟨f, fd, a, b⟩ := h.ex
  ⟨f, fd, a.mono hj, b⟩
section
variable {X : Cx} {k : Nat} {x : Str} {ps : List Str} {fr : Bool} {F : List D → Res D} {e : Expr} {es : List Expr} {p pos : Pos} {g : Sl → Res (List D)}
theorem Av.call {n : Nat} (A : Av X.prog X.w X.K X.mg X.base k x ps fr F) (hr : Room k X.A) (ha : DA X .s (e :: es) g) (hn : ps.length = n := by rfl) (hg : Gl X x := by rfl) (hdb : (x == ("__debug__" : Str)) = false := by decide)
    (he : starEach (e :: es) X.env = (false, eval e X.env) :: starEach es X.env := by exact star_plain rfl) (hpl : (backTo pos (starEach es X.env)).any (·.1) = false := by exact any_plain rfl) : DE X .s (.Call (.Name x p) (e :: es) [] pos) (callF n F g) := by
  subst hn
  obtain ⟨f, fd, h1, h2, h3, h4⟩ := A.ex
  exact de_call h1 hr hg h2 h3 h4 pass0 ha hdb he hpl
theorem Av.callT {n : Nat} (A : Av X.prog X.w X.K X.mg X.base k x ps true F) (hr : Room k X.A) (ha : DA X .s (e :: es) g) (hn : ps.length = n := by rfl) (hg : Gl X x := by rfl) (hdb : (x == ("__debug__" : Str)) = false := by decide)
    (he : starEach (e :: es) X.env = (false, eval e X.env) :: starEach es X.env := by exact star_plain rfl) (hpl : (backTo pos (starEach es X.env)).any (·.1) = false := by exact any_plain rfl) : DE X .t (.Call (.Name x p) (e :: es) [] pos) (callF n F g) := by
  subst hn
  obtain ⟨f, fd, h1, h2, h3, h4⟩ := A.ex
  exact de_callT h1 hr hg h2 h3 h4 pass0 ha hdb he hpl
end
/-- what a body tells of arguments -/
def runF (fr : Bool) (n : Nat) (g : Sl → Res Out) (ds : List D) : Res D := match g (startE n ds) with
  | .ok (.rt fr' d) => if fr = true ∧ fr' = false then .stuck else .ok d
  | .ok (.nx _) => .ok .non
  | _ => .stuck
theorem runF_meets {fr : Bool} {n : Nat} {g : Sl → Res Out} {ds : List D} {d : D} (h : runF fr n g ds = .ok d) : Meets fr n g ds d := by
  unfold runF at h
  split at h
  · rename_i fr' d' e
    split at h
    · cases h
    · rename_i hn
      cases h
      refine .inl ⟨fr', e, fun hf => ?_⟩
      cases fr' with
      | true => rfl
      | false => exact absurd ⟨hf, rfl⟩ hn
  · rename_i env' e
    cases h
    exact .inr ⟨rfl, env', e⟩
  · cases h
section
variable {P : Program} {w : World} {K : PySem.W.Frag} {mg : Str → Option Value} {base : Heap}
/-- a def of the program by its body -/
theorem av_ok {x : Str} {st : Stmt} {f : Addr} {fd : FuncData} {N ps : List Str} {k : Nat} (fr : Bool) {g : Sl → Res Out} (Fu : Fun K x x st f fd) (hmg : mg x = some (.ref f)) (S : FnScope N ps (defScope st)) (hbi : Binds K fd ps [])
    (hb : ∀ (cdv : Value) (A : Around) (outer : List Env) (s : Shared) (H : Hp) (E : XK), Room k (A.deeper (envOfC x (defScope st) s.heap.objs.size f cdv)) → DSs (cxOf CX0 P w K mg base N x (defScope st) f cdv A outer s H E).nox (defBody st) g) :
    Av P w K mg base (k + 1) x ps fr (runF fr N.length g) :=
  ⟨f, fd, fn_ok Fu S hb fun ds d _ h => runF_meets h, hmg, Fu.kp, hbi⟩
/-- no calls left -/
theorem av_zero {x : Str} {st : Stmt} {f : Addr} {fd : FuncData} {ps : List Str} {k : Nat} (fr : Bool) (Fu : Fun K x x st f fd) (hmg : mg x = some (.ref f)) (hbi : Binds K fd ps []) : Av P w K mg base k x ps fr (fun _ => .stuck) :=
  ⟨f, fd, ⟨fun vs H Q E ⟨B, ds, d, hl, _⟩ => hl, fun A outer s H args us vs Q E _ _ _ _ ⟨B, ds, d, _, _, e, _⟩ => by cases e⟩, hmg, Fu.kp, hbi⟩
end

/-- the def's own promise -/
theorem fn_of_body {P : Program} {w : World} {K : PySem.W.Frag} {mg : Str → Option Value} {base : Heap} {x : Str} {st : Stmt} {f : Addr} {fd : FuncData} {N ps : List Str} {k : Nat} (fr : Bool) {g : Sl → Res Out} (Fu : Fun K x x st f fd) (S : FnScope N ps (defScope st))
    (hb : ∀ (cdv : Value) (A : Around) (outer : List Env) (s : Shared) (H : Hp) (E : XK), Room k (A.deeper (envOfC x (defScope st) s.heap.objs.size f cdv)) → DSs (cxOf CX0 P w K mg base N x (defScope st) f cdv A outer s H E).nox (defBody st) g) :
    FnOk P w K mg base CX0 (k + 1) f fd ps (spF K fr ps.length (runF fr N.length g)) := fn_ok Fu S hb fun ds d _ h => runF_meets h

/-- a place of a slot's list -/
theorem de_ixO {X : Cx} {l2 : Lv} {b : Expr} {f2 : Sl → Res D} {p pos : Pos} (i : Nat) {x : Str} (hb : DE X l2 b f2) (hN : X.N[i]? = some x := by rfl) (hv : Vis X.env.scope x := by first | exact Or.inl rfl | exact Or.inr (Or.inl rfl) | exact Or.inr (Or.inr rfl))
    (hd : (x == ("__debug__" : Str)) = false := by decide) (hcd : (x == ("__classdict__" : Str)) = false := by decide) (hs : PlainIx b := by intro _ _; rfl) : DE X .s (.Subscript (.Name x p) b pos) (two (rdB i) f2 ixD) := by
 with_unfolding_all exact (
  PE.imp (pe_ix ix_seq (pe_var hN hv hd hcd) hb hs) fun σ H Q ⟨G, H0, env, d, k, ef, q⟩ => by
    obtain ⟨a', e1, ef⟩ := bind_inv ef
    obtain ⟨b', e2, e3⟩ := bind_inv ef
    rcases rdB_inv e1 with z | z
    · obtain ⟨v, h1, h2⟩ := k.shr i a' z
      exact ⟨v, h1, G, H0, env, b', k, e2, fun y H2 s2 r2 _ => og_ix (h2.grow s2) (r2.weak Lv.weak_b) e3 fun v r3 => q v H2 s2 r3 trivial⟩
    · obtain ⟨v, h1, h0, h2⟩ := k.own i a' z
      refine ⟨_, h1, G, H0, env, b', k, e2, fun y H2 s2 r2 _ => ?_⟩
      have h3 := (k.grow s2).own i a' z
      obtain ⟨v2, g1, _, g2⟩ := h3
      rw [h1] at g1; cases g1
      cases g2 with
      | lst e r =>
        cases b' with
        | int j =>
          cases (r2.weak (A' := Any) Lv.weak_b).intE
          unfold ixD at e3; dsimp only at e3
          cases e5 : atI _ j with
          | none => rw [e5] at e3; cases e3
          | some d' =>
            rw [e5] at e3; cases e3
            obtain ⟨v', e6, r6⟩ := atI_rep r e5
            exact .inl ⟨_, _, j, v', rfl, rfl, .of e, e6, q v' H2 s2 r6 trivial⟩
        | _ => cases e3
      | dic e _ _ r => cases b' <;> cases e3
      | dit e _ _ r => cases b' <;> cases e3)
theorem boot_listG : bootBuiltins "list" = some (.type "list") := by decide +kernel

/-! ### a comprehension's scope, looked at by program -/
def capOk (N0 : List Str) (sc0 scope : Scope) (N : List Str) (m : Nat) (js : List Nat) : Bool := (List.range js.length).all fun k => match N[m + k]?, (js[k]?).bind (N0[·]?) with
  | some y, some y' => y == y' && (sc0.names.lookup y == some .cell || sc0.names.lookup y == some .free) && scope.names.lookup y == some .free
  | _, _ => false
def scOk (N0 : List Str) (sc0 scope : Scope) (cl : List (Str × Addr)) (N : List Str) (m : Nat) (js : List Nat) : Bool :=
  (scope.names.all fun x => x.2 != .local || scope.names.lookup x.1 == some .local) && (scope.names.all fun x => x.2 != .cell) && (scope.names.all fun y => y.2 != .free || cl.any fun p => p.1 == y.1) &&
    capOk N0 sc0 scope N m js && (match N[m + js.length]? with
      | some y => scope.names.all fun p => p.1 != y
      | none => true) && N.length == m + js.length + 1
theorem any_lookup {cl : List (Str × Addr)} {y : Str} (h : (cl.any fun p => p.1 == y) = true) : ∃ c, cl.lookup y = some c := by
  induction cl with
  | nil => cases h
  | cons p r ih =>
    obtain ⟨n, c⟩ := p
    rw [List.any_cons, Bool.or_eq_true] at h
    simp only [List.lookup_cons]
    cases e : y == n with
    | true => exact ⟨c, rfl⟩
    | false =>
      rcases h with h | h
      · have : n = y := by simpa using h
        subst this
        simp at e
      · exact ih h
theorem comp_sc {X : Cx} {scope : Scope} {cl : List (Str × Addr)} {N : List Str} {m : Nat} {js : List Nat} (clos : closureFor scope X.env = pure cl) (kind : scope.kind = .function) (nd : N.Nodup) (cl2 : ∀ p ∈ cl, X.env.cells.lookup p.1 = some p.2)
    (h : scOk X.N X.env.scope scope cl N m js = true) : CompSc X scope cl N m js := by
  simp only [scOk, Bool.and_eq_true, List.all_eq_true, beq_iff_eq] at h
  obtain ⟨⟨⟨⟨⟨h1, h2⟩, h3⟩, h4⟩, h5⟩, h6⟩ := h
  refine ⟨clos, kind, fun x hx e => ?_, fun y hy e => ?_, fun x c e => cl2 (x, c) (PySem.mem_of_lookup e), fun y hy e => ?_, nd, h6, fun k j e => ?_, fun y e p hp => ?_⟩
  · have := h1 x hx
    rw [e] at this
    simpa using this
  · have := h2 y hy
    rw [e] at this
    simp at this
  · have := h3 y hy
    rw [e] at this
    exact any_lookup (by simpa using this)
  · have hk : k < js.length := (List.getElem?_eq_some_iff.mp e).1
    have := List.all_eq_true.mp h4 k (List.mem_range.mpr hk)
    rw [e] at this
    simp only [Option.bind_some] at this
    cases e1 : N[m + k]? with
    | none => rw [e1] at this; cases this
    | some y =>
      cases e2 : X.N[j]? with
      | none => rw [e1, e2] at this; cases this
      | some y' =>
        rw [e1, e2] at this
        simp only [Bool.and_eq_true, Bool.or_eq_true, beq_iff_eq] at this
        obtain ⟨⟨g1, g2⟩, g3⟩ := this
        subst g1
        exact ⟨y, rfl, rfl, g2, g3⟩
  · rw [e] at h5
    have := List.all_eq_true.mp h5 p hp
    simpa using this
end M

set_option Elab.async false
set_option linter.all false
namespace M
open PySem PySem.Spec L2
/-! ### loops of data, by a step on what they carry -/
theorem forD_go {body : D → Sl → Res Out} {d : D} {ds : List D} {env env' : Sl} (h : body d env = .ok (.nx env')) : forD body (d :: ds) env = forD body ds env' := by
  show (body d env >>= _) = _
  rw [h]; rfl
/-- every turn goes on -/
theorem forD_fold {α : Type} {body : D → Sl → Res Out} (E : α → Sl) (step : α → D → α) (P : List D → α → Prop)
    (hb : ∀ d ds a, P (d :: ds) a → body d (E a) = .ok (.nx (E (step a d))) ∧ P ds (step a d)) : ∀ (ds : List D) (a : α), P ds a → forD body ds (E a) = .ok (.nx (E (ds.foldl step a)))
  | [], a, _ => rfl
  | d :: ds, a, h => by
    obtain ⟨h1, h2⟩ := hb d ds a h
    rw [forD_go h1, forD_fold E step P hb ds _ h2]; rfl
/-- a comprehension without a test, one name -/
theorem compD_map {n : Nat} {t : D → Sl → Res Sl} {fe : Sl → Res D} {E : D → List D → Sl} (h : D → D) (P : D → Prop)
    (hn : ∀ x acc, ownL n (E x acc) = .ok acc) (hs : ∀ x acc acc', (E x acc).set n (.own (.lst acc')) = E x acc')
    (ht : ∀ x d acc, t d (E x acc) = .ok (E d acc)) (hf : ∀ d acc, P d → fe (E d acc) = .ok (h d)) :
    ∀ (ds : List D) (x : D) (acc : List D), (∀ d ∈ ds, P d) → acc.length + ds.length ≤ sizeLine → ∃ y, compD n t trueB fe ds (E x acc) = .ok (E y (acc ++ ds.map h))
  | [], x, acc, _, _ => ⟨x, by simp [compD]⟩
  | d :: ds, x, acc, hP, hl => by
    simp only [List.length_cons] at hl
    obtain ⟨y, hy⟩ := compD_map h P hn hs ht hf ds d (acc ++ [h d]) (fun e he => hP e (by simp [he])) (by simp only [List.length_append, List.length_cons, List.length_nil]; omega)
    refine ⟨y, ?_⟩
    have h1 : compD n t trueB fe (d :: ds) (E x acc) = compD n t trueB fe ds (E d (acc ++ [h d])) := by
      show (t d (E x acc) >>= _) = _
      rw [ht]
      show (fe (E d acc) >>= _) = _
      rw [hf d acc (hP d (by simp))]
      show (ownL n (E d acc) >>= _) = _
      rw [hn]
      show must _ _ = _
      rw [must_pos (by omega), hs]
    rw [h1, hy]; simp
/-- [f(x) for x in ds] with no name from without -/
theorem comp0 {fi : Sl → Res (List D)} {fe : Sl → Res D} {env : Sl} {ds : List D} (h : D → D) (P : D → Prop) (hi : fi env = .ok ds) (hP : ∀ d ∈ ds, P d) (hl : ds.length ≤ sizeLine)
    (hf : ∀ d acc, P d → fe [.shr d, .own (.lst acc)] = .ok (h d)) : compO false 1 [] fi (gN 0) trueB fe env = .ok (.lst (ds.map h)) := by
  show (fi env >>= _) = _
  rw [hi]
  show (compD 1 (gN 0) trueB fe ds [.un, .own (.lst [])] >>= _) = _
  cases ds with
  | nil => rfl
  | cons d ds =>
    simp only [List.length_cons] at hl
    obtain ⟨y, hy⟩ := compD_map (n := 1) (t := gN 0) (fe := fe) (E := fun x acc => [.shr x, .own (.lst acc)]) h P (fun _ _ => rfl) (fun _ _ _ => rfl) (fun _ _ _ => rfl) hf ds d [h d] (fun e he => hP e (by simp [he])) (by simp only [List.length_cons, List.length_nil]; omega)
    have h1 : compD 1 (gN 0) trueB fe (d :: ds) [.un, .own (.lst [])] = compD 1 (gN 0) trueB fe ds [.shr d, .own (.lst [h d])] := by
      show (fe [.shr d, .own (.lst [])] >>= _) = _
      rw [hf d [] (hP d (by simp))]
      exact must_pos (c := ([] : List D).length < sizeLine) (by simp only [List.length_nil]; omega)
    rw [h1, hy]; rfl
end M
namespace M
open PySem PySem.Spec L2
/-! ### evaluating -/
variable {env env' : Sl} {f f1 f2 f3 : Sl → Res D} {g g1 g2 : Sl → Res Out} {t t1 t2 : Sl → Res Bool} {fa : Sl → Res (List D)} {i : Nat} {d : D} {b : Bool}
@[simp] theorem ev_ok {α β : Type} {a : α} {f : α → Res β} : (Res.ok a >>= f) = f a := rfl
@[simp] theorem ev_stuck {α β : Type} {f : α → Res β} : ((Res.stuck : Res α) >>= f) = .stuck := rfl
@[simp] theorem ev_ite {α β : Type} {c : Prop} [Decidable c] {a b : Res α} {f : α → Res β} : ((if c then a else b) >>= f) = if c then a >>= f else b >>= f := by split <;> rfl
def outK (g : Sl → Res Out) : Out → Res Out
  | .nx e => g e
  | o => .ok o
@[simp] theorem outK_nx : outK g (.nx env) = g env := rfl
@[simp] theorem outK_rt {fr : Bool} : outK g (.rt fr d) = .ok (.rt fr d) := rfl
@[simp] theorem ev_seq : seqO g1 g2 env = (g1 env >>= outK g2) := by
  show (g1 env >>= _) = _
  congr 1; funext o; cases o <;> rfl
@[simp] theorem ev_setO : setO i f env = (f env >>= fun d => .ok (.nx (env.set i (slotN d)))) := rfl
@[simp] theorem ev_setOs : setOs i f env = (f env >>= fun d => .ok (.nx (env.set i (.shr d)))) := rfl
@[simp] theorem ev_retO : retO f env = (f env >>= fun d => .ok (.rt true d)) := rfl
@[simp] theorem ev_retS : retS f env = (f env >>= fun d => .ok (.rt false d)) := rfl
@[simp] theorem ev_nxO : nxO env = .ok (.nx env) := rfl
@[simp] theorem ev_ifO : ifO t g1 g2 env = (t env >>= fun b => if b = true then g1 env else g2 env) := rfl
@[simp] theorem ev_andB : andB t1 t2 env = (t1 env >>= fun b => if b = true then t2 env else .ok false) := rfl
@[simp] theorem ev_orB : orB t1 t2 env = (t1 env >>= fun b => if b = true then .ok true else t2 env) := rfl
@[simp] theorem ev_notB : notB t env = (t env >>= fun b => .ok (!b)) := rfl
def asBD : D → Res Bool
  | .bl b => .ok b
  | _ => .stuck
@[simp] theorem asBD_bl : asBD (.bl b) = .ok b := rfl
@[simp] theorem ev_asB : asB f env = (f env >>= asBD) := rfl
@[simp] theorem ev_two {h : D → D → Res D} : two f1 f2 h env = (f1 env >>= fun x => f2 env >>= fun y => h x y) := rfl
@[simp] theorem ev_cI {j : Int} : cI j env = .ok (.int j) := rfl
@[simp] theorem ev_cB : cB b env = .ok (.bl b) := rfl
@[simp] theorem ev_cN : cN env = .ok .non := rfl
@[simp] theorem ev_cS {x : Str} : cS x env = .ok (.str x) := rfl
@[simp] theorem ev_cons1 : cons1 f fa env = (f env >>= fun d => fa env >>= fun ds => .ok (d :: ds)) := rfl
@[simp] theorem ev_nil1 : nil1 env = .ok [] := rfl
@[simp] theorem ev_app {h : List D → Res D} : app fa h env = (fa env >>= h) := rfl
@[simp] theorem ev_callF {n : Nat} {F : List D → Res D} : callF n F fa env = (fa env >>= fun ds => must (ds.length = n) (F ds)) := rfl
@[simp] theorem ev_tupF : tupF fa env = (fa env >>= fun ds => must (ds.length ≤ sizeLine) (.ok (.tup ds))) := rfl
@[simp] theorem ev_lstF : lstF fa env = (fa env >>= fun ds => must (ds.length ≤ sizeLine) (.ok (.lst ds))) := rfl
@[simp] theorem ev_isiF {T : String} : isiF T f env = (f env >>= isiD T) := rfl
@[simp] theorem ev_notF : notF f env = (f env >>= notD) := rfl
@[simp] theorem ev_notD : notD (.bl b) = .ok (.bl !b) := rfl
@[simp] theorem ev_ifD : ifD t f1 f2 env = (t env >>= fun b => if b = true then f1 env else f2 env) := rfl
@[simp] theorem ev_itF : itF f env = (f env >>= iterD) := rfl
@[simp] theorem ev_forO {tt : D → Sl → Res Sl} {fi : Sl → Res (List D)} : forO fi tt g env = (fi env >>= fun ds => forD (turnD tt g) ds env) := rfl
@[simp] theorem ev_slice {fl fh : Sl → Res (Option Int)} {h : D → Option Int → Option Int → Res D} : slice3 f fl fh h env = (f env >>= fun a => fl env >>= fun lo => fh env >>= fun hi => h a lo hi) := rfl
@[simp] theorem ev_noneI : noneI env = .ok none := rfl
@[simp] theorem ev_someI : someI f env = (f env >>= asI) := rfl
@[simp] theorem ev_asI {j : Int} : asI (.int j) = .ok (some j) := rfl
@[simp] theorem ev_rdS : rdS i env = match env[i]? with | some (.shr d) => .ok d | _ => .stuck := rfl
@[simp] theorem ev_rdB : rdB i env = match env[i]? with | some (.shr d) => .ok d | some (.own d) => .ok d | _ => .stuck := rfl
def toK (g : Res D) (w : Bool) : D → Res D
  | .bl b => if b = w then g else .ok (.bl b)
  | _ => .stuck
@[simp] theorem toK_bl {r : Res D} {w : Bool} : toK r w (.bl b) = if b = w then r else .ok (.bl b) := rfl
@[simp] theorem ev_toB {w : Bool} : toB f1 f2 w env = (f1 env >>= toK (f2 env) w) := by
  show (f1 env >>= _) = _
  congr 1
def chK (f : Res D) (g' : D → D → Res D) (y : D) : D → Res D
  | .bl true => f >>= fun w => g' y w
  | .bl false => .ok (.bl false)
  | _ => .stuck
@[simp] theorem chK_bl {r : Res D} {h : D → D → Res D} {y : D} : chK r h y (.bl b) = if b = true then r >>= fun w => h y w else .ok (.bl false) := by cases b <;> rfl
@[simp] theorem ev_chain {h h' : D → D → Res D} : chain f1 f2 f3 h h' env = (f1 env >>= fun x => f2 env >>= fun y => h x y >>= chK (f3 env) h' y) := by
  show (f1 env >>= _) = _
  congr 1
@[simp] theorem ev_must {α : Type} {c : Prop} [Decidable c] {r : Res α} : must c r = if c then r else .stuck := rfl
@[simp] theorem ev_iOp {C : Int → Int → Prop} [∀ i j, Decidable (C i j)] {h : Int → Int → D} {m n : Int} : iOp C h (.int m) (.int n) = if C m n then .ok (h m n) else .stuck := rfl
def runK (fr : Bool) : Out → Res D
  | .rt fr' d => if fr = true ∧ fr' = false then .stuck else .ok d
  | .nx _ => .ok .non
  | _ => .stuck
theorem ev_run {fr : Bool} {n : Nat} {ds : List D} {o : Out} (h : g (startE n ds) = .ok o) : runF fr n g ds = runK fr o := by
  unfold runF; rw [h]; cases o <;> rfl
end M
namespace M
theorem whileD_go {n : Nat} {t : Sl → Res Bool} {g : Sl → Res Out} {env env' : Sl} (ht : t env = .ok true) (h : g env = .ok (.nx env')) : whileD (n + 1) t g env = whileD n t g env' := by
  rw [whileD, ht, ev_ok, if_pos rfl, h]; rfl
theorem whileD_rt {n : Nat} {t : Sl → Res Bool} {g : Sl → Res Out} {env : Sl} {fr : Bool} {d : D} (ht : t env = .ok true) (h : g env = .ok (.rt fr d)) : whileD (n + 1) t g env = .ok (.rt fr d) := by
  rw [whileD, ht, ev_ok, if_pos rfl, h]; rfl
theorem whileD_end {n : Nat} {t : Sl → Res Bool} {g : Sl → Res Out} {env : Sl} (ht : t env = .ok false) : whileD (n + 1) t g env = .ok (.nx env) := by
  rw [whileD, ht, ev_ok, if_neg (by simp)]
end M

set_option Elab.async false
set_option linter.all false
namespace M
open PySem PySem.Spec L2
/-! ### a thing as a tree: its places, how many parts and levels, its parts -/
def kids : D → List D
  | .tup (_ :: r) => r
  | _ => []
mutual
def num : D → Nat
  | .tup (_ :: r) => 1 + nums r
  | _ => 1
def nums : List D → Nat
  | [] => 0
  | d :: r => num d + nums r
end
mutual
def hgt : D → Nat
  | .tup (_ :: r) => 1 + hgts r
  | _ => 1
def hgts : List D → Nat
  | [] => 0
  | d :: r => max (hgt d) (hgts r)
end
mutual
def pts : D → List D
  | .tup (x :: r) => .tup (x :: r) :: ptss r
  | d => [d]
def ptss : List D → List D
  | [] => []
  | d :: r => pts d ++ ptss r
end
/-- no script within, no tuple of more than eleven -/
def noScr : D → Bool | .scr _ => false | .exn _ => false | _ => true
mutual
def fine : D → Bool
  | .scr _ => false
  | .exn _ => false
  | .tup ds => decide (ds.length ≤ 11) && fines ds
  | _ => true
def fines : List D → Bool
  | [] => true
  | d :: r => fine d && fines r
end
theorem num_eq (d : D) : num d = 1 + nums (kids d) := by
  cases d with
  | tup ds => cases ds <;> simp [num, kids, nums]
  | _ => simp [num, kids, nums]
theorem hgt_eq (d : D) : hgt d = 1 + hgts (kids d) := by
  cases d with
  | tup ds => cases ds <;> simp [hgt, kids, hgts]
  | _ => simp [hgt, kids, hgts]
theorem pts_eq (d : D) : pts d = d :: ptss (kids d) := by
  cases d with
  | tup ds => cases ds <;> simp [pts, kids, ptss]
  | _ => simp [pts, kids, ptss]
theorem nums_app (a b : List D) : nums (a ++ b) = nums a + nums b := by
  induction a with
  | nil => simp [nums]
  | cons d r ih => simp [nums, ih]; omega
theorem hgts_app (a b : List D) : hgts (a ++ b) = max (hgts a) (hgts b) := by
  induction a with
  | nil => simp [hgts]
  | cons d r ih => simp [hgts, ih]
theorem fine_scr {d : D} (h : fine d = true) : noScr d = true := by
  cases d <;> first | rfl | (simp [fine] at h)
theorem fines_mem : ∀ {ds : List D} {d : D}, fines ds = true → d ∈ ds → fine d = true
  | x :: r, d, h, hm => by
    simp only [fines, Bool.and_eq_true] at h
    rcases List.mem_cons.mp hm with rfl | hm
    · exact h.1
    · exact fines_mem h.2 hm
theorem fines_of : ∀ {ds : List D}, (∀ d ∈ ds, fine d = true) → fines ds = true
  | [], _ => rfl
  | x :: r, h => by simp only [fines, Bool.and_eq_true]; exact ⟨h x (by simp), fines_of fun d hd => h d (by simp [hd])⟩
theorem fine_kids {d : D} (h : fine d = true) : fines (kids d) = true ∧ (kids d).length ≤ 10 := by
  cases d with
  | tup ds =>
    cases ds with
    | nil => exact ⟨rfl, by simp [kids]⟩
    | cons x r =>
      simp only [fine, fines, Bool.and_eq_true, decide_eq_true_eq, List.length_cons] at h
      exact ⟨h.2.2, by simp only [kids]; omega⟩
  | _ => exact ⟨rfl, by simp [kids]⟩
/-- the level below -/
def below (row : List D) : List D := row.flatMap kids
theorem nums_below (row : List D) : nums row = row.length + nums (below row) := by
  induction row with
  | nil => rfl
  | cons d r ih =>
    have : below (d :: r) = kids d ++ below r := rfl
    rw [this, nums_app]
    simp only [nums, List.length_cons, ih, num_eq d]; omega
theorem hgts_below (row : List D) (h : row ≠ []) : hgts row = 1 + hgts (below row) := by
  induction row with
  | nil => exact absurd rfl h
  | cons d r ih =>
    have e : below (d :: r) = kids d ++ below r := rfl
    rw [e, hgts_app]
    simp only [hgts, hgt_eq d]
    cases r with
    | nil => simp [hgts, below]
    | cons x r => rw [ih (by simp)]; omega
theorem fines_below {row : List D} (h : fines row = true) : fines (below row) = true :=
  fines_of fun d hd => by
    obtain ⟨x, hx, hk⟩ := List.mem_flatMap.mp hd
    exact fines_mem (fine_kids (fines_mem h hx)).1 hk
theorem below_len {row : List D} (h : fines row = true) : (below row).length ≤ 10 * row.length := by
  induction row with
  | nil => simp [below]
  | cons d r ih =>
    simp only [fines, Bool.and_eq_true] at h
    have e : below (d :: r) = kids d ++ below r := rfl
    have := ih h.2
    have := (fine_kids h.1).2
    rw [e, List.length_append, List.length_cons]; omega
theorem num_pos (d : D) : 1 ≤ num d := by rw [num_eq]; omega
theorem hgt_pos (d : D) : 1 ≤ hgt d := by rw [hgt_eq]; omega
theorem len_nums (ds : List D) : ds.length ≤ nums ds := by rw [nums_below]; omega
mutual
theorem pts_len : ∀ d : D, (pts d).length = num d
  | .tup (x :: r) => by simp [pts, num, ptss_len r]; omega
  | .tup [] => by simp [pts, num]
  | .non => by simp [pts, num]
  | .bl _ => by simp [pts, num]
  | .int _ => by simp [pts, num]
  | .str _ => by simp [pts, num]
  | .lst _ => by simp [pts, num]
  | .scr _ => by simp [pts, num]
  | .dic _ _ => by simp [pts, num]
  | .dit _ _ => by simp [pts, num]
  | .exn _ => by simp [pts, num]
theorem ptss_len : ∀ ds : List D, (ptss ds).length = nums ds
  | [] => rfl
  | d :: r => by simp [ptss, nums, pts_len d, ptss_len r]
end
mutual
theorem pts_fine : ∀ d : D, fine d = true → fines (pts d) = true
  | .tup (x :: r), h => by
    have h2 := (fine_kids h).1
    simp only [kids] at h2
    simp only [pts, fines, Bool.and_eq_true]
    exact ⟨h, ptss_fine r h2⟩
  | .tup [], h => rfl
  | .non, h => rfl
  | .bl _, h => rfl
  | .int _, h => rfl
  | .str _, h => rfl
  | .lst _, h => rfl
  | .scr _, h => by simp [fine] at h
  | .dic _ _, h => rfl
  | .dit _ _, h => rfl
  | .exn _, h => by simp [fine] at h
theorem ptss_fine : ∀ ds : List D, fines ds = true → fines (ptss ds) = true
  | [], _ => rfl
  | d :: r, h => by
    simp only [fines, Bool.and_eq_true] at h
    refine fines_of fun e he => ?_
    rcases List.mem_append.mp (show e ∈ pts d ++ ptss r from he) with he | he
    · exact fines_mem (pts_fine d h.1) he
    · exact fines_mem (ptss_fine r h.2) he
end
end M
namespace M
open PySem PySem.Spec L2
theorem atI_nat {α : Type} {xs : List α} {k : Nat} : atI xs (k : Int) = xs[k]? := by
  unfold atI ixN
  by_cases h : k < xs.length
  · rw [if_pos (by omega), if_pos (by omega)]; simp
  · rw [if_pos (by omega), if_neg (by omega)]
    simp; omega
theorem ix0 {x : D} {r : List D} : ixD (.tup (x :: r)) (.int 0) = .ok x := by
  have := atI_nat (xs := x :: r) (k := 0)
  simp only [ixD]
  rw [show ((0 : Int)) = ((0 : Nat) : Int) from rfl, this]; rfl
end M

set_option Elab.async false
set_option linter.all false
set_option maxRecDepth 100000
set_option maxHeartbeats 4000000
namespace M
open PySem PySem.Spec L2
/-! ### one step at a time: what a piece tells, of what its pieces tell -/
section
variable {env env' : Sl} {f f1 f2 f3 : Sl → Res D} {g g1 g2 : Sl → Res Out} {t t1 t2 : Sl → Res Bool} {fa : Sl → Res (List D)} {i : Nat} {d x y z : D} {b : Bool} {ds : List D}
theorem two_ok {h : D → D → Res D} (h1 : f1 env = .ok x) (h2 : f2 env = .ok y) (h3 : h x y = .ok z) : two f1 f2 h env = .ok z := by rw [ev_two, h1, ev_ok, h2, ev_ok, h3]
theorem setOs_ok (h : f env = .ok d) : setOs i f env = .ok (.nx (env.set i (.shr d))) := by rw [ev_setOs, h]; rfl
theorem setO_ok (h : f env = .ok d) : setO i f env = .ok (.nx (env.set i (slotN d))) := by rw [ev_setO, h]; rfl
theorem retO_ok (h : f env = .ok d) : retO f env = .ok (.rt true d) := by rw [ev_retO, h]; rfl
theorem retS_ok (h : f env = .ok d) : retS f env = .ok (.rt false d) := by rw [ev_retS, h]; rfl
theorem seq_nx (h : g1 env = .ok (.nx env')) : seqO g1 g2 env = g2 env' := by rw [ev_seq, h]; rfl
theorem seq_rt {fr : Bool} (h : g1 env = .ok (.rt fr d)) : seqO g1 g2 env = .ok (.rt fr d) := by rw [ev_seq, h]; rfl
theorem if_t (h : t env = .ok true) : ifO t g1 g2 env = g1 env := by rw [ev_ifO, h]; rfl
theorem if_f (h : t env = .ok false) : ifO t g1 g2 env = g2 env := by rw [ev_ifO, h]; rfl
theorem cons_ok (h1 : f env = .ok d) (h2 : fa env = .ok ds) : cons1 f fa env = .ok (d :: ds) := by rw [ev_cons1, h1, ev_ok, h2]; rfl
theorem app_ok {h : List D → Res D} (h1 : fa env = .ok ds) (h2 : h ds = .ok d) : app fa h env = .ok d := by rw [ev_app, h1, ev_ok, h2]
theorem call_ok {n : Nat} {F : List D → Res D} (h1 : fa env = .ok ds) (hn : ds.length = n) (h2 : F ds = .ok d) : callF n F fa env = .ok d := by rw [ev_callF, h1, ev_ok, must_pos hn, h2]
theorem tup_ok (h1 : fa env = .ok ds) (hn : ds.length ≤ sizeLine) : tupF fa env = .ok (.tup ds) := by rw [ev_tupF, h1, ev_ok, must_pos hn]
theorem lst_ok (h1 : fa env = .ok ds) (hn : ds.length ≤ sizeLine) : lstF fa env = .ok (.lst ds) := by rw [ev_lstF, h1, ev_ok, must_pos hn]
theorem asB_ok (h : f env = .ok (.bl b)) : asB f env = .ok b := by rw [ev_asB, h]; rfl
theorem or_ok {b2 : Bool} (h1 : t1 env = .ok b) (h2 : t2 env = .ok b2) : orB t1 t2 env = .ok (b || b2) := by rw [ev_orB, h1, ev_ok, h2]; cases b <;> rfl
theorem and_ok {b2 : Bool} (h1 : t1 env = .ok b) (h2 : t2 env = .ok b2) : andB t1 t2 env = .ok (b && b2) := by rw [ev_andB, h1, ev_ok, h2]; cases b <;> rfl
theorem notB_ok (h1 : t1 env = .ok b) : notB t1 env = .ok (!b) := by rw [ev_notB, h1]; rfl
theorem append_ok (h1 : ownL i env = .ok ds) (h2 : f env = .ok d) (h3 : ds.length < sizeLine) : appendO i f env = .ok (.nx (env.set i (.own (.lst (ds ++ [d]))))) := by
  show (ownL i env >>= _) = _
  rw [h1]
  show (f env >>= _) = _
  rw [h2]
  exact must_pos h3
theorem slice_ok {fl fh : Sl → Res (Option Int)} {h : D → Option Int → Option Int → Res D} {lo hi : Option Int} (h1 : f env = .ok x) (h2 : fl env = .ok lo) (h3 : fh env = .ok hi) (h4 : h x lo hi = .ok z) : slice3 f fl fh h env = .ok z := by
  rw [ev_slice, h1, ev_ok, h2, ev_ok, h3, ev_ok, h4]
theorem someI_ok {j : Int} (h : f env = .ok (.int j)) : someI f env = .ok (some j) := by rw [ev_someI, h]; rfl
theorem for_ok {tt : D → Sl → Res Sl} {fi : Sl → Res (List D)} (h : fi env = .ok ds) : forO fi tt g env = forD (turnD tt g) ds env := by rw [ev_forO, h]; rfl
theorem itF_ok (h : f env = .ok d) (h2 : iterD d = .ok ds) : itF f env = .ok ds := by rw [ev_itF, h, ev_ok, h2]
theorem chk_ok (h : f env = .ok d) (hd : d.imm = true) : chk f env = .ok d := by
  show (f env >>= _) = _
  rw [h]; exact must_pos hd
theorem sm_ok {zz : Str} {h : Str → List D → Res D} (h1 : f env = .ok (.str zz)) (h2 : fa env = .ok ds) (h3 : h zz ds = .ok d) : smF f fa h env = .ok d := by
  show (f env >>= _) = _
  rw [h1]
  show (fa env >>= _) = _
  rw [h2]; exact h3
end
theorem iOp_ok {C : Int → Int → Prop} [∀ i j, Decidable (C i j)] {g : Int → Int → D} {i j : Int} (h : C i j) : iOp C g (.int i) (.int j) = .ok (g i j) := if_pos h
theorem pow_ok {i j : Int} (h : PowC i j) : powI (.int i) (.int j) = .ok (.int (i ^ j.toNat)) := iOp_ok h
theorem mul_ok {i j : Int} (h : MulC i j) : mulI (.int i) (.int j) = .ok (.int (i * j)) := iOp_ok h
theorem mod_ok {i j : Int} (h : 0 < j) : modI (.int i) (.int j) = .ok (.int (i % j)) := iOp_ok (C := PosC) h
theorem turn_ok {t : D → Sl → Res Sl} {g : Sl → Res Out} {d : D} {env env' : Sl} (h : t d env = .ok env') : turnD t g d env = g env' := by
  show (t d env >>= g) = _
  rw [h]; rfl
theorem run_t {fr : Bool} {n : Nat} {g : Sl → Res Out} {ds : List D} {d : D} (h : g (startE n ds) = .ok (.rt true d)) : runF fr n g ds = .ok d := by rw [ev_run h]; simp [runK]
theorem run_f {n : Nat} {g : Sl → Res Out} {ds : List D} {d : D} (h : g (startE n ds) = .ok (.rt false d)) : runF false n g ds = .ok d := by rw [ev_run h]; simp [runK]
theorem rng1_ok {fa : Sl → Res (List D)} {env : Sl} {j : Int} (h : fa env = .ok [.int j]) (hb : -(2 ^ 62) ≤ j ∧ j < 2 ^ 62) : rngF fa env = .ok (intsD 0 j.toNat) := by
  show (fa env >>= rng1) = _
  rw [h]; exact must_pos hb
theorem rng2_ok {fa : Sl → Res (List D)} {env : Sl} {i j : Int} (h : fa env = .ok [.int i, .int j]) (hb : (-(2 ^ 62) ≤ i ∧ i < 2 ^ 62) ∧ -(2 ^ 62) ≤ j ∧ j < 2 ^ 62) : rng2F fa env = .ok (intsD i (j - i).toNat) := by
  show (fa env >>= rng2) = _
  rw [h]; exact must_pos hb
theorem add_tup {a b : List D} (h1 : a.isEmpty = false) (h2 : a.length + b.length ≤ sizeLine) : addD (.tup a) (.tup b) = .ok (.tup (a ++ b)) := must_pos (c := _ ∧ _) ⟨h1, h2⟩
theorem eqR_int {a b : Int} : eqR (.int a) (.int b) = .ok (.bl (a == b)) := by
  unfold eqR
  rw [must_pos (by left; simp [D.eqb, D.dep])]; simp [eqD]
theorem forD_inv {body : D → Sl → Res Out} (I : List D → Sl → Prop)
    (hb : ∀ d ds env, I (d :: ds) env → ∃ env', body d env = .ok (.nx env') ∧ I ds env') : ∀ (ds : List D) (env : Sl), I ds env → ∃ env', forD body ds env = .ok (.nx env') ∧ I [] env'
  | [], env, h => ⟨env, rfl, h⟩
  | d :: ds, env, h => by
    obtain ⟨e1, h1, h2⟩ := hb d ds env h
    obtain ⟨e2, h3, h4⟩ := forD_inv I hb ds e1 h2
    exact ⟨e2, by rw [forD_go h1, h3], h4⟩
theorem intsD_zero (lo : Int) : intsD lo 0 = [] := rfl
theorem intsD_succ (lo : Int) (n : Nat) : intsD lo (n + 1) = .int lo :: intsD (lo + 1) n := by
  unfold intsD
  rw [List.range_succ_eq_map, List.map_cons, List.map_map]
  congr 1
  · simp
  · apply List.map_congr_left
    intro i _
    simp only [Function.comp_apply]
    congr 1
    omega
theorem mem_intsD {lo : Int} {n : Nat} {d : D} (h : d ∈ intsD lo n) : ∃ k : Int, d = .int k ∧ lo ≤ k ∧ k < lo + n := by
  unfold intsD at h
  obtain ⟨i, hi, e⟩ := List.mem_map.mp h
  have := List.mem_range.mp hi
  exact ⟨_, e.symm, by omega, by omega⟩
theorem intsD_len (lo : Int) (n : Nat) : (intsD lo n).length = n := by simp [intsD]
theorem atI_in {α : Type} {xs : List α} {i : Int} (h0 : 0 ≤ i) (h1 : i < xs.length) : ∃ x, atI xs i = some x ∧ x ∈ xs := by
  obtain ⟨k, rfl⟩ := Int.eq_ofNat_of_zero_le h0
  have hk : k < xs.length := by omega
  exact ⟨xs[k], by rw [M.atI_nat]; exact List.getElem?_eq_getElem hk, List.getElem_mem hk⟩
theorem ixS {z : Str} {i : Int} (h0 : 0 ≤ i) (h1 : i < z.length) : ∃ c, ixD (.str z) (.int i) = .ok (.str ⟨#[c]⟩) := by
  obtain ⟨c, hc, _⟩ := atI_in (xs := z.cps.toList) h0 (by simpa [Str.length] using h1)
  exact ⟨c, by simp only [ixD]; rw [hc]⟩
theorem ixL {ds : List D} {i : Int} (h0 : 0 ≤ i) (h1 : i < ds.length) : ∃ d, ixD (.lst ds) (.int i) = .ok d ∧ d ∈ ds := by
  obtain ⟨c, hc, hm⟩ := atI_in (xs := ds) h0 h1
  exact ⟨c, by simp only [ixD]; rw [hc], hm⟩
/-! ### whole numbers -/
open Builtin.Int (intBits)
def NumR (f : Sl → Res D) (env : Sl) (B : Nat) : Prop := ∃ m : Int, f env = .ok (.int m) ∧ intBits m ≤ B
theorem num_add {f1 f2 : Sl → Res D} {env : Sl} {a b : Nat} (h1 : NumR f1 env a) (h2 : NumR f2 env b) : NumR (two f1 f2 addD) env (max a b + 1) := by
  obtain ⟨m, e1, b1⟩ := h1
  obtain ⟨n, e2, b2⟩ := h2
  exact ⟨m + n, two_ok e1 e2 rfl, intBits_add_le b1 b2⟩
theorem num_mul {f1 f2 : Sl → Res D} {env : Sl} {a b : Nat} (h1 : NumR f1 env a) (h2 : NumR f2 env b) (h : a + b ≤ 134217728) : NumR (two f1 f2 mulI) env (a + b) := by
  obtain ⟨m, e1, b1⟩ := h1
  obtain ⟨n, e2, b2⟩ := h2
  exact ⟨m * n, two_ok e1 e2 (mul_ok (Nat.le_trans (Nat.add_le_add b1 b2) h)), intBits_mul_le b1 b2⟩
theorem num_pow {i : Int} {k a : Nat} {env : Sl} (hi : intBits i ≤ a) (h1 : k ≤ 1000000) (h2 : i.natAbs < 2 ^ 64) : NumR (two (cI i) (cI (k : Int)) powI) env (a * k + 1) :=
  ⟨i ^ ((k : Int)).toNat, two_ok rfl rfl (pow_ok ⟨by omega, by omega, h2⟩), by rw [Int.toNat_natCast]; exact intBits_pow_le hi k⟩
theorem num_c {j : Int} {B : Nat} {env : Sl} (hb : intBits j ≤ B) : NumR (cI j) env B := ⟨j, rfl, hb⟩
theorem num_rd {i : Nat} {m : Int} {B : Nat} {env : Sl} (h : rdS i env = .ok (.int m)) (hb : intBits m ≤ B) : NumR (rdS i) env B := ⟨m, h, hb⟩
/-! ### a comprehension with one name from without -/
theorem comp1 {fi : Sl → Res (List D)} {fe : Sl → Res D} {env : Sl} {ds : List D} {j : Nat} {c : Slot} (hc : capS false env j = c) (h : D → D) (P : D → Prop) (hi : fi env = .ok ds) (hP : ∀ d ∈ ds, P d) (hl : ds.length ≤ sizeLine)
    (hf : ∀ d acc, P d → fe [.shr d, c, .own (.lst acc)] = .ok (h d)) : compO false 1 [j] fi (gN 0) trueB fe env = .ok (.lst (ds.map h)) := by
  show (fi env >>= _) = _
  rw [hi]
  show (compD 2 (gN 0) trueB fe ds [.un, capS false env j, .own (.lst [])] >>= _) = _
  rw [hc]
  cases ds with
  | nil => rfl
  | cons d ds =>
    simp only [List.length_cons] at hl
    obtain ⟨y, hy⟩ := compD_map (n := 2) (t := gN 0) (fe := fe) (E := fun x acc => [.shr x, c, .own (.lst acc)]) h P (fun _ _ => rfl) (fun _ _ _ => rfl) (fun _ _ _ => rfl) hf ds d [h d] (fun e he => hP e (by simp [he])) (by simp only [List.length_cons, List.length_nil]; omega)
    have h1 : compD 2 (gN 0) trueB fe (d :: ds) [.un, c, .own (.lst [])] = compD 2 (gN 0) trueB fe ds [.shr d, c, .own (.lst [h d])] := by
      show (fe [.shr d, c, .own (.lst [])] >>= _) = _
      rw [hf d [] (hP d (by simp))]
      exact must_pos (c := ([] : List D).length < sizeLine) (by simp only [List.length_nil]; omega)
    rw [h1, hy]; rfl
/-! ### trees -/
theorem hgts_le {k : Nat} : ∀ {ds : List D}, (∀ d ∈ ds, hgt d ≤ k) → hgts ds ≤ k
  | [], _ => by simp [hgts]
  | d :: ds, h => by
    simp only [hgts]
    have := h d (by simp)
    have := hgts_le (ds := ds) fun e he => h e (by simp [he])
    omega
theorem hgts_mem : ∀ {ds : List D} {d : D}, d ∈ ds → hgt d ≤ hgts ds
  | x :: r, d, h => by
    simp only [hgts]
    rcases List.mem_cons.mp h with rfl | h
    · omega
    · have := hgts_mem h; omega
mutual
theorem num_hgt : ∀ d : D, fine d = true → num d ≤ 11 ^ hgt d
  | .tup (x :: r), h => by
    have hk := fine_kids h
    simp only [kids] at hk
    have := nums_hgt r hk.1
    simp only [num, hgt, Nat.pow_add]
    have h1 : 1 ≤ 11 ^ hgts r := Nat.one_le_pow _ _ (by decide)
    have h2 : r.length * 11 ^ hgts r ≤ 10 * 11 ^ hgts r := Nat.mul_le_mul_right _ hk.2
    omega
  | .tup [], _ => by simp [num, hgt]
  | .non, _ => by simp [num, hgt]
  | .bl _, _ => by simp [num, hgt]
  | .int _, _ => by simp [num, hgt]
  | .str _, _ => by simp [num, hgt]
  | .lst _, _ => by simp [num, hgt]
  | .scr _, _ => by simp [num, hgt]
  | .dic _ _, _ => by simp [num, hgt]
  | .dit _ _, _ => by simp [num, hgt]
  | .exn _, _ => by simp [num, hgt]
theorem nums_hgt : ∀ ds : List D, fines ds = true → nums ds ≤ ds.length * 11 ^ hgts ds
  | [], _ => by simp [nums]
  | d :: r, h => by
    simp only [fines, Bool.and_eq_true] at h
    have h1 := num_hgt d h.1
    have h2 := nums_hgt r h.2
    simp only [nums, hgts, List.length_cons, Nat.succ_mul]
    have h3 : 11 ^ hgt d ≤ 11 ^ max (hgt d) (hgts r) := Nat.pow_le_pow_right (by decide) (by omega)
    have h4 : r.length * 11 ^ hgts r ≤ r.length * 11 ^ max (hgt d) (hgts r) := Nat.mul_le_mul_left _ (Nat.pow_le_pow_right (by decide) (by omega))
    omega
end
end M

set_option Elab.async false
set_option linter.all false
set_option maxRecDepth 100000
set_option maxHeartbeats 4000000
namespace M
open PySem PySem.Spec L2
open PyProof.Rows hiding St
/-! ### dicts whose keys are ints and texts -/
def keyD : D → Option Key
  | .int i => some (.inl i)
  | .str x => some (.inr x)
  | _ => none
def hasK (ks : List Key) (k : Key) : Bool := ks.any fun x => decide (x = k)
def valD (ks : List Key) (ds : List D) (k : Key) : Option D := ((ks.zip ds).find? fun p => decide (p.1 = k)).map (·.2)
def putKs (ks : List Key) (k : Key) : List Key := if hasK ks k = true then ks else ks ++ [k]
def putDs (ks : List Key) (ds : List D) (k : Key) (d : D) : List D := if hasK ks k = true then (ks.zip ds).map (fun p => if p.1 = k then d else p.2) else ds ++ [d]
section
variable {K : PySem.W.Frag} {A : Addr → Prop} {H : Hp}
theorem rep_val : ∀ {kvs : List (Key × V)} {ds : List D} (k : Key), Reps K A H (kvs.map (·.2)) ds → (∀ d, valD (kvs.map (·.1)) ds k = some d → ∃ v, valV kvs k = some v ∧ Rep K A H v d) ∧ (valD (kvs.map (·.1)) ds k = none → valV kvs k = none)
  | [], ds, k, r => ⟨fun d h => by simp [valD] at h, fun _ => rfl⟩
  | (k', v) :: kvs, ds, k, r => by
    cases r with
    | @cons _ _ _ d' _ ds' r1 r2 =>
      have ih := rep_val (kvs := kvs) (ds := ds') k r2
      by_cases hk : k' = k
      · subst hk
        have e1 : valD ((((k', v) :: kvs)).map (·.1)) (d' :: ds') k' = some d' := by simp [valD]
        have e2 : valV ((k', v) :: kvs) k' = some v := by simp [valV]
        rw [e1, e2]
        exact ⟨fun d h => by cases h; exact ⟨v, rfl, r1⟩, fun h => by cases h⟩
      · have e1 : valD ((((k', v) :: kvs)).map (·.1)) (d' :: ds') k = valD (kvs.map (·.1)) ds' k := by simp [valD, hk]
        have e2 : valV ((k', v) :: kvs) k = valV kvs k := by simp [valV, hk]
        rw [e1, e2]; exact ih
theorem Rep.dicE {v : V} {ks : List Key} {ds : List D} (r : Rep K A H v (.dic ks ds)) : ∃ a kvs, v = .ref a ∧ H a = some (.dK kvs) ∧ A a ∧ kvs.map (·.1) = ks ∧ Reps K (fun c => A c ∧ c ≠ a) H (kvs.map (·.2)) ds := by
  cases r with
  | dic e a k1 k2 r => subst k2; exact ⟨_, _, rfl, e, a, k1, r⟩
end
/-! ### writing into the dict that a slot owns -/
def ownK (i : Nat) (env : Sl) : Res (List Key × List D) := match env[i]? with
  | some (.own (.dic ks ds)) => .ok (ks, ds)
  | _ => .stuck
/-! ### the rules: d[k], k in d, len(d), d.get(k, x), d[k] = v, d.setdefault(k, v) -/
section
variable {X : Cx} {K : PySem.W.Frag}
def getK : D → D → Res D
  | .dic ks ds, kd => match keyD kd with
    | some k => match valD ks ds k with
      | some d => .ok d
      | none => .stuck
    | none => .stuck
  | _, _ => .stuck
def rGetK : R2 := fun x y H Q => ∃ a kvs k v, x = .ref a ∧ y = kV k ∧ H a = some (.dK kvs) ∧ valV kvs k = some v ∧ Q v H
variable {a b : Expr} {f1 f2 : Sl → Res D} {l2 : Lv} {pos p : Pos}
def rInK (neg : Bool) : R2 := fun x y H Q => ∃ a kvs k, y = .ref a ∧ x = kV k ∧ H a = some (.dK kvs) ∧ Q (.bl (if neg then !(valV kvs k).isSome else (valV kvs k).isSome)) H
def inK (neg : Bool) : D → D → Res D
  | kd, .dic ks _ => match keyD kd with
    | some k => .ok (.bl (if neg then !hasK ks k else hasK ks k))
    | none => .stuck
  | _, _ => .stuck
def lenK : List D → Res D
  | [.dic ks _] => .ok (.int ks.length)
  | _ => .stuck
/-! d.get(k, x) -/
def rGet2 : V → List V → Hp → VK → Prop := fun x xs H Q => ∃ a kvs k z, x = .ref a ∧ xs = [kV k, z] ∧ H a = some (.dK kvs) ∧ Q ((valV kvs k).getD z) H
def get2 : D → List D → Res D
  | .dic ks ds, [kd, z] => match keyD kd with
    | some k => .ok ((valD ks ds k).getD z)
    | none => .stuck
  | _, _ => .stuck
def get2F (f f1 f2 : Sl → Res D) : Sl → Res D := fun env => f env >>= fun a => f1 env >>= fun kd => f2 env >>= fun z => get2 a [kd, z]
end
end M

set_option Elab.async false
set_option linter.all false
set_option maxRecDepth 100000
set_option maxHeartbeats 4000000
namespace M
open PySem PySem.Spec L2
open PyProof.Rows hiding St
section
variable {X : Cx} {K : PySem.W.Frag} {l1 l2 : Lv} {e1 e2 : Expr} {fk fv : Sl → Res D} {pos cpos apos p : Pos} {x : Str}
/-! ### x[k] = v, x a slot's own dict -/
def dputO (i : Nat) (fk fv : Sl → Res D) : Sl → Res Out := fun env => ownK i env >>= fun q => fv env >>= fun d => fk env >>= fun kd => match keyD kd with
  | some k => must (q.1.length < sizeLine) (.ok (.nx (env.set i (.own (.dic (putKs q.1 k) (putDs q.1 q.2 k d))))))
  | none => .stuck
/-! ### x.setdefault(k, v) -/
def rSetD : V → List V → Hp → VK → Prop := fun x xs H Q => ∃ a kvs k z, x = .ref a ∧ xs = [kV k, z] ∧ H a = some (.dK kvs) ∧ kvs.length < sizeLine ∧ (∀ v, valV kvs k = some v → Q v H) ∧ (valV kvs k = none → Q z (upd H a (.dK (putK kvs k z))))
def setDO (i : Nat) (fk fv : Sl → Res D) : Sl → Res Out := fun env => ownK i env >>= fun q => fk env >>= fun kd => fv env >>= fun d => match keyD kd with
  | some k => must (q.1.length < sizeLine) (if hasK q.1 k = true then .ok (.nx env) else .ok (.nx (env.set i (.own (.dic (putKs q.1 k) (putDs q.1 q.2 k d))))))
  | none => .stuck
/-! ### list(d) -/
def kD : Key → D
  | .inl i => .int i
  | .inr x => .str x
def listK : List D → Res D
  | [.dic ks _] => must ((ks.all fun k => match k with | .inl _ => true | .inr _ => false) = true) (.ok (.lst (ks.map kD)))
  | _ => .stuck
end
end M

set_option Elab.async false
set_option linter.all false
set_option maxRecDepth 100000
set_option maxHeartbeats 4000000
namespace M
open PySem PySem.Spec L2
open PyProof.Rows hiding St
/-! ### list(reversed(xs)) -/
section
variable {prog : Program} {w : World} {A : Around} {E : Value → Shared → Prop} {s : Shared}
end
section
variable {X : Cx} {e : Expr} {te : TE} {p p2 pos pos2 : Pos}
def revF (f : Sl → Res D) : Sl → Res D := fun env => f env >>= fun d => match d with
  | .lst ds => .ok (.lst ds.reverse)
  | _ => .stuck
end
/-! ### range(a, b, c) -/
def ItC (lo c : Int) (n : Nat) : It := ⟨fun i _ => i < n, fun i H x H' => H' = H ∧ x = .int (lo + (i : Int) * c), fun i _ => n ≤ i⟩
/-- the bounds within which a range is walked here -/
def RngC (i j k : Int) : Prop := k ≠ 0 ∧ Builtin.Range.small i j k = true ∧ Builtin.divisionGoesByPylong (j - i) k = false ∧ 0 ≤ Builtin.Range.rangeSize i j k
instance (i j k : Int) : Decidable (RngC i j k) := inferInstanceAs (Decidable (_ ∧ _ ∧ _ ∧ _))
section
variable {X : Cx} {tg a b c : Expr} {ta : TA} {p pos : Pos}
def intsC (lo c : Int) (n : Nat) : List D := (List.range n).map fun (i : Nat) => .int (lo + (i : Int) * c)
def intsCV (lo c : Int) (n : Nat) : List V := (List.range n).map fun (i : Nat) => .int (lo + (i : Int) * c)
def rng3 : List D → Res (List D)
  | [.int i, .int j, .int k] => must (RngC i j k) (.ok (intsC i k (Builtin.Range.rangeSize i j k).toNat))
  | _ => .stuck
def rng3F (fa : Sl → Res (List D)) : Sl → Res (List D) := fun env => fa env >>= rng3
/-! ### what is never come to -/
def neverO : Sl → Res Out := fun _ => .stuck
end
end M

set_option Elab.async false
set_option linter.all false
set_option maxRecDepth 100000
set_option maxHeartbeats 4000000
namespace M
open PySem PySem.W PyProof.Rows
/-! ### the walk of a sort that is answered by an order -/
def Wk {α : Type} (lt : Nat → Nat → Bool) (n : Nat) (R : α → Prop) : KasT α → Prop
  | .ret a => R a
  | .ask i j k => i < n ∧ j < n ∧ Wk lt n R (k (lt i j))
theorem Wk.bind {α β : Type} {lt : Nat → Nat → Bool} {n : Nat} {R : α → Prop} {R' : β → Prop} {f : α → KasT β} (hf : ∀ a, R a → Wk lt n R' (f a)) : ∀ {t : KasT α}, Wk lt n R t → Wk lt n R' (t.bind f)
  | .ret a, h => hf a h
  | .ask i j k, h => ⟨h.1, h.2.1, Wk.bind hf h.2.2⟩
theorem Wk.imp {α : Type} {lt : Nat → Nat → Bool} {n : Nat} {R R' : α → Prop} (hr : ∀ a, R a → R' a) : ∀ {t : KasT α}, Wk lt n R t → Wk lt n R' t
  | .ret a, h => hr a h
  | .ask i j k, h => ⟨h.1, h.2.1, Wk.imp hr h.2.2⟩
theorem kas_Wk {α : Type} {lt : Nat → Nat → Bool} {n : Nat} {R : α → Prop} {Q : α → Shared → Prop} {P : Shared → Prop} {cmp : Nat → Nat → (Bool → Shared → Prop) → Shared → Prop}
    (hc : ∀ i j C s, i < n → j < n → P s → (∀ s', P s' → C (lt i j) s') → cmp i j C s) (hQ : ∀ a s, R a → P s → Q a s) : ∀ (t : KasT α) (s : Shared), Wk lt n R t → P s → t.kasWp cmp Q s
  | .ret a, s, h, hs => hQ a s h hs
  | .ask i j k, s, h, hs => hc i j _ s h.1 h.2.1 hs fun s' hs' => kas_Wk hc hQ _ s' h.2.2 hs'
/-- an order of unlike things -/
structure Ord (lt : Nat → Nat → Bool) (n : Nat) : Prop where
  asym : ∀ i j, lt i j = true → lt j i = false
  trans : ∀ i j k, i < n → j < n → k < n → lt i j = true → lt j k = true → lt i k = true
  total : ∀ i j, i < n → j < n → i ≠ j → lt i j = true ∨ lt j i = true
abbrev at0 (p : Array Nat) (i : Nat) : Nat := p.getD i 0
structure Pm (p : Array Nat) (n : Nat) : Prop where
  size : p.size = n
  perm : p.toList.Perm (List.range n)
theorem at0_get {p : Array Nat} {i : Nat} (h : i < p.size) : p[i]? = some (at0 p i) := by
  rw [Array.getElem?_eq_getElem h]; simp [at0, Array.getD, h]
theorem Pm.lt {p : Array Nat} {n i : Nat} (h : Pm p n) (hi : i < n) : at0 p i < n := by
  have hi' : i < p.size := by rw [h.size]; exact hi
  have : at0 p i ∈ p.toList := by simp [at0, Array.getD, hi']
  exact List.mem_range.mp (h.perm.mem_iff.mp this)
theorem Pm.ne {p : Array Nat} {n i j : Nat} (h : Pm p n) (hi : i < n) (hj : j < n) (hij : i ≠ j) : at0 p i ≠ at0 p j := by
  have nd : p.toList.Nodup := h.perm.nodup_iff.mpr List.nodup_range
  have hi' : i < p.toList.length := by simp [h.size, hi]
  have hj' : j < p.toList.length := by simp [h.size, hj]
  intro e
  have e1 : at0 p i = p.toList[i] := by simp [at0, Array.getD, h.size, hi]
  have e2 : at0 p j = p.toList[j] := by simp [at0, Array.getD, h.size, hj]
  rw [e1, e2] at e
  have pw := List.pairwise_iff_getElem.mp nd
  rcases Nat.lt_or_gt_of_ne hij with z | z
  · exact pw i j hi' hj' z e
  · exact pw j i hj' hi' z e.symm
theorem Pm.of {p q : Array Nat} {n : Nat} (h : Pm p n) (hs : q.size = p.size) (hp : q.Perm p) : Pm q n := ⟨by rw [hs, h.size], (Array.perm_iff_toList_perm.mp hp).trans h.perm⟩
theorem Pm.rev {p : Array Nat} {n : Nat} (h : Pm p n) (i j : Nat) : Pm (kas_rev p i j) n := h.of (mirror_size _ _ _ _) (mirror_perm _ _ _ _)
theorem at0_rev {p : Array Nat} {n j k : Nat} (h : Pm p n) (hj : j ≤ n) (hk : k < n) : at0 (kas_rev p 0 j) k = if k < j then at0 p (j - 1 - k) else at0 p k := by
  have hR := h.rev 0 j
  have e := getElem?_mirror_all (xs := p) (i := 0) (j := j) (by rw [h.size]; exact hj) k
  have e1 := at0_get (p := kas_rev p 0 j) (i := k) (by rw [hR.size]; exact hk)
  unfold kas_rev at e1
  rw [e] at e1
  simp only [Nat.zero_le, true_and, Nat.zero_add] at e1
  show at0 (mirror p 0 j ((j - 0) / 2)) k = _
  split at e1
  · rename_i hkj
    rw [if_pos hkj]
    rw [at0_get (by rw [h.size]; omega)] at e1
    exact (Option.some.inj e1).symm
  · rename_i hkj
    rw [if_neg hkj]
    rw [at0_get (by rw [h.size]; exact hk)] at e1
    exact (Option.some.inj e1).symm
section
variable {lt : Nat → Nat → Bool} {n : Nat} (O : Ord lt n)
/-- the first k rise -/
def Up (lt : Nat → Nat → Bool) (p : Array Nat) (k : Nat) : Prop := ∀ i j, i < j → j < k → lt (at0 p i) (at0 p j) = true
def Down (lt : Nat → Nat → Bool) (p : Array Nat) (k : Nat) : Prop := ∀ i j, i < j → j < k → lt (at0 p j) (at0 p i) = true
include O
theorem Up.snoc {p : Array Nat} {k : Nat} (hp : Pm p n) (hk : k + 1 < n) (h : Up lt p (k + 1)) (hl : lt (at0 p k) (at0 p (k + 1)) = true) : Up lt p (k + 2) := fun i j hij hj => by
  by_cases e : j = k + 1
  · subst e
    by_cases e2 : i = k
    · subst e2; exact hl
    · exact O.trans _ _ _ (hp.lt (by omega)) (hp.lt (by omega)) (hp.lt hk) (h i k (by omega) (by omega)) hl
  · exact h i j hij (by omega)
theorem Down.snoc {p : Array Nat} {k : Nat} (hp : Pm p n) (hk : k + 1 < n) (h : Down lt p (k + 1)) (hl : lt (at0 p (k + 1)) (at0 p k) = true) : Down lt p (k + 2) := fun i j hij hj => by
  by_cases e : j = k + 1
  · subst e
    by_cases e2 : i = k
    · subst e2; exact hl
    · exact O.trans _ _ _ (hp.lt hk) (hp.lt (by omega)) (hp.lt (by omega)) hl (h i k (by omega) (by omega))
  · exact h i j hij (by omega)
theorem O_not {p : Array Nat} {i j : Nat} (hp : Pm p n) (hi : i < n) (hj : j < n) (hij : i ≠ j) (h : lt (at0 p i) (at0 p j) = false) : lt (at0 p j) (at0 p i) = true := by
  rcases O.total _ _ (hp.lt hi) (hp.lt hj) (hp.ne hi hj hij) with z | z
  · rw [h] at z; cases z
  · exact z
theorem asc_W {p : Array Nat} (hp : Pm p n) : ∀ (f m : Nat), 1 ≤ m → m + f = n → Up lt p m → Wk lt n (fun r => m ≤ r ∧ r ≤ n ∧ Up lt p r ∧ (r < n → lt (at0 p r) (at0 p (r - 1)) = true)) (kas_asc p f m)
  | 0, m, h1, h2, h => ⟨Nat.le_refl _, by omega, h, fun z => by omega⟩
  | f + 1, m, h1, h2, h => by
    refine ⟨hp.lt (by omega), hp.lt (by omega), ?_⟩
    cases hc : lt (p.getD m 0) (p.getD (m - 1) 0) with
    | true =>
      exact ⟨Nat.le_refl _, by omega, h, fun _ => hc⟩
    | false =>
      have hup : Up lt p (m + 1) := by
        have e : m = (m - 1) + 1 := by omega
        have hl := O_not O hp (i := m) (j := m - 1) (by omega) (by omega) (by omega) hc
        rw [e] at h ⊢
        exact Up.snoc O hp (by omega) h (by rw [← e]; exact hl)
      have ih := asc_W hp f (m + 1) (by omega) (by omega) hup
      exact Wk.imp (fun r ⟨a, b, c, d⟩ => ⟨by omega, b, c, d⟩) ih
theorem desc_W {p : Array Nat} (hp : Pm p n) : ∀ (f m : Nat), 1 ≤ m → m + f = n → Down lt p m → Wk lt n (fun r => r.1 = p ∧ m ≤ r.2.1 ∧ r.2.1 ≤ n ∧ Down lt p r.2.1 ∧ r.2.2 = 0) (kas_desc f p m 0)
  | 0, m, h1, h2, h => ⟨rfl, Nat.le_refl _, (show m ≤ n by omega), h, rfl⟩
  | f + 1, m, h1, h2, h => by
    refine ⟨hp.lt (by omega), hp.lt (by omega), ?_⟩
    cases hc : lt (p.getD m 0) (p.getD (m - 1) 0) with
    | true =>
      have hdn : Down lt p (m + 1) := by
        have e : m = (m - 1) + 1 := by omega
        have hl : lt (at0 p m) (at0 p (m - 1)) = true := hc
        rw [e] at h ⊢
        exact Down.snoc O hp (by omega) h (by rw [← e]; exact hl)
      have ih := desc_W hp f (m + 1) (by omega) (by omega) hdn
      exact Wk.imp (fun r ⟨a, b, c, d, e⟩ => ⟨a, by omega, c, d, e⟩) ih
    | false =>
      have hl := O_not O hp (i := m) (j := m - 1) (by omega) (by omega) (by omega) hc
      refine ⟨hp.lt (by omega), hp.lt (by omega), ?_⟩
      show Wk lt n _ (if lt (at0 p (m - 1)) (at0 p m) = true then _ else _)
      rw [if_pos hl]
      exact ⟨rfl, Nat.le_refl _, (show m ≤ n by omega), h, rfl⟩
theorem Down.rev {p : Array Nat} {k : Nat} (hp : Pm p n) (hk : k ≤ n) (h : Down lt p k) : Up lt (kas_rev p 0 k) k := fun i j hij hj => by
  rw [at0_rev hp hk (by omega), at0_rev hp hk (by omega), if_pos (by omega), if_pos hj]
  exact h _ _ (by omega) (by omega)
theorem tail_W {p : Array Nat} {k : Nat} (hp : Pm p n) (h1 : 1 ≤ k) (hk : k ≤ n) (h : Down lt p k) : Wk lt n (fun r => 1 ≤ r.1 ∧ r.1 ≤ n ∧ Pm r.2 n ∧ Up lt r.2 r.1) (kas_tail3 k n p) := by
  unfold kas_tail3
  refine Wk.bind (fun r ⟨a, b, c, _⟩ => ?_) (asc_W O (hp.rev 0 k) (n - k) k h1 (by omega) (Down.rev O hp hk h))
  exact ⟨by omega, b, hp.rev 0 k, c⟩
theorem count_W {p : Array Nat} (hp : Pm p n) (hn : 1 ≤ n) : Wk lt n (fun r => 1 ≤ r.1 ∧ r.1 ≤ n ∧ Pm r.2 n ∧ Up lt r.2 r.1) (kas_count n p) := by
  unfold kas_count
  refine Wk.bind (fun r ⟨a, b, c, d⟩ => ?_) (asc_W O hp (n - 1) 1 (Nat.le_refl _) (by omega) (fun i j hij hj => by omega))
  by_cases e : r = n
  · subst e
    rw [if_pos (by simp)]
    exact ⟨a, b, hp, c⟩
  · rw [if_neg (by simpa using e)]
    by_cases h1 : r > 1
    · rw [if_pos h1]
      refine ⟨hp.lt (by omega), hp.lt (by omega), ?_⟩
      have : lt (p.getD 0 0) (p.getD (r - 1) 0) = true := c 0 (r - 1) (by omega) (by omega)
      show Wk lt n _ (if lt (p.getD 0 0) (p.getD (r - 1) 0) = true then _ else _)
      rw [if_pos this]
      exact ⟨a, b, hp, c⟩
    · rw [if_neg h1]
      have hr : r = 1 := by omega
      subst hr
      unfold kas_descPart
      have hd : Down lt p 2 := fun i j hij hj => by
        have : i = 0 ∧ j = 1 := by omega
        obtain ⟨rfl, rfl⟩ := this
        exact d (by omega)
      refine Wk.bind (fun q ⟨q1, q2, q3, q4, q5⟩ => ?_) (desc_W O hp (n - 2) 2 (by omega) (by omega) hd)
      rw [if_neg (by omega), q1]
      exact tail_W O hp (by omega) q3 q4
theorem place_W {p : Array Nat} {k : Nat} (hp : Pm p n) (hk : k < n) (hu : Up lt p k) : ∀ (f l r : Nat), l ≤ r → r ≤ k → r - l ≤ f → (∀ i, i < l → lt (at0 p i) (at0 p k) = true) → (∀ i, r ≤ i → i < k → lt (at0 p k) (at0 p i) = true) →
    Wk lt n (fun m => m ≤ k ∧ (∀ i, i < m → lt (at0 p i) (at0 p k) = true) ∧ ∀ i, m ≤ i → i < k → lt (at0 p k) (at0 p i) = true) (kas_place p k f l r)
  | 0, l, r, h1, h2, h3, hl, hr => ⟨by omega, hl, fun i a b => hr i (by omega) b⟩
  | f + 1, l, r, h1, h2, h3, hl, hr => by
    unfold kas_place
    by_cases e : l ≥ r
    · rw [if_pos e]
      exact ⟨by omega, hl, fun i a b => hr i (by omega) b⟩
    · rw [if_neg e]
      have hm : (l + r) / 2 < r := by omega
      refine ⟨hp.lt hk, hp.lt (by omega), ?_⟩
      cases hc : lt (p.getD k 0) (p.getD ((l + r) / 2) 0) with
      | true =>
        refine place_W hp hk hu f l ((l + r) / 2) (by omega) (by omega) (by omega) hl fun i a b => ?_
        by_cases e2 : i = (l + r) / 2
        · rw [e2]; exact hc
        · exact O.trans _ _ _ (hp.lt hk) (hp.lt (show (l + r) / 2 < n by omega)) (hp.lt (by omega)) hc (hu _ _ (by omega) b)
      | false =>
        have hl2 := O_not O hp (i := k) (j := (l + r) / 2) hk (by omega) (by omega) hc
        refine place_W hp hk hu f ((l + r) / 2 + 1) r (by omega) h2 (by omega) (fun i a => ?_) hr
        by_cases e2 : i = (l + r) / 2
        · rw [e2]; exact hl2
        · exact O.trans _ _ _ (hp.lt (by omega)) (hp.lt (show (l + r) / 2 < n by omega)) (hp.lt hk) (hu _ _ (by omega) (by omega)) hl2
theorem at0_bubble {p : Array Nat} {k l i : Nat} (hp : Pm p n) (hk : k < n) (hl : l ≤ k) (hi : i < n) : at0 (bubble p k (k - l)) i = if i = l then at0 p k else if l < i ∧ i ≤ k then at0 p (i - 1) else at0 p i := by
  have hB : Pm (bubble p k (k - l)) n := hp.of (bubble_size _ _ _) (bubble_perm _ _ _)
  have e := getElem?_bubble (xs := p) (src := k) (by rw [hp.size]; exact hk) (k - l) (by omega) i
  rw [at0_get (by rw [hB.size]; exact hi)] at e
  have ekl : k - (k - l) = l := by omega
  rw [ekl] at e
  split at e
  · rename_i z
    rw [if_pos z]
    rw [at0_get (by rw [hp.size]; exact hk)] at e
    exact Option.some.inj e
  · rename_i z
    rw [if_neg z]
    split at e
    · rename_i z2
      rw [if_pos z2]
      rw [at0_get (by rw [hp.size]; omega)] at e
      exact Option.some.inj e
    · rename_i z2
      rw [if_neg z2]
      rw [at0_get (by rw [hp.size]; exact hi)] at e
      exact Option.some.inj e
theorem bin_W : ∀ (f : Nat) (p : Array Nat) (k : Nat), Pm p n → k + f = n → Up lt p k → Wk lt n (fun q => Pm q n ∧ Up lt q n) (kas_bin f p k)
  | 0, p, k, hp, hk, h => ⟨hp, by have : k = n := by omega
                                  rw [this] at h; exact h⟩
  | f + 1, p, k, hp, hk, h => by
    unfold kas_bin
    refine Wk.bind (fun l ⟨a, b, c⟩ => ?_) (place_W O hp (by omega) h k 0 k (by omega) (Nat.le_refl _) (by omega) (fun i z => by omega) (fun i z w => by omega))
    refine bin_W f _ (k + 1) (hp.of (bubble_size _ _ _) (bubble_perm _ _ _)) (by omega) fun i j hij hj => ?_
    rw [at0_bubble O hp (by omega) a (by omega), at0_bubble O hp (by omega) a (by omega)]
    by_cases e1 : i = l
    · rw [if_pos e1, if_neg (by omega), if_pos (by omega)]
      exact c _ (by omega) (by omega)
    · rw [if_neg e1]
      by_cases e2 : l < i ∧ i ≤ k
      · rw [if_pos e2, if_neg (by omega), if_pos (by omega)]
        exact h _ _ (by omega) (by omega)
      · rw [if_neg e2]
        by_cases e3 : j = l
        · rw [if_pos e3]; exact b _ (by omega)
        · rw [if_neg e3]
          by_cases e4 : l < j ∧ j ≤ k
          · rw [if_pos e4]
            by_cases e5 : i = j - 1
            · omega
            · exact h _ _ (by omega) (by omega)
          · rw [if_neg e4]; exact h _ _ hij (by omega)
theorem sort_W (hn : 1 ≤ n) : Wk lt n (fun q => Pm q n ∧ Up lt q n) (kas_sort n) := by
  have hp : Pm (List.toArray (List.range n)) n := ⟨by simp, by simp⟩
  unfold kas_sort
  refine Wk.bind (fun r ⟨a, b, c, d⟩ => ?_) (count_W O hp hn)
  by_cases e : r.1 < n
  · rw [if_pos e]
    have : max r.1 1 = r.1 := by omega
    rw [this]
    exact bin_W O _ _ _ c (by omega) d
  · rw [if_neg e]
    have : r.1 = n := by omega
    rw [this] at d
    exact ⟨c, d⟩
end
end M

set_option Elab.async false
set_option linter.all false
set_option maxRecDepth 100000
set_option maxHeartbeats 4000000
namespace M
open PySem PySem.W PyProof.Rows
section
variable {prog : Program} {w : World} {A : Around} {E : Value → Shared → Prop} {s : Shared} {a : Addr} {vs : List Value} {n : Nat}
/-- the heap while the list a is sorted -/
def sortHp (h : Heap) (a : Addr) (vs : List Value) : Heap := ((h.update a (Obj.mapSeq fun _ => (#[] : Array Value))).push (seqObj "tuple" vs.toArray 0)).push (seqObj "list" #[] 0)
def outOf (vs : List Value) (p : Array Nat) : List Value := p.toList.map fun i => vs.getD i Value.none
theorem sortHp_old {h : Heap} {b : Addr} {o : Obj} (hb : b ≠ a) (e : h.get? b = some o) : (sortHp h a vs).get? b = some o :=
  Heap.get?_push_of_some _ (Heap.get?_push_of_some _ ((Heap.get?_update_other _ _ (Ne.symm hb)).trans e))
theorem list_sort_ord {P : PySem.Fin → Shared → Prop} {lt : Nat → Nat → Bool} (O : Ord lt vs.length) (κ : SortKind) (ho : s.heap.get? a = some (seqObj "list" vs.toArray n)) (h2 : 2 ≤ vs.length) (h64 : vs.length < 64)
    (hk : ∀ Q : SortKind → Shared → Prop, Q κ { s with heap := sortHp s.heap a vs } → wpAny (model prog w) A (keyKind' vs.toArray) Q (fun _ _ => False) { s with heap := sortHp s.heap a vs })
    (hc : ∀ i j C, i < vs.length → j < vs.length → C (lt i j) { s with heap := sortHp s.heap a vs } → kas_ask prog w A κ vs i j C { s with heap := sortHp s.heap a vs })
    (h : ∀ p h' c, Pm p vs.length → Up lt p vs.length → (∀ b o, b ≠ a → s.heap.get? b = some o → h'.get? b = some o) → h'.get? a = some (seqObj "list" (List.toArray (outOf vs p)) c) → P (.done (.ret .none)) { s with heap := h' }) :
    wpAny (model prog w) A (Builtin.«list.sort» ⟨[.ref a], []⟩) P E s := by
  obtain ⟨c1, b1⟩ : ∃ c1, (s.heap.update a (Obj.mapSeq fun _ => (#[] : Array Value))).get? a = some (seqObj "list" #[] c1) := ⟨_, get?_update_seq ho fun _ => #[]⟩
  have b2 : (sortHp s.heap a vs).get? a = some (seqObj "list" #[] c1) := Heap.get?_push_of_some _ (Heap.get?_push_of_some _ b1)
  have big : vs.length ≤ sizeLine := by rw [sizeLine_eq]; omega
  have walk : (kas_sort vs.length).kasWp (kas_ask prog w A κ vs) (fun p t => t = { s with heap := sortHp s.heap a vs } ∧ Pm p vs.length ∧ Up lt p vs.length) { s with heap := sortHp s.heap a vs } :=
    kas_Wk (P := fun t => t = { s with heap := sortHp s.heap a vs }) (R := fun p => Pm p vs.length ∧ Up lt p vs.length) (fun i j C t hi hj ht hC => by subst ht; exact hc i j C hi hj (hC _ rfl)) (fun p t hp ht => ⟨ht, hp⟩) _ _ (sort_W O (by omega)) rfl
  rw [list_sort_plain]
  refine wpAny_bind (listItems_at (s := s) ho rfl (wpAny_bind (listUpdate_at (s := s) ho rfl (wpAny_bind (seqEpoch_at b1 rfl (wpAny_bind (wpAny_newTuple (wpAny_bind (wpAny_newList (wpAny_holding ?_) (Nat.zero_le _))) (by show vs.length ≤ sizeLine; exact big))))) (by rw [List.size_toArray]; exact big) (Nat.zero_le _))))
  show wpAny (model prog w) A _ P E { s with heap := sortHp s.heap a vs }
  dsimp only
  have small : ¬ vs.toArray.size < 2 := by rw [List.size_toArray]; omega
  rw [if_neg small, if_neg small]
  refine wpAny_bind (wpAny_mono (hk (fun κ' t => κ' = κ ∧ t = { s with heap := sortHp s.heap a vs }) ⟨rfl, rfl⟩) (fun κ' t hkt => ?_) fun _ _ z => z.elim)
  obtain ⟨rfl, rfl⟩ := hkt
  refine wpAny_bind (wpAny_mono (kat_run (κ := κ') (Q := fun st t => ∃ p : Array Nat, p.size = vs.length ∧ arrOf st = p.map (kas_item (vs.toArray.zip vs.toArray)) ∧ failedOf st = none ∧ t = { s with heap := sortHp s.heap a vs } ∧ Pm p vs.length ∧ Up lt p vs.length) rfl h2 h64 (fun p st t z1 z2 z3 z4 => ⟨p, z1, z2, z3, z4⟩) walk) ?_ fun _ _ z => z)
  rintro ⟨⟨⟩, st⟩ t ⟨p, hp, har, hf, rfl, hpm, hup⟩
  dsimp only
  have hsz : (List.toArray (outOf vs p)).size ≤ sizeLine := by rw [List.size_toArray]; unfold outOf; rw [List.length_map, Array.length_toList, hp]; exact big
  rw [kat_snds rfl har]
  obtain ⟨c2, hc2⟩ : ∃ c2, ((sortHp s.heap a vs).update a (Obj.mapSeq fun _ => List.toArray (outOf vs p))).get? a = some (seqObj "list" (List.toArray (outOf vs p)) c2) := ⟨_, get?_update_seq b2 fun _ => List.toArray (outOf vs p)⟩
  refine wpAny_bind (seqEpoch_at b2 rfl (wpAny_bind (listUpdate_at b2 rfl ?_ (Nat.zero_le _) (Nat.le_succ_of_le hsz))))
  rw [hf]
  simp only [bne_self_eq_false, Bool.false_eq_true, if_false]
  exact wpAny_pure (h p _ c2 hpm hup (fun b o hb e => (Heap.get?_update_other _ _ (Ne.symm hb)).trans (sortHp_old hb e)) hc2)
end
end M

set_option Elab.async false
set_option linter.all false
set_option maxRecDepth 100000
set_option maxHeartbeats 4000000
namespace M
open PySem PySem.W PyProof.Rows
/-! ### a dict walked, whatever its keys -/
/-- the dict at d has these keys, in this order -/
def DAt (h : Heap) (d : Addr) (ks : List Value) (ep : Nat) : Prop := ∃ o es, h.get? d = some o ∧ o.ExactDict ∧ o.data = .dict es ep ∧ es.toList.map (·.key) = ks
section
variable {prog : Program} {w : World} {A : Around} {E : Value → Shared → Prop} {s : Shared} {d it : Addr} {ks : List Value} {ep i : Nat}
end
end M

set_option Elab.async false
set_option linter.all false
set_option maxRecDepth 100000
set_option maxHeartbeats 4000000
namespace M
open PySem PySem.W PyProof.Rows
/-! ### heads in order -/
abbrev Hd := Str × Int
def hlt (a b : Hd) : Bool := if a.1 = b.1 then decide (a.2 < b.2) else decide (a.1.cps.toList < b.1.cps.toList)
def hltI (hs : List Hd) (i j : Nat) : Bool := match hs[i]?, hs[j]? with
  | some a, some b => hlt a b
  | _, _ => false
/-- the value is a tuple of this text and this number -/
def IsHd (h : Heap) (v : Value) (a : Hd) : Prop := ∃ b o n t u, v = .ref b ∧ h.get? b = some o ∧ o.cls = .type "tuple" ∧ o.data = .seq #[.str a.1 t, .int a.2 u] n
section
variable {prog : Program} {w : World} {A : Around} {E : Value → Shared → Prop} {s : Shared}
/-- values that are these heads -/
inductive AreHd (h : Heap) : List Value → List Hd → Prop where
  | nil : AreHd h [] []
  | cons {v : Value} {a : Hd} {vs : List Value} {hs : List Hd} : IsHd h v a → AreHd h vs hs → AreHd h (v :: vs) (a :: hs)
end
end M

set_option Elab.async false
set_option linter.all false
set_option maxRecDepth 100000
set_option maxHeartbeats 4000000
namespace M
open PySem PySem.W PyProof.Rows
section
variable {prog : Program} {w : World} {A : Around} {E : Value → Shared → Prop} {s : Shared} {a : Addr} {vs : List Value} {n : Nat}
theorem sort_few {P : PySem.Fin → Shared → Prop} (ho : s.heap.get? a = some (seqObj "list" vs.toArray n)) (h2 : vs.length < 2)
    (h : ∀ h' c, (∀ b o, b ≠ a → s.heap.get? b = some o → h'.get? b = some o) → h'.get? a = some (seqObj "list" vs.toArray c) → P (.done (.ret .none)) { s with heap := h' }) :
    wpAny (model prog w) A (Builtin.«list.sort» ⟨[.ref a], []⟩) P E s := by
  obtain ⟨c1, b1⟩ : ∃ c1, (s.heap.update a (Obj.mapSeq fun _ => (#[] : Array Value))).get? a = some (seqObj "list" #[] c1) := ⟨_, get?_update_seq ho fun _ => #[]⟩
  have b2 : (sortHp s.heap a vs).get? a = some (seqObj "list" #[] c1) := Heap.get?_push_of_some _ (Heap.get?_push_of_some _ b1)
  have big : vs.length ≤ sizeLine := by rw [sizeLine_eq]; omega
  rw [list_sort_plain]
  refine wpAny_bind (listItems_at (s := s) ho rfl (wpAny_bind (listUpdate_at (s := s) ho rfl (wpAny_bind (seqEpoch_at b1 rfl (wpAny_bind (wpAny_newTuple (wpAny_bind (wpAny_newList (wpAny_holding ?_) (Nat.zero_le _))) (by show vs.length ≤ sizeLine; exact big))))) (by rw [List.size_toArray]; exact big) (Nat.zero_le _))))
  show wpAny (model prog w) A _ P E { s with heap := sortHp s.heap a vs }
  dsimp only
  have small : vs.toArray.size < 2 := by rw [List.size_toArray]; omega
  rw [if_pos small, if_pos small]
  refine wpAny_bind (wpAny_pure (wpAny_bind (wpAny_pure ?_)))
  dsimp only
  have hout : (arrOf (SortSt.mk' general' (vs.toArray.zip vs.toArray) #[] 7 none)).map (·.2) = vs.toArray := by
    show (vs.toArray.zip vs.toArray).map (·.2) = vs.toArray
    apply Array.toList_inj.mp
    simp [List.map_snd_zip]
  rw [hout]
  obtain ⟨c2, hc2⟩ : ∃ c2, ((sortHp s.heap a vs).update a (Obj.mapSeq fun _ => vs.toArray)).get? a = some (seqObj "list" vs.toArray c2) := ⟨_, get?_update_seq b2 fun _ => vs.toArray⟩
  refine wpAny_bind (seqEpoch_at b2 rfl (wpAny_bind (listUpdate_at b2 rfl ?_ (Nat.zero_le _) (by rw [List.size_toArray]; exact Nat.le_succ_of_le big))))
  simp only [bne_self_eq_false, Bool.false_eq_true, if_false]
  exact wpAny_pure (h _ c2 (fun b o hb e => (Heap.get?_update_other _ _ (Ne.symm hb)).trans (sortHp_old hb e)) hc2)
end
/-! ### the heads in order -/
def insH (a : Hd) : List Hd → List Hd
  | [] => [a]
  | b :: r => if hlt a b = true then a :: b :: r else b :: insH a r
def sortH (hs : List Hd) : List Hd := hs.foldr insH []
/-- two lists, thing by thing -/
inductive F2 {α β : Type} (R : α → β → Prop) : List α → List β → Prop where
  | nil : F2 R [] []
  | cons {a b as bs} : R a b → F2 R as bs → F2 R (a :: as) (b :: bs)
theorem F2.length {α β : Type} {R : α → β → Prop} : ∀ {as : List α} {bs : List β}, F2 R as bs → as.length = bs.length
  | _, _, .nil => rfl
  | _, _, .cons _ t => by simp [t.length]
theorem F2.get {α β : Type} {R : α → β → Prop} {a0 : α} {b0 : β} : ∀ {as : List α} {bs : List β} {i : Nat}, F2 R as bs → i < bs.length → R (as.getD i a0) (bs.getD i b0)
  | _, _, 0, .cons x t, _ => by simpa using x
  | _, _, i + 1, .cons x t, h => by simpa using t.get (i := i) (by simpa using h)
section
variable {prog : Program} {w : World} {A : Around} {E : Value → Shared → Prop} {s : Shared} {a : Addr} {vs : List Value} {n : Nat}
end
end M

set_option Elab.async false
set_option linter.all false
set_option maxRecDepth 100000
set_option maxHeartbeats 4000000
namespace M
open PySem PySem.W PyProof.Rows
section
variable {prog : Program} {w : World} {A : Around} {E : Value → Shared → Prop} {t : Shared} {vs : List Value} {hs : List Hd}
end
end M
namespace M
open PySem PySem.Spec L2
open PyProof.Rows hiding St
section
variable {X : Cx}
/-- the thing is a tuple of this text and this number -/
def HdV (H : Hp) (x : V) (a : Hd) : Prop := ∃ b, x = .ref b ∧ H b = some (.tup [.str a.1, .int a.2])
end
end M

set_option Elab.async false
set_option linter.all false
set_option maxRecDepth 100000
set_option maxHeartbeats 4000000
namespace M
open PySem PySem.Spec L2
open PyProof.Rows hiding St
/-! ### dicts whose keys are tuples of ints and texts -/
def keysD : List D → Option (List Key)
  | [] => some []
  | d :: r => match keyD d, keysD r with
    | some k, some ks => some (k :: ks)
    | _, _ => none
def keyT : D → Option (List Key)
  | .tup ds => keysD ds
  | _ => none
def hasT (ks : List (List Key)) (k : List Key) : Bool := ks.any fun x => decide (x = k)
def putTs (ks : List (List Key)) (k : List Key) : List (List Key) := if hasT ks k = true then ks else ks ++ [k]
def putTd (ks : List (List Key)) (ds : List D) (k : List Key) (d : D) : List D := if hasT ks k = true then (ks.zip ds).map (fun p => if p.1 = k then d else p.2) else ds ++ [d]
section
variable {K : PySem.W.Frag} {A : Addr → Prop} {H : Hp}
end
def ownT (i : Nat) (env : Sl) : Res (List (List Key) × List D) := match env[i]? with
  | some (.own (.dit ks ds)) => .ok (ks, ds)
  | _ => .stuck
section
variable {X : Cx} {K : PySem.W.Frag} {l1 l2 : Lv} {e1 e2 : Expr} {fk fv : Sl → Res D} {pos cpos apos p : Pos} {x : Str}
/-- {}, to have tuples as keys -/
def cDT : Sl → Res D := fun _ => .ok (.dit [] [])
def dputT (i : Nat) (fk fv : Sl → Res D) : Sl → Res Out := fun env => ownT i env >>= fun q => fv env >>= fun d => fk env >>= fun kd => match keyT kd with
  | some k => must (q.1.length < sizeLine) (.ok (.nx (env.set i (.own (.dit (putTs q.1 k) (putTd q.1 q.2 k d))))))
  | none => .stuck
/-! ### sorted, of heads -/
def hdOf : D → Option Hd
  | .tup [.str z, .int k] => some (z, k)
  | _ => none
def hdD (a : Hd) : D := .tup [.str a.1, .int a.2]
def hdsOf : List D → Option (List Hd)
  | [] => some []
  | d :: r => match hdOf d, hdsOf r with
    | some a, some as => some (a :: as)
    | _, _ => none
def shortH (hs : List Hd) : Bool := hs.all fun a => decide (a.1.length ≤ sizeLine)
def sortedL : List D → Res D
  | [.lst ds] => match hdsOf ds with
    | some hs => must (hs.Nodup ∧ hs.length < 64) (.ok (.lst ((sortH hs).map hdD)))
    | none => .stuck
  | _ => .stuck
end
end M

set_option Elab.async false
set_option linter.all false
set_option maxRecDepth 100000
set_option maxHeartbeats 4000000
namespace M
open PySem PySem.Spec L2
open PyProof.Rows hiding St
/-! ### sorted(d), d a dict with heads as keys -/
def hdK (a : Hd) : List Key := [.inr a.1, .inl a.2]
section
variable {X : Cx} {K : PySem.W.Frag}
def hdOfK : List Key → Option Hd
  | [.inr z, .inl k] => some (z, k)
  | _ => none
def hdsOfK : List (List Key) → Option (List Hd)
  | [] => some []
  | d :: r => match hdOfK d, hdsOfK r with
    | some a, some as => some (a :: as)
    | _, _ => none
def sortedT : List D → Res D
  | [.dit ks _] => match hdsOfK ks with
    | some hs => must (hs.Nodup ∧ hs.length < 64 ∧ shortH hs = true) (.ok (.lst ((sortH hs).map hdD)))
    | none => .stuck
  | _ => .stuck
end
end M

set_option Elab.async false
set_option linter.all false
set_option maxRecDepth 100000
set_option maxHeartbeats 4000000
namespace M
open PySem PySem.Spec L2
open PyProof.Rows hiding St
/-! ### max(list of ints), and with a default -/
/-- the greatest of b and of k things from j on -/
def upTo (val : Nat → Int) : Nat → Nat → Int → Int
  | 0, _, b => b
  | k + 1, j, b => upTo val k (j + 1) (if val j > b then val j else b)
def maxF : Int → List Int → Int
  | b, [] => b
  | b, i :: r => maxF (if i > b then i else b) r
section
variable {prog : Program} {w : World} {A : Around} {R : Result → Shared → Prop} {I : Addr} {fp wr : List Addr} {n : Nat} {P : Nat → Value → Prop} {St : Nat → Heap → Prop} {kw : List (Str × Value)}
end
end M

set_option Elab.async false
set_option linter.all false
set_option maxRecDepth 100000
set_option maxHeartbeats 4000000
namespace M
open PySem PySem.Spec L2
open PyProof.Rows hiding St
section
variable {prog : Program} {w : World} {A : Around} {E : Value → Shared → Prop} {s : Shared}
/-- what max gives: none where it refuses -/
def maxOr (d : Option Int) : List Int → Option Int
  | [] => d
  | i :: r => some (maxF i r)
end
end M

set_option Elab.async false
set_option linter.all false
set_option maxRecDepth 100000
set_option maxHeartbeats 4000000
namespace M
open PySem PySem.Spec L2
open PyProof.Rows hiding St
def intsOf : List D → Option (List Int)
  | [] => some []
  | .int b :: r => (intsOf r).map (b :: ·)
  | _ => none
section
variable {X : Cx} {K : PySem.W.Frag} {l l' l2 : Lv}
def maxLD : List D → Res D
  | [.lst ds] => match intsOf ds with
    | some is => match maxOr none is with
      | some m => .ok (.int m)
      | none => .stuck
    | none => .stuck
  | _ => .stuck
/-! ### max(xs, default=e) -/
def maxDD (a b : D) : Res D := match a, b with
  | .lst ds, .int i => match intsOf ds with
    | some is => match maxOr (some i) is with
      | some m => .ok (.int m)
      | none => .stuck
    | none => .stuck
  | _, _ => .stuck
variable {x : Str} {p pos kpos : Pos} {e e2 : Expr} {fa f2 : Sl → Res D}
end
end M

set_option Elab.async false
set_option linter.all false
set_option maxRecDepth 100000
set_option maxHeartbeats 4000000
namespace M
open PySem PySem.Spec L2
open PyProof.Rows hiding St
open PySem.SeqAt
/-! ### x in a list, whatever is in it -/
section
variable {X : Cx} {K : PySem.W.Frag}
def inL (ds : List D) (d : D) : Bool := ds.any fun y => eqD y d
def rInL (K : PySem.W.Frag) (neg : Bool) : R2 := fun x y H Q => ∃ p xs ds d, y = .ref p ∧ SqL K H p xs ∧ Reps K Any H xs ds ∧ Rep K Any H x d ∧ (D.eqbs ds = true ∧ D.eqb d = true ∧ D.deps ds ≤ 190) ∧ Q (.bl (if neg then !inL ds d else inL ds d)) H
open Classical in
def inLR (neg : Bool) : D → D → Res D
  | d, .lst ds => must (D.eqbs ds = true ∧ D.eqb d = true ∧ D.deps ds ≤ 190) (.ok (.bl (if neg then !inL ds d else inL ds d)))
  | _, _ => .stuck
end
end M

set_option Elab.async false
set_option linter.all false
set_option maxRecDepth 100000
set_option maxHeartbeats 4000000
namespace M
open PySem PySem.Spec L2
open PyProof.Rows hiding St
theorem boot_sortedG : bootBuiltins "sorted" = some (.builtin "sorted") := by decide +kernel
section
variable {X : Cx} {id : String} {r : List V → Hp → VK → Prop} {g : List D → Res D} {x : Str} {p pos : Pos} {e : Expr} {es : List Expr} {fa : Sl → Res (List D)}
/-- a call of a builtin function that tells something new -/
theorem de_callN (hc : CallR X (.builtin id) r) (hr : CallD X.K r g) (hg : Gl X x) (hm : X.mg x = none) (hv : bootBuiltins x = some (.builtin id))
    (ha : DA X .s (e :: es) fa) (hn : x ≠ "__name__" := by decide) (hdb : (x == ("__debug__" : Str)) = false := by decide)
    (he : starEach (e :: es) X.env = (false, eval e X.env) :: starEach es X.env := by exact star_plain rfl) (hpl : (backTo pos (starEach es X.env)).any (·.1) = false := by exact any_plain rfl) : DE X .t (.Call (.Name x p) (e :: es) [] pos) (app fa g) := by
 with_unfolding_all exact (
  PE.imp (pe_callB hc hg hm hv ha hn hdb he hpl) fun _ _ _ h => tCB_D hr h)
variable {ex : Expr} {t : Sl → Res Bool}
/-- a test in which a list of its own is walked -/
def frzT (i : Nat) (t : Sl → Res Bool) : Sl → Res Bool := fun env => t (frz i env)
end
end M

set_option Elab.async false
set_option linter.all false
set_option maxRecDepth 100000
set_option maxHeartbeats 4000000
namespace M
open PySem PySem.Spec L2
/-! ### terms: a number, or a text and up to three terms -/
mutual
def tm : D → Bool
  | .int _ => true
  | .tup (.str _ :: ts) => decide (ts.length ≤ 3) && tms ts
  | _ => false
def tms : List D → Bool
  | [] => true
  | d :: r => tm d && tms r
end
mutual
theorem tm_ind1 {P : D → Prop} (h1 : ∀ i, P (.int i)) (h2 : ∀ z ts, ts.length ≤ 3 → (∀ t ∈ ts, tm t = true ∧ P t) → P (.tup (.str z :: ts))) : ∀ t, tm t = true → P t
  | .int i, _ => h1 i
  | .tup (x :: ts), h => by
    cases x with
    | str z =>
      simp only [tm, Bool.and_eq_true, decide_eq_true_eq] at h
      exact h2 z ts h.1 (tm_ind2 h1 h2 ts h.2)
    | _ => simp [tm] at h
  | .tup [], h => by simp [tm] at h
  | .non, h => by simp [tm] at h
  | .bl _, h => by simp [tm] at h
  | .str _, h => by simp [tm] at h
  | .lst _, h => by simp [tm] at h
  | .scr _, h => by simp [tm] at h
  | .dic _ _, h => by simp [tm] at h
  | .dit _ _, h => by simp [tm] at h
  | .exn _, h => by simp [tm] at h
theorem tm_ind2 {P : D → Prop} (h1 : ∀ i, P (.int i)) (h2 : ∀ z ts, ts.length ≤ 3 → (∀ t ∈ ts, tm t = true ∧ P t) → P (.tup (.str z :: ts))) : ∀ ts, tms ts = true → ∀ t ∈ ts, tm t = true ∧ P t
  | [], _, t, ht => by cases ht
  | d :: r, h, t, ht => by
    simp only [tms, Bool.and_eq_true] at h
    have a := tm_ind1 h1 h2 d h.1
    have b := tm_ind2 h1 h2 r h.2
    rcases List.mem_cons.mp ht with e | e
    · rw [e]; exact ⟨h.1, a⟩
    · exact b t e
end
mutual
def bks : D → List Int
  | .int i => [i]
  | .tup (_ :: ts) => bkss ts
  | _ => []
def bkss : List D → List Int
  | [] => []
  | d :: r => bks d ++ bkss r
end
mutual
def ren (f : Int → Int) : D → D
  | .int i => .int (f i)
  | .tup (x :: ts) => .tup (x :: rens f ts)
  | d => d
def rens (f : Int → Int) : List D → List D
  | [] => []
  | d :: r => ren f d :: rens f r
end
mutual
def bare : D → D
  | .tup (x :: ts) => .tup (x :: bares ts)
  | _ => .int 0
def bares : List D → List D
  | [] => []
  | d :: r => bare d :: bares r
end
theorem eqbs_of : ∀ {ts : List D}, (∀ t ∈ ts, D.eqb t = true) → D.eqbs ts = true
  | [], _ => rfl
  | x :: r, h => by simp only [D.eqbs, Bool.and_eq_true]; exact ⟨h x (by simp), eqbs_of fun d hd => h d (by simp [hd])⟩
theorem deps_le {k : Nat} : ∀ {ts : List D}, (∀ t ∈ ts, D.dep t ≤ k) → D.deps ts ≤ k
  | [], _ => by simp [D.deps]
  | x :: r, h => by
    simp only [D.deps]
    have := h x (by simp)
    have := deps_le (ts := r) fun d hd => h d (by simp [hd])
    omega
theorem eqDs_self : ∀ {ts : List D}, (∀ t ∈ ts, eqD t t = true) → eqDs ts ts = true
  | [], _ => by simp [eqDs]
  | x :: r, h => by simp only [eqDs, Bool.and_eq_true]; exact ⟨h x (by simp), eqDs_self fun d hd => h d (by simp [hd])⟩
/-! ### numbers in the order in which they are met -/
def ins (l : List Int) (x : Int) : List Int := if x ∈ l then l else l ++ [x]
def met (l xs : List Int) : List Int := xs.foldl ins l
def idx (l : List Int) (x : Int) : Int := ((l.idxOf x : Nat) : Int)
/-! ### a dict from numbers to their places -/
def dvs (n : Nat) : List Int → List D
  | [] => []
  | _ :: r => .int n :: dvs (n + 1) r
def kys (l : List Int) : List Key := l.map Sum.inl
end M

set_option Elab.async false
set_option linter.all false
set_option maxRecDepth 100000
set_option maxHeartbeats 4000000
namespace M
open PySem PySem.Spec L2
/-! ### terms by names of a list, up to nine places -/
mutual
def tk (ns : List Str) : D → Bool
  | .int _ => true
  | .tup (.str z :: ts) => decide (z ∈ ns) && (decide (ts.length ≤ 9) && tks ns ts)
  | _ => false
def tks (ns : List Str) : List D → Bool
  | [] => true
  | d :: r => tk ns d && tks ns r
end
section
variable {ns : List Str}
mutual
theorem tk_ind1 {P : D → Prop} (h1 : ∀ i, P (.int i)) (h2 : ∀ z ts, z ∈ ns → ts.length ≤ 9 → (∀ t ∈ ts, tk ns t = true ∧ P t) → P (.tup (.str z :: ts))) : ∀ t, tk ns t = true → P t
  | .int i, _ => h1 i
  | .tup (x :: ts), h => by
    cases x with
    | str z =>
      simp only [tk, Bool.and_eq_true, decide_eq_true_eq] at h
      exact h2 z ts h.1 h.2.1 (tk_ind2 h1 h2 ts h.2.2)
    | _ => simp [tk] at h
  | .tup [], h => by simp [tk] at h
  | .non, h => by simp [tk] at h
  | .bl _, h => by simp [tk] at h
  | .str _, h => by simp [tk] at h
  | .lst _, h => by simp [tk] at h
  | .scr _, h => by simp [tk] at h
  | .dic _ _, h => by simp [tk] at h
  | .dit _ _, h => by simp [tk] at h
  | .exn _, h => by simp [tk] at h
theorem tk_ind2 {P : D → Prop} (h1 : ∀ i, P (.int i)) (h2 : ∀ z ts, z ∈ ns → ts.length ≤ 9 → (∀ t ∈ ts, tk ns t = true ∧ P t) → P (.tup (.str z :: ts))) : ∀ ts, tks ns ts = true → ∀ t ∈ ts, tk ns t = true ∧ P t
  | [], _, t, ht => by cases ht
  | d :: r, h, t, ht => by
    simp only [tks, Bool.and_eq_true] at h
    have a := tk_ind1 h1 h2 d h.1
    have b := tk_ind2 h1 h2 r h.2
    rcases List.mem_cons.mp ht with e | e
    · rw [e]; exact ⟨h.1, a⟩
    · exact b t e
end
theorem tks_of : ∀ {ts : List D}, (∀ t ∈ ts, tk ns t = true) → tks ns ts = true
  | [], _ => rfl
  | x :: r, h => by simp only [tks, Bool.and_eq_true]; exact ⟨h x (by simp), tks_of fun d hd => h d (by simp [hd])⟩
theorem tks_mem : ∀ {ts : List D} {t : D}, tks ns ts = true → t ∈ ts → tk ns t = true
  | x :: r, t, h, ht => by
    simp only [tks, Bool.and_eq_true] at h
    rcases List.mem_cons.mp ht with rfl | ht
    · exact h.1
    · exact tks_mem h.2 ht
theorem tk_nd {z : Str} {ts : List D} (hz : z ∈ ns) (h : ts.length ≤ 9) (ht : ∀ t ∈ ts, tk ns t = true) : tk ns (.tup (.str z :: ts)) = true := by
  simp only [tk, Bool.and_eq_true, decide_eq_true_eq]; exact ⟨hz, h, tks_of ht⟩
/-- a term is a number, or a name and places -/
theorem tk_cases {t : D} (h : tk ns t = true) : (∃ i, t = .int i) ∨ ∃ z ts, t = .tup (.str z :: ts) ∧ z ∈ ns ∧ ts.length ≤ 9 ∧ ∀ u ∈ ts, tk ns u = true := by
  cases t with
  | int i => exact .inl ⟨i, rfl⟩
  | tup ds =>
    cases ds with
    | nil => simp [tk] at h
    | cons x ts =>
      cases x with
      | str z =>
        simp only [tk, Bool.and_eq_true, decide_eq_true_eq] at h
        exact .inr ⟨z, ts, rfl, h.1, h.2.1, fun u hu => tks_mem h.2.2 hu⟩
      | _ => simp [tk] at h
  | _ => simp [tk] at h
theorem fine_tk : ∀ t, tk ns t = true → fine t = true := tk_ind1 (fun i => rfl) fun z ts _ hl h => by
  simp only [fine, fines, Bool.and_eq_true, decide_eq_true_eq, List.length_cons, true_and]
  exact ⟨by omega, fines_of fun t ht => (h t ht).2⟩
theorem imm_tk : ∀ t, tk ns t = true → t.imm = true := tk_ind1 (fun i => rfl) fun z ts _ hl h => by
  show (true && D.imms ts) = true
  rw [Bool.true_and]; exact imms_iff.mpr fun t ht => (h t ht).2
/-! ### the greatest of numbers -/
/-! ### the parts with their levels -/
mutual
def pl (k : Nat) : D → List (D × Nat)
  | .tup (x :: r) => (.tup (x :: r), k) :: pls (k + 1) r
  | d => [(d, k)]
def pls (k : Nat) : List D → List (D × Nat)
  | [] => []
  | d :: r => pl k d ++ pls k r
end
def PlOk (t : D) : Prop := ∀ k, (pl k t).map (·.1) = pts t ∧ (∀ p ∈ pl k t, p.2 + 1 ≤ k + hgt t) ∧ ∃ p ∈ pl k t, p.2 + 1 = k + hgt t
/-- a part with its level, as a datum -/
def pr (p : D × Nat) : D := .tup [p.1, .int (p.2 : Int)]
/-! ### numbers and heads of parts -/
def intL : List D → List Int
  | [] => []
  | .int i :: r => i :: intL r
  | _ :: r => intL r
def hdL : List D → List Hd
  | [] => []
  | .tup (.str z :: ts) :: r => (z, (ts.length : Int)) :: hdL r
  | _ :: r => hdL r
def hins (l : List Hd) (a : Hd) : List Hd := if a ∈ l then l else l ++ [a]
def hmet (l xs : List Hd) : List Hd := xs.foldl hins l
/-! ### dicts of heads -/
def htrs (l : List Hd) : List D := l.map fun _ => .bl true
/-! ### in a list -/
theorem eqbs_map {α : Type} {f : α → D} (h : ∀ a, D.eqb (f a) = true) (l : List α) : D.eqbs (l.map f) = true := eqbs_of fun t ht => by
  obtain ⟨a, _, rfl⟩ := List.mem_map.mp ht
  exact h a
theorem deps_map {α : Type} {f : α → D} {k : Nat} (h : ∀ a, D.dep (f a) ≤ k) (l : List α) : D.deps (l.map f) ≤ k := deps_le fun t ht => by
  obtain ⟨a, _, rfl⟩ := List.mem_map.mp ht
  exact h a
theorem cmp_same {ds : List D} (h1 : D.eqbs ds = true) (h2 : D.deps ds ≤ 100) : eqR (.lst ds) (.lst ds) = .ok (.bl true) ∧ neR (.lst ds) (.lst ds) = .ok (.bl false) := by
  have h3 : eqD (.lst ds) (.lst ds) = true := eqD_refl _ (by simp only [D.eqb]; exact h1)
  have hc : EqC (.lst ds) (.lst ds) := .inl ⟨by simp only [D.eqb]; exact h1, by simp only [D.eqb]; exact h1, by simp only [D.dep]; omega⟩
  unfold eqR neR
  rw [must_pos hc, must_pos hc, h3]; exact ⟨rfl, rfl⟩
theorem all_true : ∀ {α : Type} (l : List α), allD [.lst (l.map fun _ => .bl true)] = .ok (.bl true) := fun l => by
  have e : bools (l.map fun _ => D.bl true) = some (l.map fun _ => true) := by
    induction l with
    | nil => rfl
    | cons a l ih => simp [bools, ih]
  show (match bools (l.map fun _ => D.bl true) with | some bs => _ | none => _) = _
  rw [e]
  simp
/-! ### sums of shares -/
def sumN (a s : Nat) : Nat → Nat
  | 0 => 0
  | k + 1 => sumN a s k + (a + k) / s
end
end M

set_option Elab.async false
set_option linter.all false
set_option maxRecDepth 100000
set_option maxHeartbeats 4000000
namespace M
open PySem PySem.Spec L2
open PyProof.Rows hiding St
/-! ### divmod -/
def divmodD : List D → Res D
  | [.int i, .int j] => must (0 < j ∧ j < 1073741824) (.ok (.tup [.int (i / j), .int (i % j)]))
  | _ => .stuck
/-! ### enumerate -/
section
variable {X : Cx} {pins : List (Addr × Obj)} {σ : L2.St} {H : Hp} {s : Shared}
theorem inv_turned2 {t' : Nat} {h' : Heap} {i1 i2 : Addr} (I : Inv X pins σ H s) (k : ∀ b o, b ≠ i1 → b ≠ i2 → s.heap.get? b = some o → h'.get? b = some o) (f1 : FpOk X pins H i1) (f2 : FpOk X pins H i2) : Inv X pins σ H { s with heap := h', toks := t' } := by
  obtain ⟨a0, a1, _, a3, a4, a5⟩ := f1
  obtain ⟨b0, b1, _, b3, b4, b5⟩ := f2
  have n1 : ∀ b u, H b = some u → b ≠ i1 := fun b u e z => by rw [z, a0] at e; cases e
  have n2 : ∀ b u, H b = some u → b ≠ i2 := fun b u e z => by rw [z, b0] at e; cases e
  have kk : ∀ b o, b ∉ [i1, i2] → s.heap.get? b = some o → h'.get? b = some o := fun b o hc e => k b o (fun z => hc (by simp [z])) (fun z => hc (by simp [z])) e
  refine I.step (g' := s.gens) (d' := s.drawn) (ch := [i1, i2]) (fun b hb => ?_) (fun b o _ _ hc e _ => kk b o hc e) (fun b o _ _ hc e _ => ⟨o.slots, kk b o hc e⟩) (fun _ _ _ _ n => n)
    (fun b o hc e => ⟨o, kk b o hc e⟩) (fun _ _ e => e) (fun _ _ _ e => e) (fun b ps e => ⟨#[], by rw [e]; simp⟩) (fun m hm => ?_) (fun b u e => ?_) I.bare
  · simp only [List.mem_cons, List.not_mem_nil, or_false] at hb
    rcases hb with rfl | rfl
    · exact ⟨a3, a1, a4, a5⟩
    · exact ⟨b3, b1, b4, b5⟩
  · obtain ⟨o, es, ep, ho, r⟩ := hm
    exact ⟨o, es, ep, k _ o (Ne.symm a1) (Ne.symm b1) ho, r⟩
  · refine (I.hok b u e).stay (fun c v hc q => k c v ?_ ?_ q) (fun _ q => q) fun _ _ q => q
    · rcases hc with z | z
      · rw [z]; exact n1 b u e
      · exact n1 c _ z
    · rcases hc with z | z
      · rw [z]; exact n2 b u e
      · exact n2 c _ z
end
/-- xs with their places -/
def ItE (K : PySem.W.Frag) (a : Addr) (xs : List V) : It := ⟨fun i H => SqL K H a xs ∧ i < xs.length, fun i H v H' => ∃ p x, H p = none ∧ xs[i]? = some x ∧ v = .ref p ∧ H' = upd H p (.tup [.int (i : Int), x]), fun i H => SqL K H a xs ∧ xs.length ≤ i⟩
section
variable {X : Cx} {elts : List Expr} {n : Nat} {tpos p pos : Pos} {e : Expr} {f : Sl → Res D}
def pairsFrom : Nat → List D → List D
  | _, [] => []
  | k, d :: r => .tup [.int (k : Int), d] :: pairsFrom (k + 1) r
theorem pairs_len : ∀ (k : Nat) (ds : List D), (pairsFrom k ds).length = ds.length
  | _, [] => rfl
  | k, d :: r => by simp [pairsFrom, pairs_len (k + 1) r]
theorem pairs_get : ∀ (k i : Nat) (ds : List D), (pairsFrom k ds)[i]? = (ds[i]?).map fun d => .tup [.int ((k + i : Nat) : Int), d]
  | k, i, [] => by simp [pairsFrom]
  | k, 0, d :: r => by simp [pairsFrom]
  | k, i + 1, d :: r => by
    simp only [pairsFrom, List.getElem?_cons_succ]
    rw [pairs_get (k + 1) i r]
    congr 1
    funext d
    congr 3
    omega
def enumF (f : Sl → Res D) : Sl → Res (List D) := fun env => f env >>= fun d => match d with
  | .lst ds => .ok (pairsFrom 0 ds)
  | .scr ds => .ok (pairsFrom 0 ds)
  | _ => .stuck
end
end M

set_option Elab.async false
set_option linter.all false
set_option maxRecDepth 100000
set_option maxHeartbeats 4000000
namespace M
open PySem PySem.Spec L2
open PyProof.Rows hiding St
/-! ### sum of a list of ints -/
def sumI : List Int → Int
  | [] => 0
  | i :: r => i + sumI r
section
variable {X : Cx} {K : PySem.W.Frag}
def sumLD : List D → Res D
  | [.lst ds] => match intsOf ds with
    | some is => .ok (.int (sumI is))
    | none => .stuck
  | _ => .stuck
end
/-! ### > of tuples -/
open PySem.SeqAt (EqAt RcAt RcNeAt)
def GtAt (A : Around) (s : Shared) (y x : Value) (b : Bool) : Prop :=
  ∀ (prog : Program) (w : World) (E : Value → Shared → Prop) (Q : Value → Shared → Prop), Q (.bool b) s → wpAny (model prog w) A (richCompare .Gt y x) Q E s
/-- the answer at the first place where the two are unlike -/
def lexJ (e g : Nat → Bool) (z : Bool) : List Nat → Bool
  | [] => z
  | j :: r => if e j = true then lexJ e g z r else g j
open AutoSeq1 (wpAny_loadPart') in
mutual
def gtD : D → D → Bool
  | .int i, .int j => decide (j < i)
  | .str x, .str y => decide (y.cps.toList < x.cps.toList)
  | .tup a, .tup b => gtDs a b
  | _, _ => false
def gtDs : List D → List D → Bool
  | a :: as, b :: bs => if eqD a b = true then gtDs as bs else gtD a b
  | a :: as, [] => true
  | [], _ => false
end
mutual
/-- what is compared in order here -/
def cmpb : D → D → Bool
  | .int _, .int _ => true
  | .str _, .str _ => true
  | .tup a, .tup b => cmpbs a b
  | _, _ => false
def cmpbs : List D → List D → Bool
  | a :: as, b :: bs => if eqD a b = true then cmpbs as bs else cmpb a b
  | _, _ => true
end
def gtAtJ (a b : List D) (j : Nat) : Bool := match a[j]?, b[j]? with
  | some x, some y => gtD x y
  | _, _ => false
theorem lexJ_map (e g : Nat → Bool) (z : Bool) : ∀ l : List Nat, lexJ e g z (l.map Nat.succ) = lexJ (fun j => e (j + 1)) (fun j => g (j + 1)) z l
  | [] => rfl
  | j :: l => by
    simp only [List.map_cons, lexJ]
    rw [lexJ_map e g z l]
section
variable {X : Cx} {pins : List (Addr × Obj)} {σ : L2.St} {H : Hp} {s : Shared}
end
section
variable {X : Cx} {K : PySem.W.Frag}
def GtC (a b : D) : Prop := D.eqb a = true ∧ D.eqb b = true ∧ a.dep ≤ 190 ∧ cmpb a b = true
instance (a b : D) : Decidable (GtC a b) := inferInstanceAs (Decidable (_ ∧ _))
def rGtD (K : PySem.W.Frag) : R2 := fun x y H Q => ∃ a b, Rep K Any H x a ∧ Rep K Any H y b ∧ GtC a b ∧ Q (.bl (gtD a b)) H
def gtR (a b : D) : Res D := must (GtC a b) (.ok (.bl (gtD a b)))
end
end M

set_option Elab.async false
set_option linter.all false
set_option maxRecDepth 100000
set_option maxHeartbeats 4000000
namespace M
open PySem PySem.Spec L2
open PyProof.Rows hiding St
/-! ### exceptions that leave a def -/
theorem objOk_there {P : Program} {w : World} {H : Hp} {h : Heap} {a : Addr} {o : HO} (x : ObjOk P w H h a o) : ∃ ob, h.get? a = some ob := by
  cases o with
  | lst xs => obtain ⟨_, _, _, _, e⟩ := x; exact ⟨_, e⟩
  | tup xs => obtain ⟨_, _, _, ob, e, _⟩ := x; exact ⟨_, e⟩
  | dK kvs => obtain ⟨_, _, _, _, o, _, _, e, _⟩ := x; exact ⟨_, e⟩
  | dT kvs => obtain ⟨_, _, _, _, o, _, _, e, _⟩ := x; exact ⟨_, e⟩
  | set S n => obtain ⟨o, _, _, _, e, _⟩ := x; exact ⟨_, e⟩
  | ins C dx fs => obtain ⟨_, _, _, e, _⟩ := x; exact ⟨_, e⟩
  | own y => exact x
  | xd fs => obtain ⟨_, ⟨_, _, _, e, _⟩, _⟩ := x; exact ⟨_, e⟩
  | rng lo hi => obtain ⟨_, _, _, e⟩ := x; exact ⟨_, e⟩
  | frz ob u => obtain ⟨e, _⟩ := x; exact ⟨_, e⟩
  | tbl ps => exact ⟨_, (show h.get? a = some _ from x)⟩
  | met f y => exact ⟨_, (show h.get? a = some _ from x)⟩
  | ext φ => obtain ⟨_, z, _⟩ := x; exact z
/-- an exception lies behind a call: an object of the class at C; what is tracked, and what was there ahead of the call, stays -/
def CX1 (P : Program) (w : World) : CXT := fun outer H s E e s' => ∃ (a C : Addr) (H' : Hp) (B : Heap) (a0 : Value), e = .ref a ∧ s'.os = s.os ∧ AllBare s'.gens ∧ Un (frs outer) [] H H' s.heap s'.heap ∧ HOk P w H' s'.heap ∧ H' a = none ∧
  Heap.FlyingW B outer a (.ref C) a0 s'.heap ∧ (∀ b, b ∉ frs outer → ((∃ o, s.heap.get? b = some o) ∨ ∃ u, H' b = some u) → B.get? b = s'.heap.get? b) ∧ E (.ref C) none H'
section
variable {P : Program} {w : World} {K : PySem.W.Frag} {mg : Str → Option Value} {base : Heap} {N : List Str} {qual : Str} {scope : Scope} {f : Addr} {cd : Value} {A : Around} {outer : List Env} {s0 : Shared} {H0 : Hp} {E : XK}
  {pins : List (Addr × Obj)} {σ : L2.St} {H : Hp} {s : Shared}
/-- what the heap keeps on the way from h to h', where an exception leaves the frame -/
theorem left_un {h h' B : Heap} {a : Addr} {cls a0 : Value} (I : Inv (cxOf (CX1 P w) P w K mg base N qual scope f cd A outer s0 H0 E) pins σ H { s with heap := h })
    (fl : Heap.FlyingW B outer a cls a0 h') (inB : ∀ b o, h.get? b = some o → b ∉ frs (cxOf (CX1 P w) P w K mg base N qual scope f cd A outer s0 H0 E).stack → ((∃ o, s0.heap.get? b = some o) ∨ ∃ u, H b = some u) → B.get? b = some o)
    (up : ∀ b o, b ∈ frs (cxOf (CX1 P w) P w K mg base N qual scope f cd A outer s0 H0 E).stack → h.get? b = some o → (∀ vs, o.data ≠ .fields vs) → ∃ sl, h'.get? b = some { o with slots := sl }) :
    Un (frs outer) [] H0 H s0.heap h' ∧ HOk P w H h' ∧ ∀ b, b ∉ frs outer → ((∃ o, s0.heap.get? b = some o) ∨ ∃ u, H b = some u) → B.get? b = h'.get? b := by
  have nfr : ∀ b o, s0.heap.get? b = some o → b ∉ frs outer → b ∉ frs (cxOf (CX1 P w) P w K mg base N qual scope f cd A outer s0 H0 E).stack := fun b o q hb hm => by
    rcases List.mem_cons.mp (I.stkSub b hm) with e | e
    · have h1 : s0.heap.objs.size ≤ b := by rw [e]; exact I.ok.above
      exact Nat.lt_irrefl _ (Nat.lt_of_lt_of_le (Heap.lt_size q) h1)
    · exact hb e
  have trk : ∀ b u, H b = some u → b ∉ frs (cxOf (CX1 P w) P w K mg base N qual scope f cd A outer s0 H0 E).stack := fun b u q hm => by
    have := I.stkFree b hm
    rw [q] at this; cases this
  have B0 : Un (frs outer) [] H0 H s0.heap h := I.base
  have FF : h.FunFrames base (cxOf (CX1 P w) P w K mg base N qual scope f cd A outer s0 H0 E).stack := I.stack
  have sub : ∀ b ∈ frs outer, b ∈ frs (cxOf (CX1 P w) P w K mg base N qual scope f cd A outer s0 H0 E).stack := fun b hb => by
    show b ∈ frs (envOfC qual scope s0.heap.objs.size f cd :: outer)
    unfold frs at hb ⊢
    rw [List.filterMap_cons]
    split
    · exact hb
    · exact List.mem_cons_of_mem _ hb
  have slotOf : ∀ b o, b ∈ frs (cxOf (CX1 P w) P w K mg base N qual scope f cd A outer s0 H0 E).stack → h.get? b = some o → ∃ sl, h'.get? b = some { o with slots := sl } := fun b o hb q => by
    obtain ⟨_, o', ho', hd⟩ := FF.mem hb
    rw [q] at ho'; cases ho'
    exact up b o hb q hd
  refine ⟨⟨fun b o q n hb _ => ?_, fun b o q n hb _ => ?_, fun b o q n _ => B0.free b o q n (by simp), fun b o q _ => ?_, B0.tups, B0.frzs, B0.tbls⟩, fun b u q => ?_, fun b hb hc => ?_⟩
  · have h1 := B0.keep b o q n hb (by simp)
    exact fl.1 b o (inB b o h1 (nfr b o q hb) (.inl ⟨o, q⟩))
  · obtain ⟨sl, h1⟩ := B0.slot b o q n hb (by simp)
    obtain ⟨sl', h2⟩ := slotOf b _ (sub b hb) h1
    exact ⟨sl', h2⟩
  · obtain ⟨o', h1⟩ := B0.there b o q (by simp)
    by_cases hm : b ∈ frs (cxOf (CX1 P w) P w K mg base N qual scope f cd A outer s0 H0 E).stack
    · obtain ⟨sl, h2⟩ := slotOf b o' hm h1
      exact ⟨_, h2⟩
    · exact ⟨o', fl.1 b o' (inB b o' h1 hm (.inl ⟨o, q⟩))⟩
  · have h0 : ObjOk P w H h b u := I.hok b u q
    refine h0.stay (fun c v hc r => ?_) (fun _ z => z) fun _ _ z => z
    have ht : ∃ u, H c = some u := by
      rcases hc with z | z
      · rw [z]; exact ⟨u, q⟩
      · exact ⟨_, z⟩
    obtain ⟨u', hu'⟩ := ht
    exact fl.1 c v (inB c v r (trk c u' hu') (.inr ⟨u', hu'⟩))
  · have ht : ∃ o, h.get? b = some o ∧ b ∉ frs (cxOf (CX1 P w) P w K mg base N qual scope f cd A outer s0 H0 E).stack := by
      rcases hc with ⟨o, q⟩ | ⟨u, q⟩
      · obtain ⟨o', h1⟩ := B0.there b o q (by simp)
        exact ⟨o', h1, nfr b o q hb⟩
      · obtain ⟨ob, h1⟩ := objOk_there (show ObjOk P w H h b u from I.hok b u q)
        exact ⟨ob, h1, trk b u q⟩
    obtain ⟨o, h1, h2⟩ := ht
    have h3 := inB b o h1 h2 hc
    rw [h3, fl.1 b o h3]
/-- raised in the body: it leaves the def -/
theorem leave_made {h : Heap} {e C : Addr} {vs : List Value} (I : Inv (cxOf (CX1 P w) P w K mg base N qual scope f cd A outer s0 H0 E) pins σ H { s with heap := h }) (hx : Heap.MadeExcOf h s.heap e (.ref C) vs) (hE : E (.ref C) none H) :
    (cxOf (CX1 P w) P w K mg base N qual scope f cd A outer s0 H0 E).xe (.ref e) s := by
  have FF : h.FunFrames base (cxOf (CX1 P w) P w K mg base N qual scope f cd A outer s0 H0 E).stack := I.stack
  have FF2 : h.FunFrames (PySem.W.hideAll h (frs (cxOf (CX1 P w) P w K mg base N qual scope f cd A outer s0 H0 E).stack)) (cxOf (CX1 P w) P w K mg base N qual scope f cd A outer s0 H0 E).stack :=
    PySem.W.funFrames_hide FF fun env he b hb => List.mem_filterMap.mpr ⟨env, he, hb⟩
  have hen : H e = none := by
    cases q : H e with
    | none => rfl
    | some u =>
      obtain ⟨ob, z⟩ := objOk_there (show ObjOk P w H h e u from I.hok e u q)
      rw [hx.new] at z; cases z
  refine wpAny_leaves_madeW (base := PySem.W.hideAll h (frs (cxOf (CX1 P w) P w K mg base N qual scope f cd A outer s0 H0 E).stack)) (L := s0.heap.objs.size) I.ok.frames rfl (fun b o q => PySem.W.of_hideAll _ q) FF2 hx fun h' t fl tup hn ups => ?_
  obtain ⟨u1, u2, u3⟩ := left_un (s := s) I fl (fun b o q hb _ => PySem.W.hideAll_get _ q hb) fun b o hb q hd => ups b o (hx.keeps b o q) hd
  exact ⟨e, C, H, _, _, rfl, I.os, I.bare, u1, u2, hen, fl, u3, hE⟩
/-- come from a call: it leaves the def -/
theorem leave_on {E1 : XK} {e : Value} {s' : Shared} (I : Inv (cxOf (CX1 P w) P w K mg base N qual scope f cd A outer s0 H0 E) pins σ H s) (c : CX1 P w (cxOf (CX1 P w) P w K mg base N qual scope f cd A outer s0 H0 E).stack H s E1 e s')
    (hE : ∀ C H', E1 (.ref C) none H' → E (.ref C) none H') : (cxOf (CX1 P w) P w K mg base N qual scope f cd A outer s0 H0 E).xe e s' := by
  obtain ⟨a, C, H', B, a0, rfl, os, bare, un, hok, ha, fl, cov, hE1⟩ := c
  have J : Inv (cxOf (CX1 P w) P w K mg base N qual scope f cd A outer s0 H0 E) pins σ H' s' := I.call' os un hok bare fun b hb => absurd hb (by simp)
  refine wpAny_leaves_onW (L := s0.heap.objs.size) J.ok.frames rfl fl fun h' fl' ups => ?_
  have B0 : Un (frs outer) [] H0 H s0.heap s.heap := I.base
  obtain ⟨u1, u2, u3⟩ := left_un (s := s') (h := s'.heap) J fl' (fun b o q hb hc => by
    rw [cov b hb ?_, q]
    rcases hc with ⟨o', z⟩ | z
    · obtain ⟨o2, z2⟩ := B0.there b o' z (by simp)
      exact .inl ⟨o2, z2⟩
    · exact .inr z) fun b o hb q hd => ups b o q hd
  exact ⟨a, C, H', B, a0, rfl, J.os, J.bare, u1, u2, ha, fl', u3, hE C H' hE1⟩
end
end M

set_option Elab.async false
set_option linter.all false
set_option maxRecDepth 100000
set_option maxHeartbeats 4000000
namespace M
open PySem PySem.Spec L2
open PyProof.Rows hiding St
/-! ### what may raise -/
/-- the class at C is the program's own one by that name -/
abbrev NmC (K : PySem.W.Frag) (c : Str) (C : Addr) : Prop := PySem.W.nsIn K mainGlobals c = some (some (.ref C))
/-- an exception by that name, in a heap grown from H -/
def XE (K : PySem.W.Frag) (c : Str) (H : Hp) : XK := fun cls _ H' => ∃ C, cls = .ref C ∧ NmC K c C ∧ Same H H'
/-- out of a call: it reaches what is wished -/
def ThrB (X : Cx) (c : Str) (σ : L2.St) (H : Hp) : Prop := ∀ pins H1 s e s', Same H H1 → Inv X pins σ H1 s → CX1 X.prog X.w X.stack H1 s (XE X.K c H1) e s' → X.xe e s'
/-- raised here: it reaches what is wished -/
def ThrA (X : Cx) (c : Str) (H0 : Hp) : Prop := ∀ pins σ H (s : Shared) h e C vs, Same H0 H → NmC X.K c C → Inv X pins σ H { s with heap := h } → Heap.MadeExcOf h s.heap e (.ref C) vs → X.xe (.ref e) s
structure Thr (X : Cx) (c : Str) (H0 : Hp) : Prop where
  a : ThrA X c H0
  b : ∀ σ H, Same H0 H → ThrB X c σ H
def tEX (X : Cx) (l : Lv) (f : Sl → Res D) : TE := fun σ H Q => ∃ G H0 env, EnvOk X.K G H0 env σ H ∧
  ((∃ d, f env = .ok d ∧ ∀ v H', Same H H' → Rep X.K (l.A G env σ) H' v d → l.T H v → Q v H') ∨ ∃ c, f env = .exc c ∧ ThrB X c σ H)
def tSX (X : Cx) (g : Sl → Res Out) : TS := fun E σ H => ∃ G H0 env, EnvOk X.K G H0 env σ H ∧ ((∃ o, g env = .ok o ∧ Post X.K G H0 env σ H E o) ∨ ∃ c, g env = .exc c ∧ Thr X c H0)
@[irreducible] def DEX (X : Cx) (l : Lv) (e : Expr) (f : Sl → Res D) : Prop := PE X e (tEX X l f)
@[irreducible] def DSX (X : Cx) (st : Stmt) (g : Sl → Res Out) : Prop := PS X st (tSX X g)
@[irreducible] def DSsX (X : Cx) (st : List Stmt) (g : Sl → Res Out) : Prop := PSs X st (tSX X g)
def nx1 {α : Type} (r : Res α) : Res α := match r with
  | .ok a => .ok a
  | _ => .stuck
theorem nx1_ok {α : Type} {r : Res α} {a : α} (h : nx1 r = .ok a) : r = .ok a := by
  cases r with
  | ok b => exact h
  | exc c => cases h
  | stuck => cases h
theorem nx1_exc {α : Type} {r : Res α} {c : Str} (h : nx1 r = .exc c) : False := by
  cases r <;> cases h
theorem bind_exc {α β : Type} {r : Res α} {f : α → Res β} {c : Str} (h : (r >>= f) = .exc c) : r = .exc c ∨ ∃ a, r = .ok a ∧ f a = .exc c := by
  cases r with
  | ok a => exact .inr ⟨a, rfl, h⟩
  | exc d => cases h; exact .inl rfl
  | stuck => cases h
/-- what raises nothing -/
def calmO (g : Sl → Res Out) : Sl → Res Out := fun env => nx1 (g env)
def calmE (f : Sl → Res D) : Sl → Res D := fun env => nx1 (f env)
section
variable {X : Cx} {e c tg : Expr} {st : Stmt} {rest body orelse : List Stmt} {pos : Pos} {l : Lv} {f : Sl → Res D} {g g1 g2 : Sl → Res Out}
theorem DS.x (h : DS X st g) : DSX X st (calmO g) := by
 with_unfolding_all exact (PS.imp h fun E σ H ⟨G, H0, env, k, q⟩ => by
  rcases q with ⟨o, e1, q⟩ | ⟨c, e1, _⟩
  · exact ⟨G, H0, env, o, k, nx1_ok e1, q⟩
  · exact (nx1_exc e1).elim)
theorem DSs.x {sts : List Stmt} (h : DSs X sts g) : DSsX X sts (calmO g) := by
 with_unfolding_all exact (PSs.imp h fun E σ H ⟨G, H0, env, k, q⟩ => by
  rcases q with ⟨o, e1, q⟩ | ⟨c, e1, _⟩
  · exact ⟨G, H0, env, o, k, nx1_ok e1, q⟩
  · exact (nx1_exc e1).elim)
theorem dssx_cons (h1 : DSX X st g1) (h2 : DSsX X rest g2) : DSsX X (st :: rest) (seqO g1 g2) := by
 with_unfolding_all exact (PSs.imp (pss_cons h1 h2) fun E σ H ⟨G, H0, env, k, q⟩ => by
  rcases q with ⟨o, ef, q⟩ | ⟨c, ef, th⟩
  · obtain ⟨o1, e1, e2⟩ := bind_inv ef
    refine ⟨G, H0, env, k, .inl ⟨o1, e1, ?_⟩⟩
    cases o1 with
    | nx env1 => exact fun σ' H' k' f' => ⟨G, H0, env1, k', .inl ⟨o, e2, out_tr f' q⟩⟩
    | rt fr d => cases e2; exact q
    | bk e' => cases e2; exact q
    | ct e' => cases e2; exact q
  · rcases bind_exc ef with e1 | ⟨o1, e1, e2⟩
    · exact ⟨G, H0, env, k, .inr ⟨c, e1, th⟩⟩
    · cases o1 with
      | nx env1 => exact ⟨G, H0, env, k, .inl ⟨_, e1, fun σ' H' k' f' => ⟨G, H0, env1, k', .inr ⟨c, e2, th⟩⟩⟩⟩
      | rt fr d => cases e2
      | bk e' => cases e2
      | ct e' => cases e2)
theorem dssx_one (h1 : DSX X st g1) : DSsX X [st] g1 := by
 with_unfolding_all exact (PSs.imp (pss_one h1) fun E σ H q => q)
theorem dsx_retS (h : DEX X .s e f) : DSX X (.Return (some e) pos) (retS f) := by
 with_unfolding_all exact (PS.imp (ps_ret h) fun E σ H ⟨G, H0, env, k, q⟩ => by
  rcases q with ⟨o, ef, q⟩ | ⟨c, ef, th⟩
  · obtain ⟨d, e1, e2⟩ := bind_inv ef
    cases e2
    exact ⟨G, H0, env, k, .inl ⟨d, e1, fun v H' s r nt => q v H' (k.base.trans s) (r.weak fun a z => z.2) fun z => by cases z⟩⟩
  · rcases bind_exc ef with e1 | ⟨d, e1, e2⟩
    · exact ⟨G, H0, env, k, .inr ⟨c, e1, th.b σ H k.base⟩⟩
    · cases e2)
def ifX (t : Sl → Res Bool) (g1 g2 : Sl → Res Out) : Sl → Res Out := fun env => match t env with
  | .ok b => if b = true then g1 env else g2 env
  | _ => .stuck
theorem dsx_if {t : Sl → Res Bool} (hc : DT X c t) (h1 : DSsX X body g1) (h2 : DSsX X orelse g2) : DSX X (.If c body orelse pos) (ifX t g1 g2) := by
 with_unfolding_all exact (PS.imp (ps_if hc h1 h2) fun E σ H ⟨G, H0, env, k, q⟩ => by
  have key : ∃ b, t env = .ok b ∧ ifX t g1 g2 env = if b = true then g1 env else g2 env := by
    cases e1 : t env with
    | ok b => exact ⟨b, rfl, by unfold ifX; rw [e1]⟩
    | _ =>
      have z : ifX t g1 g2 env = .stuck := by unfold ifX; rw [e1]
      rcases q with ⟨o, ef, _⟩ | ⟨c, ef, _⟩ <;> (rw [z] at ef; cases ef)
  obtain ⟨b, e1, e2⟩ := key
  rw [e2] at q
  refine ⟨G, H0, env, b, k, e1, fun H' s => ?_⟩
  cases b with
  | true =>
    rw [if_pos rfl] at q ⊢
    rcases q with ⟨o, ef, q⟩ | ⟨c, ef, th⟩
    · exact ⟨G, H0, env, k.grow s, .inl ⟨o, ef, out_tr (Frm.refl s) q⟩⟩
    · exact ⟨G, H0, env, k.grow s, .inr ⟨c, ef, th⟩⟩
  | false =>
    rw [if_neg Bool.false_ne_true] at q ⊢
    rcases q with ⟨o, ef, q⟩ | ⟨c, ef, th⟩
    · exact ⟨G, H0, env, k.grow s, .inl ⟨o, ef, out_tr (Frm.refl s) q⟩⟩
    · exact ⟨G, H0, env, k.grow s, .inr ⟨c, ef, th⟩⟩)
theorem dsx_setS (i : Nat) {x : Str} {pos' : Pos} (hN : X.N.Nodup) (h : DEX X .s e f) (hi : X.N[i]? = some x := by rfl) (hx : Loc X.env.scope x := by first | exact Or.inl rfl | exact Or.inr rfl) (hs : swapsWith e (some (.Name x pos')) pos.line X.env = pure false := by rfl)
    (hf : X.fn x = true ∨ X.env.scope.names.lookup x = some .local := by first | exact .inl rfl | exact .inr rfl | assumption) : DSX X (.Assign [.Name x pos'] e pos) (setOs i f) := by
 with_unfolding_all exact (
  PS.imp (ps_set (i := i) hN hi hx h hs hf) fun E σ H ⟨G, H0, env, k, q⟩ => by
    rcases q with ⟨o, ef, q⟩ | ⟨c, ef, th⟩
    · obtain ⟨d, e1, e2⟩ := bind_inv ef
      cases e2
      exact ⟨G, H0, env, k, .inl ⟨d, e1, fun v H' s r _ => q _ H' ((k.grow s).setS r) (.set s fun _ _ z _ => by cases z)⟩⟩
    · rcases bind_exc ef with e1 | ⟨d, e1, e2⟩
      · exact ⟨G, H0, env, k, .inr ⟨c, e1, th.b σ H k.base⟩⟩
      · cases e2)
theorem dsx_expr (h : DEX X l e f) (hs : swapsWith e none pos.line X.env = pure false := by rfl) : DSX X (.Expr e pos) (dropO f) := by
 with_unfolding_all exact (PS.imp (ps_expr h hs) fun E σ H ⟨G, H0, env, k, q⟩ => by
    rcases q with ⟨o, ef, q⟩ | ⟨c, ef, th⟩
    · obtain ⟨d, e1, e2⟩ := bind_inv ef
      cases e2
      exact ⟨G, H0, env, k, .inl ⟨d, e1, fun v H' s r _ => q σ H' (k.grow s) (Frm.refl s)⟩⟩
    · rcases bind_exc ef with e1 | ⟨d, e1, e2⟩
      · exact ⟨G, H0, env, k, .inr ⟨c, e1, th.b σ H k.base⟩⟩
      · cases e2)
end
/-! ### calls of what may raise -/
def spX (K : PySem.W.Frag) (fr : Bool) (n : Nat) (F : List D → Res D) : Sp := fun vs H Q E => ∃ B ds, vs.length = n ∧ Reps K B H vs ds ∧
  ((∃ d, F ds = .ok d ∧ ∀ v H', Same H H' → Rep K (fun a => H a = none ∨ B a) H' v d → (fr = true → NewTop H v) → Q v H') ∨
    ∃ c, F ds = .exc c ∧ ∀ C H', NmC K c C → Same H H' → E (.ref C) none H')
structure AvX (P : Program) (w : World) (K : PySem.W.Frag) (mg : Str → Option Value) (base : Heap) (k : Nat) (x : Str) (ps : List Str) (fr : Bool) (F : List D → Res D) : Prop where
  ex : ∃ f fd, FnOk P w K mg base (CX1 P w) k f fd ps (spX K fr ps.length F) ∧ mg x = some (.ref f) ∧ PySem.W.keepIn K (.ref f) = true ∧ Binds K fd ps []
theorem AvX.mono {P : Program} {w : World} {K : PySem.W.Frag} {mg : Str → Option Value} {base : Heap} {j k : Nat} {x : Str} {ps : List Str} {fr : Bool} {F : List D → Res D} (h : AvX P w K mg base j x ps fr F) (hj : j ≤ k) : AvX P w K mg base k x ps fr F :=
  let ⟨f, fd, a, b⟩ := h.ex
  ⟨f, fd, a.mono hj, b⟩
def callX (n : Nat) (F : List D → Res D) (g : Sl → Res (List D)) : Sl → Res D := fun env => match g env with
  | .ok ds => must (ds.length = n) (F ds)
  | _ => .stuck
section
variable {X : Cx} {k : Nat} {x : Str} {ps : List Str} {fr : Bool} {F : List D → Res D} {e : Expr} {es : List Expr} {p pos : Pos} {g : Sl → Res (List D)}
theorem run_fnX {CX : CXT} {f : Addr} {fd : FuncData} {sp : Sp} {E : XK} {pins : List (Addr × Obj)} {σ : L2.St} {H : Hp} {s : Shared} {Q : VK} {us : List Value} {vs : List V} (F : FnOk X.prog X.w X.K X.mg X.base CX k f fd ps sp) (hr : Room k X.A) (hb : Binds X.K fd ps [])
    (I : Inv X pins σ H s) (r : Vals vs us) (h : sp vs H Q E) (hx : ∀ e s', CX X.stack H s E e s' → X.xe e s') : wpAny (model X.prog X.w) X.A (call (.ref f) us) (EP X pins σ Q) X.xe s := by
  have hl : us.length = ps.length := by rw [← r.length]; exact F.len _ _ _ _ h
  have hb' := hb s us I.kIn (by rw [List.append_nil]; exact hl)
  rw [List.append_nil] at hb'
  refine wpAny_call (codeAny_mono (F.run X.A X.stack s H ⟨us, []⟩ us vs Q E hr I.env0 hb' r h) fun r s' hq => ?_)
  cases r with
  | error e => exact hx e s' hq
  | ok fl =>
    cases fl with
    | ret u => exact I.after hq
    | next => exact False.elim hq
    | brk => exact False.elim hq
    | cont => exact False.elim hq
theorem AvX.call {n : Nat} (A : AvX X.prog X.w X.K X.mg X.base k x ps fr F) (hr : Room k X.A) (ha : DA X .s (e :: es) g) (hn : ps.length = n := by rfl) (hg : Gl X x := by rfl) (hdb : (x == ("__debug__" : Str)) = false := by decide)
    (he : starEach (e :: es) X.env = (false, eval e X.env) :: starEach es X.env := by exact star_plain rfl) (hpl : (backTo pos (starEach es X.env)).any (·.1) = false := by exact any_plain rfl) : DEX X (if fr = true then .t else .s) (.Call (.Name x p) (e :: es) [] pos) (callX n F g) := by
  subst hn
  obtain ⟨f, fd, h1, h2, h3, h4⟩ := A.ex
  with_unfolding_all exact (by
  intro pins s σ H Q I ⟨G, H0, env, kk, q⟩
  have key : ∃ ds, g env = .ok ds ∧ callX ps.length F g env = must (ds.length = ps.length) (F ds) := by
    cases e1 : g env with
    | ok ds => exact ⟨ds, rfl, by unfold callX; rw [e1]⟩
    | _ =>
      have z : callX ps.length F g env = .stuck := by unfold callX; rw [e1]
      rcases q with ⟨o, ef, _⟩ | ⟨c, ef, _⟩ <;> (rw [z] at ef; cases ef)
  obtain ⟨ds, e1, e2⟩ := key
  rw [e2] at q
  refine wpAny_Call_Name_kw (ld_glob I hg h2 ?_ hdb)
  refine PySem.W.callWith_K (h₀ := X.base) I.ok.mod.kin h3 (thn ((show PA X (e :: es) (tA X.K .s g) from ha) pos pins s σ H (fun vs H1 => Same H H1 ∧ Reps X.K (Sf G env σ) H1 vs ds) I ⟨G, H0, env, ds, kk, e1, fun vs H' s' r' => ⟨s', r'⟩⟩) fun us s1 ⟨vs, H1, I1, r, sm, rs⟩ => ⟨I1.kIn, ?_⟩) he hpl
  rcases q with ⟨d, ef, q⟩ | ⟨c, ef, th⟩
  · obtain ⟨hn, e3⟩ := must_inv ef
    refine run_fnX (E := fun _ _ _ => False) h1 hr h4 I1 r ⟨_, ds, by rw [rs.length]; exact hn, rs, .inl ⟨d, e3, fun v H2 s2 r2 nt => ?_⟩⟩ fun e s' cx => ?_
    · have r3 : Rep X.K (Sf G env σ) H2 v d := r2.weak fun c z => z.elim (fun z => kk.new c (Same.free sm z)) fun z => z
      cases fr with
      | true => exact q v H2 (sm.trans s2) r3 ((nt rfl).grow sm)
      | false => exact q v H2 (sm.trans s2) r3 trivial
    · obtain ⟨_, _, _, _, _, _, _, _, _, _, _, _, _, z⟩ := cx
      exact z.elim
  · have hm : ds.length = ps.length ∧ F ds = .exc c := by
      unfold must at ef
      by_cases hc : ds.length = ps.length
      · rw [if_pos hc] at ef; exact ⟨hc, ef⟩
      · rw [if_neg hc] at ef; cases ef
    refine run_fnX (E := XE X.K c H1) h1 hr h4 I1 r ⟨_, ds, by rw [rs.length]; exact hm.1, rs, .inr ⟨c, hm.2, fun C H' hC s' => ⟨C, rfl, hC, s'⟩⟩⟩ fun e s' cx => ?_
    exact th pins H1 s1 e s' sm I1 cx)
end
/-! ### a def that may raise -/
def runX (fr : Bool) (n : Nat) (g : Sl → Res Out) (ds : List D) : Res D := match g (startE n ds) with
  | .ok (.rt fr' d) => if fr = true ∧ fr' = false then .stuck else .ok d
  | .ok (.nx _) => .ok .non
  | .exc c => .exc c
  | _ => .stuck
theorem runX_exc {fr : Bool} {n : Nat} {g : Sl → Res Out} {ds : List D} {c : Str} (h : runX fr n g ds = .exc c) : g (startE n ds) = .exc c := by
  unfold runX at h
  split at h
  · split at h <;> cases h
  · cases h
  · cases h; assumption
  · cases h
theorem runX_meets {fr : Bool} {n : Nat} {g : Sl → Res Out} {ds : List D} {d : D} (h : runX fr n g ds = .ok d) : Meets fr n g ds d := by
  unfold runX at h
  split at h
  · rename_i fr' d' e
    split at h
    · cases h
    · rename_i hn
      cases h
      refine .inl ⟨fr', e, fun hf => ?_⟩
      cases fr' with
      | true => rfl
      | false => exact absurd ⟨hf, rfl⟩ hn
  · rename_i env' e
    cases h
    exact .inr ⟨rfl, env', e⟩
  · cases h
  · cases h
section
variable {P : Program} {w : World} {K : PySem.W.Frag} {mg : Str → Option Value} {base : Heap}
theorem avx_ok {x : Str} {st : Stmt} {f : Addr} {fd : FuncData} {N ps : List Str} {k : Nat} (fr : Bool) {g : Sl → Res Out} (Fu : Fun K x x st f fd) (hmg : mg x = some (.ref f)) (S : FnScope N ps (defScope st)) (hbi : Binds K fd ps [])
    (hb : ∀ (cdv : Value) (A : Around) (outer : List Env) (s : Shared) (H : Hp) (E : XK), Room k (A.deeper (envOfC x (defScope st) s.heap.objs.size f cdv)) → DSsX (cxOf (CX1 P w) P w K mg base N x (defScope st) f cdv A outer s H E) (defBody st) g) :
    AvX P w K mg base (k + 1) x ps fr (runX fr N.length g) := by
  refine ⟨f, fd, ?_, hmg, Fu.kp, hbi⟩
  with_unfolding_all exact (by
  obtain ⟨oc, od, kV, doc, pm, an, cdv, ct, osl, rfl, lk, hcd⟩ := Fu.ex
  refine fn_of lk hcd S (fun vs H Q E ⟨B, ds, hl, _⟩ => hl) fun A outer s H vs Q E hr h => ?_
  obtain ⟨B, ds, hl, r, q⟩ := h
  refine ⟨_, hb cdv A outer s H E hr, ?_⟩
  have kk := env_start (N := N) r
  rcases q with ⟨d, e, q⟩ | ⟨c, e, q⟩
  · rcases runX_meets e with ⟨fr', z, hf⟩ | ⟨rfl, env', z⟩
    · exact ⟨_, H, _, kk, .inl ⟨_, z, fun v H' s r nt => q v H' s r fun hh => nt (hf hh)⟩⟩
    · exact ⟨_, H, _, kk, .inl ⟨_, z, fun σ' H' k' f' => q .non H' k'.base .non fun _ a e => by cases e⟩⟩
  · refine ⟨_, H, _, kk, .inr ⟨c, runX_exc e, fun pins σ H1 s1 h e C vs sm hC I hx => leave_made I hx (q C H1 hC sm), fun σ H1 sm pins H2 s1 e s' sm2 I cx => leave_on I cx fun C H' z => ?_⟩⟩
    obtain ⟨C', e', hC, s3⟩ := z
    cases e'
    exact q C H' hC (sm.trans (sm2.trans s3)))
end
/-! ### raise -/
def raiseO (c : Str) : Sl → Res Out := fun _ => .exc c
theorem exc_obj {K : PySem.W.Frag} {h : Heap} {C : Addr} {bmB : List Value} {newId : String} (X : K.In h) (q : PySem.W.excIn K C bmB newId = true) :
    ∃ bm N nm qn bs hdct sn sub ab col dd k0 k1 k2 k3 k5 mN, h.get? C = some (excClassObj nm qn C N bs bm hdct sn sub ab col dd k0 k1 k2 k3 k5 newId) ∧ h.Ns N mN ∧ mN "__init__" = none ∧ OwnTail h bmB bm := by
  unfold PySem.W.excIn at q
  split at q
  · rename_i dd cd sl ho
    split at q
    · rename_i C' bm k0 k1 k2 k3 n k5 hm hs
      simp only [Bool.and_eq_true, beq_iff_eq, Bool.not_eq_true'] at q
      obtain ⟨⟨⟨⟨⟨rfl, rfl⟩, hdel⟩, ht⟩, hok⟩, hni⟩ := q
      obtain ⟨nm, bs, mro, ns, qn, hd, sn, sub, ab, col, del⟩ := cd
      dsimp only at hm hdel hok hni
      subst hm hdel
      have hsl : sl = #[k0, k1, k2, k3, some (.builtin n), k5] := by
        obtain ⟨l⟩ := sl
        simp only at hs
        rw [hs]
      subst hsl
      exact ⟨bm, ns, nm, qn, bs, hd, sn, sub, ab, col, dd, k0, k1, k2, k3, k5, _, X _ _ ho, .of_isNs (PySem.W.isNs_of_in X hok), PySem.W.nsMap_none_of_in X hok hni, PySem.W.tail_of_in X ht⟩
    · cases q
  · cases q
theorem dsx_raise {X : Cx} {c : Str} {C : Addr} {bm : List Value} {B newId initId : String} {e₀ : Expr} {l : Lv} {np cpos pos : Pos} {f : Sl → Res D} (hC : NmC X.K c C) (hm : X.mg c = some (.ref C)) (hq : PySem.W.excIn X.K C bm newId = true) (FB : ExcBaseFacts B newId initId bm)
    (ha : DE X l e₀ f) (hok : ∀ env, ∃ d, f env = .ok d) (hcalm : X.calm = true := by rfl) (hg : Gl X c := by rfl) (hdb : (c == ("__debug__" : Str)) = false := by decide)
    (he : starEach [e₀] X.env = (false, eval e₀ X.env) :: starEach [] X.env := by exact star_plain rfl) :
    DSX X (.Raise (some (.Call (.Name c np) [e₀] [] cpos)) none pos) (raiseO c) := by
 with_unfolding_all exact (by
  intro pins s σ H E I ⟨G, H0, env, k, q⟩
  rcases q with ⟨o, ef, _⟩ | ⟨c', ef, th⟩
  · cases ef
  cases ef
  obtain ⟨d, hd⟩ := hok env
  obtain ⟨tl, N, nm, qn, bs, hdct, sn, sub, ab, col, dd, k0, k1, k2, k3, k5, mN, hCo, hN, hni, T⟩ := exc_obj I.ok.mod.kin hq
  refine wpAny_Raise_call_subT (C := C) (nm := nm) (q := qn) (N := N) (bs := bs) (bm := tl) (hdct := hdct) (sn := sn) (sub := sub) (ab := ab) (col := col) (dd := dd) (k0 := k0) (k1 := k1) (k2 := k2) (k3 := k3) (k5 := k5)
    FB (mN := mN) (T.hasType FB.hasBase) (I.ok.hd hcalm) (by rw [he]; rfl) hni (ld_glob I hg hm ⟨rfl, ?_⟩ hdb)
  rw [he]
  refine Calls.evalArgs_plain (Calls.spliced_cons (thn ((show PE X e₀ (tE X.K l f) from ha) pins s σ H (fun v H1 => Same H H1) I ⟨G, H0, env, d, k, hd, fun v H' s' _ _ => s'⟩) fun u s1 ⟨v, H1, I1, r, sm⟩ => Calls.spliced_nil ?_))
  exact ⟨rfl, (by decide : 1 ≤ sizeLine), I1.bk _ _ hCo, hN.keeps I1.bk, T.keeps I1.bk, fun h' e hx => th.a pins σ H1 { s1 with heap := h' } s1.heap e C _ (k.base.trans sm) hC I1 hx⟩)
end M

set_option Elab.async false
set_option linter.all false
set_option maxRecDepth 100000
set_option maxHeartbeats 4000000
namespace M
open PySem PySem.Spec L2
open PyProof.Rows hiding St
/-! ### a flat body: what it raises, it raises with the slots as they were -/
def tSY (X : Cx) (g : Sl → Res Out) : TS := fun E σ H => ∃ G H0 env, EnvOk X.K G H0 env σ H ∧ ((∃ o, g env = .ok o ∧ Post X.K G H0 env σ H E o) ∨ ∃ c, g env = .exc c ∧ ThrB X c σ H)
@[irreducible] def DSY (X : Cx) (st : Stmt) (g : Sl → Res Out) : Prop := PS X st (tSY X g)
@[irreducible] def DSsY (X : Cx) (st : List Stmt) (g : Sl → Res Out) : Prop := PSs X st (tSY X g)
section
variable {X : Cx} {e c tg : Expr} {st : Stmt} {rest body orelse : List Stmt} {pos : Pos} {l : Lv} {f : Sl → Res D} {g g1 g2 : Sl → Res Out}
theorem ThrB.grow {c : Str} {σ : L2.St} {H H' : Hp} (h : ThrB X c σ H) (s : Same H H') : ThrB X c σ H' := fun pins H1 s1 e s' sm => h pins H1 s1 e s' (s.trans sm)
theorem dssy_one (h1 : DSY X st g1) : DSsY X [st] g1 := by
 with_unfolding_all exact (PSs.imp (pss_one h1) fun E σ H q => q)
theorem dsy_setS (i : Nat) {x : Str} {pos' : Pos} (hN : X.N.Nodup) (h : DEX X .s e f) (hi : X.N[i]? = some x := by rfl) (hx : Loc X.env.scope x := by first | exact Or.inl rfl | exact Or.inr rfl) (hs : swapsWith e (some (.Name x pos')) pos.line X.env = pure false := by rfl)
    (hf : X.fn x = true ∨ X.env.scope.names.lookup x = some .local := by first | exact .inl rfl | exact .inr rfl | assumption) : DSY X (.Assign [.Name x pos'] e pos) (setOs i f) := by
 with_unfolding_all exact (
  PS.imp (ps_set (i := i) hN hi hx h hs hf) fun E σ H ⟨G, H0, env, k, q⟩ => by
    rcases q with ⟨o, ef, q⟩ | ⟨c, ef, th⟩
    · obtain ⟨d, e1, e2⟩ := bind_inv ef
      cases e2
      exact ⟨G, H0, env, k, .inl ⟨d, e1, fun v H' s r _ => q _ H' ((k.grow s).setS r) (.set s fun _ _ z _ => by cases z)⟩⟩
    · rcases bind_exc ef with e1 | ⟨d, e1, e2⟩
      · exact ⟨G, H0, env, k, .inr ⟨c, e1, th⟩⟩
      · cases e2)
theorem dsy_expr (h : DEX X l e f) (hs : swapsWith e none pos.line X.env = pure false := by rfl) : DSY X (.Expr e pos) (dropO f) := by
 with_unfolding_all exact (PS.imp (ps_expr h hs) fun E σ H ⟨G, H0, env, k, q⟩ => by
    rcases q with ⟨o, ef, q⟩ | ⟨c, ef, th⟩
    · obtain ⟨d, e1, e2⟩ := bind_inv ef
      cases e2
      exact ⟨G, H0, env, k, .inl ⟨d, e1, fun v H' s r _ => q σ H' (k.grow s) (Frm.refl s)⟩⟩
    · rcases bind_exc ef with e1 | ⟨d, e1, e2⟩
      · exact ⟨G, H0, env, k, .inr ⟨c, e1, th⟩⟩
      · cases e2)
theorem dsy_if {t : Sl → Res Bool} (hc : DT X c t) (h1 : DSsY X body g1) (h2 : DSsY X orelse g2) : DSY X (.If c body orelse pos) (ifX t g1 g2) := by
 with_unfolding_all exact (PS.imp (ps_if hc h1 h2) fun E σ H ⟨G, H0, env, k, q⟩ => by
  have key : ∃ b, t env = .ok b ∧ ifX t g1 g2 env = if b = true then g1 env else g2 env := by
    cases e1 : t env with
    | ok b => exact ⟨b, rfl, by unfold ifX; rw [e1]⟩
    | _ =>
      have z : ifX t g1 g2 env = .stuck := by unfold ifX; rw [e1]
      rcases q with ⟨o, ef, _⟩ | ⟨c, ef, _⟩ <;> (rw [z] at ef; cases ef)
  obtain ⟨b, e1, e2⟩ := key
  rw [e2] at q
  refine ⟨G, H0, env, b, k, e1, fun H' s => ?_⟩
  cases b with
  | true =>
    rw [if_pos rfl] at q ⊢
    rcases q with ⟨o, ef, q⟩ | ⟨c, ef, th⟩
    · exact ⟨G, H0, env, k.grow s, .inl ⟨o, ef, out_tr (Frm.refl s) q⟩⟩
    · exact ⟨G, H0, env, k.grow s, .inr ⟨c, ef, th.grow s⟩⟩
  | false =>
    rw [if_neg Bool.false_ne_true] at q ⊢
    rcases q with ⟨o, ef, q⟩ | ⟨c, ef, th⟩
    · exact ⟨G, H0, env, k.grow s, .inl ⟨o, ef, out_tr (Frm.refl s) q⟩⟩
    · exact ⟨G, H0, env, k.grow s, .inr ⟨c, ef, th.grow s⟩⟩)
end
/-! ### the contexts of a try's body and of a handler's suite -/
abbrev Cx.tryX (X : Cx) (E : Value → Shared → Prop) (ps : List (Addr × Obj)) : Cx := { X with xe := E, pn := X.pn ++ ps }
abbrev Cx.held (X : Cx) (e : Addr) : Cx := { X with xe := fun _ _ => False, A := X.A.mark (some (.ref e)), calm := false }
section
variable {X : Cx} {pins ps : List (Addr × Obj)} {σ : L2.St} {H : Hp} {s : Shared} {E : Value → Shared → Prop} {e : Addr}
theorem ok_try (ok : X.Ok) : (Cx.tryX X E ps).Ok := ⟨ok.mod, ok.kind, ok.glob, ok.blt, ok.above, ok.inj, ok.has, ok.cab, ok.hd, ok.frames, ok.stk, ok.exf, ok.bs, ok.bsz, ok.noex, ok.exfs, ok.funs, ok.frf⟩
theorem ok_untry (ok : (Cx.tryX X E ps).Ok) : X.Ok := ⟨ok.mod, ok.kind, ok.glob, ok.blt, ok.above, ok.inj, ok.has, ok.cab, ok.hd, ok.frames, ok.stk, ok.exf, ok.bs, ok.bsz, ok.noex, ok.exfs, ok.funs, ok.frf⟩
theorem inv_try (I : Inv X pins σ H s) : Inv (Cx.tryX X E pins) [] σ H s := ⟨ok_try I.ok, I.os, I.bare, I.base, I.loc, I.cell, I.free, I.freeC, fun p hp => I.pin p (by simpa using hp), I.hok, I.len⟩
theorem inv_untry (I : Inv (Cx.tryX X E pins) ps σ H s) : Inv X pins σ H s := ⟨ok_untry I.ok, I.os, I.bare, I.base, I.loc, I.cell, I.free, I.freeC, fun p hp => I.pin p (List.mem_append_left _ hp), I.hok, I.len⟩
theorem sp_untry {D : Ends} {f : Flow} {s' : Shared} (h : SP (Cx.tryX X E pins) [] D f s') : SP X pins D f s' := by
  cases f with
  | next => obtain ⟨σ', H', I, q⟩ := h; exact ⟨σ', H', inv_untry I, q⟩
  | brk => obtain ⟨σ', H', I, q⟩ := h; exact ⟨σ', H', inv_untry I, q⟩
  | cont => obtain ⟨σ', H', I, q⟩ := h; exact ⟨σ', H', inv_untry I, q⟩
  | ret u => obtain ⟨v, σ', H', I, r, q⟩ := h; exact ⟨v, σ', H', inv_untry I, r, q⟩
theorem ok_held (ok : X.Ok) : (Cx.held X e).Ok := ⟨ok.mod, ok.kind, ok.glob, ok.blt, ok.above, ok.inj, ok.has, ok.cab, (fun z => nomatch z), ok.frames, ok.stk, ok.exf, ok.bs, ok.bsz, ok.noex, ok.exfs, ok.funs, ok.frf⟩
theorem inv_held (I : Inv X pins σ H s) : Inv (Cx.held X e) pins σ H s := ⟨ok_held I.ok, I.os, I.bare, I.base, I.loc, I.cell, I.free, I.freeC, I.pin, I.hok, I.len⟩
theorem inv_unheld (ok : X.Ok) (I : Inv (Cx.held X e) pins σ H s) : Inv X pins σ H s := ⟨ok, I.os, I.bare, I.base, I.loc, I.cell, I.free, I.freeC, I.pin, I.hok, I.len⟩
/-- the name behind an except is gone -/
theorem goes_ok {M : Model} {A : Around} {E : Value → Shared → Prop} {i : Nat} {x : Str} {pos : Pos} {Q : Unit → Shared → Prop} (I : Inv X pins σ H s) (hN : X.N.Nodup) (hi : X.N[i]? = some x) (hk : X.env.scope.names.lookup x = some .local)
    (h : ∀ s', Inv X pins (σ.set i none) H s' → Q () s') : wpAny M A (do bindName X.env x .none; unbindBehindTheSuite X.env x pos) Q E s := by
  obtain ⟨m, hn, hl⟩ := id I.loc
  have hcls : (X.env.scope.kind == .class || (X.env.scope.kind == .module && X.env.locals != X.env.globals)) = false := by rw [I.ok.kind]; rfl
  have hiσ : i < σ.length := by rw [I.len]; exact (List.getElem?_eq_some_iff.mp hi).1
  have cne := I.cne
  have tracked : ∀ {a : Addr} {h' : Heap}, (∃ o, s.heap.get? a = some o ∧ H a = none) → Heap.SameBut a s.heap h' → HOk X.prog X.w H h' := fun {a h'} ha hs b ob e => by
    obtain ⟨_, _, hfree⟩ := ha
    refine (I.hok b ob e).stay (fun c w' hc q => (hs.2 c ?_).trans q) (fun _ q => q) fun _ _ q => q
    rintro rfl
    rcases hc with rfl | hc
    · rw [hfree] at e; cases e
    · rw [hfree] at hc; cases hc
  refine wpAny_nameGoes_keeps hk hn hcls fun h' v hn' hs => ?_
  obtain ⟨oL, _, _, hoL, _⟩ := id hn
  refine h _ ⟨I.ok, I.os, I.bare, ⟨fun b o e n hb hx => ?_, fun b o e n hb hx => ?_, I.base.free, fun b o e hx => ?_, I.base.tups, I.base.frzs, I.base.tbls⟩, ⟨_, hn', fun j y v' e1 e2 e3 => ?_⟩, fun y c e => ?_, I.free, I.freeC, fun p hp => ?_, tracked ⟨oL, hoL, I.free⟩ hs, by simpa using I.len⟩
  · exact (hs.2 b (Nat.ne_of_lt (Nat.lt_of_lt_of_le (Heap.lt_size e) I.ok.above))).trans (I.base.keep b o e n hb hx)
  · obtain ⟨sl, e1⟩ := I.base.slot b o e n hb hx
    exact ⟨sl, (hs.2 b (Nat.ne_of_lt (Nat.lt_of_lt_of_le (Heap.lt_size e) I.ok.above))).trans e1⟩
  · obtain ⟨o', e1⟩ := I.base.there b o e hx
    exact ⟨o', (hs.2 b (Nat.ne_of_lt (Nat.lt_of_lt_of_le (Heap.lt_size e) I.ok.above))).trans e1⟩
  · by_cases hj : j = i
    · subst hj
      rw [List.getElem?_set_self hiσ] at e2
      cases e2
    · rw [List.getElem?_set_ne (Ne.symm hj)] at e2
      obtain ⟨u', r', q⟩ := hl j y v' e1 e2 e3
      refine ⟨u', r', ?_⟩
      rcases q with ⟨k, e⟩ | ⟨k, c, e, z⟩
      · refine .inl ⟨k, ?_⟩
        have : y ≠ x := fun e => hj (nodup_ix hN e1 (e ▸ hi))
        simp [this, e]
      · exact .inr ⟨k, c, e, z.sameBut hs (cne y c e)⟩
  · obtain ⟨w', z⟩ := I.cell y c e
    exact ⟨w', z.sameBut hs (cne y c e)⟩
  · obtain ⟨e, n, ne, nf, d⟩ := I.pin p hp
    exact ⟨(hs.2 p.1 ne).trans e, n, ne, nf, d⟩
end
/-- a heap on the way to a handler -/
theorem land_un {P : Program} {w : World} {base : Heap} {outer : List Env} {H H' : Hp} {h h1 h' B : Heap} (un : Un (frs outer) [] H H' h h1) (hok : HOk P w H' h1) (fr : ∀ b ∈ frs outer, H' b = none)
    (cov : ∀ b, b ∉ frs outer → ((∃ o, h.get? b = some o) ∨ ∃ u, H' b = some u) → B.get? b = h1.get? b) (FF : h1.FunFrames base outer) (st : B.StaysIn h') (up : h1.UpToSlots h') :
    Un (frs outer) [] H H' h h' ∧ HOk P w H' h' := by
  have slotOf : ∀ b o, b ∈ frs outer → h1.get? b = some o → ∃ sl, h'.get? b = some { o with slots := sl } := fun b o hb q => by
    obtain ⟨_, o', ho', hd⟩ := FF.mem hb
    rw [q] at ho'; cases ho'
    exact up b o q hd
  refine ⟨⟨fun b o q n hb _ => ?_, fun b o q n hb _ => ?_, un.free, fun b o q _ => ?_, un.tups, un.frzs, un.tbls⟩, fun b u q => ?_⟩
  · have h2 := un.keep b o q n hb (by simp)
    exact st b o ((cov b hb (.inl ⟨o, q⟩)).trans h2)
  · obtain ⟨sl, h2⟩ := un.slot b o q n hb (by simp)
    obtain ⟨sl', h3⟩ := slotOf b _ hb h2
    exact ⟨sl', h3⟩
  · obtain ⟨o', h2⟩ := un.there b o q (by simp)
    by_cases hm : b ∈ frs outer
    · obtain ⟨sl, h3⟩ := slotOf b o' hm h2
      exact ⟨_, h3⟩
    · exact ⟨o', st b o' ((cov b hm (.inl ⟨o, q⟩)).trans h2)⟩
  · refine (hok b u q).stay (fun c v hc r => ?_) (fun _ z => z) fun _ _ z => z
    have ht : ∃ u, H' c = some u := by
      rcases hc with z | z
      · rw [z]; exact ⟨u, q⟩
      · exact ⟨_, z⟩
    obtain ⟨u', hu'⟩ := ht
    have nm : c ∉ frs outer := fun z => by rw [fr c z] at hu'; cases hu'
    exact st c v ((cov c nm (.inr ⟨u', hu'⟩)).trans r)
end M

set_option Elab.async false
set_option linter.all false
set_option maxRecDepth 100000
set_option maxHeartbeats 4000000
namespace M
open PySem PySem.Spec L2
open PyProof.Rows hiding St
/-! ### a slot is emptied -/
section
variable {K : PySem.W.Frag} {G : Addr → Prop} {H0 H : Hp} {env : Sl} {σ : L2.St} {j : Nat}
theorem owned_unset {a : Addr} (o : Owned (env.set j .un) (σ.set j none) a) : Owned env σ a := by
  obtain ⟨i, d, h1, h2⟩ := o
  by_cases z : j = i
  · subst z
    obtain ⟨q, _⟩ := get_set_eq h1
    cases q
  · rw [get_set_ne z] at h1 h2
    exact ⟨i, d, h1, h2⟩
theorem EnvOk.unset (k : EnvOk K G H0 env σ H) : EnvOk K G H0 (env.set j .un) (σ.set j none) H := by
  have w : ∀ a, Sf G env σ a → Sf G (env.set j .un) (σ.set j none) a := fun a n => ⟨fun o => n.1 (owned_unset o), n.2⟩
  refine ⟨by simp [k.len], k.base, k.g0, fun i e h => ?_, fun i e h => ?_, fun i i' e e' a h1 h2 h3 h4 => ?_⟩
  · by_cases z : j = i
    · subst z
      obtain ⟨q, _⟩ := get_set_eq h
      cases q
    · rw [get_set_ne z] at h ⊢
      obtain ⟨v', h1, h2⟩ := k.shr i e h
      exact ⟨v', h1, h2.weak w⟩
  · by_cases z : j = i
    · subst z
      obtain ⟨q, _⟩ := get_set_eq h
      cases q
    · rw [get_set_ne z] at h ⊢
      obtain ⟨a, h1, h2, h3⟩ := k.own i e h
      exact ⟨a, h1, h2, h3.stay (fun _ _ e _ => e) w fun _ q => q⟩
  · have n1 : j ≠ i := by rintro rfl; obtain ⟨q, _⟩ := get_set_eq h1; cases q
    have n2 : j ≠ i' := by rintro rfl; obtain ⟨q, _⟩ := get_set_eq h2; cases q
    rw [get_set_ne n1] at h1 h3
    rw [get_set_ne n2] at h2 h4
    exact k.dis i i' e e' a h1 h2 h3 h4
theorem Frm.unset : Frm env σ H (env.set j .un) (σ.set j none) H := ⟨fun _ _ e _ => e, fun b o => .inl (owned_unset o), fun _ e => e⟩
end
/-! ### try, except -/
def outU (j : Nat) : Out → Out
  | .nx env => .nx (env.set j .un)
  | .bk env => .bk (env.set j .un)
  | .ct env => .ct (env.set j .un)
  | .rt fr d => .rt fr d
def tryO (cs : List Str) (g : Sl → Res Out) (j : Nat) (gs : Sl → Res Out) : Sl → Res Out := fun env => match g env with
  | .ok o => .ok o
  | .exc c => if cs.contains c = true then gs (env.set j (.shr (.exn c))) >>= fun o => .ok (outU j o) else .stuck
  | .stuck => .stuck
/-- a new thing is tracked -/
theorem un_trk {P : Program} {w : World} {fs : List Addr} {H H' : Hp} {h h' : Heap} {a : Addr} {oe : Obj} (un : Un fs [] H H' h h') (hok : HOk P w H' h') (hn : h.get? a = none) (ha : H' a = none) (he : h'.get? a = some oe) :
    Un fs [] H (upd H' a (.frz oe (.own a))) h h' ∧ HOk P w (upd H' a (.frz oe (.own a))) h' := by
  refine ⟨⟨un.keep, un.slot, fun b o q n hx => ?_, un.there, fun b xs q => ?_, fun b o u q => ?_, fun b ps q => ?_⟩, fun b u e => ?_⟩
  · rw [upd_ne (by rintro rfl; rw [hn] at q; cases q)]
    exact un.free b o q n hx
  · have := un.tups b xs q
    rw [upd_ne (ne_of_none this ha)]; exact this
  · have := un.frzs b o u q
    rw [upd_ne (ne_of_none this ha)]; exact this
  · obtain ⟨m, e⟩ := un.tbls b ps q
    exact ⟨m, by rw [upd_ne (ne_of_none e ha)]; exact e⟩
  · by_cases hb : b = a
    · subst hb
      rw [upd_same] at e
      cases e
      exact ⟨he, oe, he⟩
    · rw [upd_ne hb] at e
      exact (hok b u e).stay (fun c v _ q => q) (fun c q => by rw [upd_ne (ne_of_none q ha)]; exact q) fun c xs q => by rw [upd_ne (ne_of_none q ha)]; exact q
theorem ds_try {X : Cx} {n T : Str} {CT : Addr} {body suite : List Stmt} {b₀ : Stmt} {g gs : Sl → Res Out} {np hpos pos : Pos} (cs : List Str) (j : Nat) (hN : X.N.Nodup) (hb : ∀ E' ps, DSsY (Cx.tryX X E' ps) body g) (hs : ∀ e, DSs (Cx.held X e) (b₀ :: suite) gs)
    (hT : X.mg T = some (.ref CT)) (hx : ∀ c, cs.contains c = true → ∀ C, NmC X.K c C → PySem.W.exmOne X.K (.ref C) (.ref CT) = some true)
    (hj : X.N[j]? = some n := by rfl) (hl : X.env.scope.names.lookup n = some .local := by rfl) (hst : X.stack = X.env :: X.outer := by rfl) (hfr : X.env.frame = some X.env.locals := by rfl) (hg : Gl X T := by rfl) (hdb : (T == ("__debug__" : Str)) = false := by decide) :
    DS X (.Try body [.ExceptHandler (some (.Name T np)) (some n) (b₀ :: suite) hpos] [] [] pos) (tryO cs g j gs) := by
 with_unfolding_all exact (by
  intro pins s σ H E I ⟨G, H0, env, o, k, ef, q⟩
  refine wpAny_Try_except (wpAny_mono ((hb (fun e s₁ => wpAny (model X.prog X.w) X.A (noteFrame e X.env) (fun _ s₂ => wpAny (model X.prog X.w) X.A (setFlight e none) (fun _ s₃ =>
    wpAny (model X.prog X.w) X.A (handleBy e X.env [.ExceptHandler (some (.Name T np)) (some n) (b₀ :: suite) hpos]) (SP X pins E) X.xe s₃) X.xe s₂) X.xe s₁) pins) [] s σ H E (inv_try I) ⟨G, H0, env, k, ?_⟩) (fun f s1 hq => ?_) fun e s1 h => h)
  · unfold tryO at ef
    cases eg : g env with
    | ok o' => rw [eg] at ef; cases ef; exact .inl ⟨_, rfl, q⟩
    | stuck => rw [eg] at ef; cases ef
    | exc c =>
      rw [eg] at ef
      dsimp only at ef
      by_cases hc : cs.contains c = true
      · rw [if_pos hc] at ef
        obtain ⟨o1, e1, e2⟩ := bind_inv ef
        cases e2
        refine .inr ⟨c, rfl, fun pins' H1 s2 e s' sm I' cx => ?_⟩
        have I1 : Inv X pins σ H1 s2 := inv_untry I'
        obtain ⟨a, C, H', B, a0, rfl, os, bare, un, hok, ha, fl, cov, C', eC, hC, sm2⟩ := cx
        cases eC
        have J : Inv X pins σ H' s' := I1.call' os un hok bare fun b hb => absurd hb (by simp)
        have nb : a ∉ frs X.stack := fun hm => by
          obtain ⟨_, o', ho', hd⟩ := J.stack.mem hm
          obtain ⟨oe, vs, he, _, hv, _⟩ := fl.first
          rw [he] at ho'; cases ho'
          exact hd _ hv
        have hn : s2.heap.get? a = none := by
          cases z : s2.heap.get? a with
          | none => rfl
          | some o' =>
            obtain ⟨ob, hob, _⟩ := fl.there
            have := cov a nb (.inl ⟨o', z⟩)
            rw [fl.2.1, hob] at this
            cases this
        refine wpAny_looks_onW (L := X.env.locals) (by rw [← hst]; exact I.ok.frames) hfr (by rw [← hst]; exact fl) fun h2 held up2 => ?_
        refine wpAny_landsW held fun h3 fly3 up3 => ?_
        obtain ⟨f1, f2, f3, f4⟩ := fly3
        obtain ⟨U3, O3⟩ := land_un (h' := h3) un hok J.stkFree cov J.stack f1 (up2.trans up3)
        have I3 : Inv X pins σ H' { s' with heap := h3 } := I1.call' (s' := { s' with heap := h3 }) os U3 O3 bare fun b hb => absurd hb (by simp)
        refine wpAny_handleBy_cons (codeAny_handlers_test ?_) (by intro q; cases q)
        refine ld_glob (X := Cx.held X a) (inv_held I3) hg hT ?_ hdb
        obtain ⟨ob3, hob3, hc3⟩ := Heap.TracedAtW.there (Heap.TracedW.at f4)
        refine (PySem.W.exm_one (K := X.K) (cls := .ref C) I3.kIn (by rw [← hc3]; exact (PySem.W.Looks.ld hob3).andThen .now) (hx c hc C hC)).here ?_
        refine codeAny_handlers_suite_as ?_
        refine wpAny_setFlight_noneW f1 f3 (Heap.TracedW.at f4) fun h4 st4 FF4 tr4 keep4 => ?_
        have up4 : s'.heap.UpToSlots h4 := up2.trans (up3.trans fun b o e n => ⟨o.slots, keep4 b o e n⟩)
        obtain ⟨U4, O4⟩ := land_un (h' := h4) un hok J.stkFree cov J.stack st4 up4
        obtain ⟨oe, hoe, hce⟩ := Heap.TracedAtW.there (Heap.TracedW.at tr4)
        obtain ⟨U5, O5⟩ := un_trk U4 O4 hn ha hoe
        have I5 : Inv X pins σ (upd H' a (.frz oe (.own a))) { s' with heap := h4 } := I1.call' (s' := { s' with heap := h4 }) os U5 O5 bare fun b hb => absurd hb (by simp)
        have sm5 : Same H (upd H' a (.frz oe (.own a))) := (sm.trans sm2).trans (Same.upd ha)
        have rp : Rep X.K (Sf G env σ) (upd H' a (.frz oe (.own a))) (.ref a) (.exn c) := .exn upd_same hce hC
        refine store_ok (X := Cx.held X a) (inv_held I5) hN hj (.inl hl) (v := .ref a) rfl (fun s6 I6 => ?_) (.inr hl)
        have kS := (k.grow sm5).setS (i := j) rp
        have fS : Frm env σ H (env.set j (.shr (.exn c))) (σ.set j (some (.ref a))) (upd H' a (.frz oe (.own a))) := .set sm5 fun _ _ z _ => by cases z
        refine wpAny_mono ((hs a) pins s6 (σ.set j (some (.ref a))) _ ⟨fun σ' H' => E.nx (σ'.set j none) H', E.rt, fun σ' H' => E.bk (σ'.set j none) H', fun σ' H' => E.ct (σ'.set j none) H'⟩ I6 ⟨G, H0, _, o1, kS, e1, ?_⟩) (fun f s7 h7 => ?_) fun _ _ z => False.elim z
        · cases o1 with
          | nx env1 => exact fun σ' H3 k3 f3 => q _ H3 k3.unset ((fS.trans f3).trans .unset)
          | bk env1 => exact fun σ' H3 k3 f3 => q _ H3 k3.unset ((fS.trans f3).trans .unset)
          | ct env1 => exact fun σ' H3 k3 f3 => q _ H3 k3.unset ((fS.trans f3).trans .unset)
          | rt fr d => exact q
        · cases f with
          | next =>
            obtain ⟨σ', H3, I7, q7⟩ := h7
            exact goes_ok (X := X) (inv_unheld I.ok I7) hN hj hl fun s8 I8 => ⟨_, H3, I8, q7⟩
          | brk =>
            obtain ⟨σ', H3, I7, q7⟩ := h7
            exact goes_ok (X := X) (inv_unheld I.ok I7) hN hj hl fun s8 I8 => ⟨_, H3, I8, q7⟩
          | cont =>
            obtain ⟨σ', H3, I7, q7⟩ := h7
            exact goes_ok (X := X) (inv_unheld I.ok I7) hN hj hl fun s8 I8 => ⟨_, H3, I8, q7⟩
          | ret u =>
            obtain ⟨v, σ', H3, I7, r7, q7⟩ := h7
            exact goes_ok (X := X) (inv_unheld I.ok I7) hN hj hl fun s8 I8 => ⟨v, _, H3, I8, r7, q7⟩
      · rw [if_neg hc] at ef; cases ef
  · cases f with
    | next => exact wpAny_execs_nil (sp_untry hq)
    | brk => exact sp_untry hq
    | cont => exact sp_untry hq
    | ret u => exact sp_untry hq)
end M

set_option Elab.async false
set_option linter.all false
set_option maxRecDepth 100000
set_option maxHeartbeats 4000000
namespace M
open PySem PySem.Spec L2
open PyProof.Rows hiding St
/-! ### isinstance of an exception: the true ones -/
section
open PySem.W PySem.Calls
theorem isx_ans {K : Frag} {x t c : Value} {H : Heap → Prop} (ty : ∀ (M : Model) (h : Heap), K.In h → H h → Looks M h (typeOf x) t) (e : kitOne K t c = some true) : Answers (fun s => K.In s.heap ∧ H s.heap) x c true := by
  intro dep tk prog w A R s hs
  obtain ⟨h0, g, d, tt, os⟩ := s
  obtain ⟨⟨X, p⟩, hq⟩ := hs
  have LT := ty (model prog w) h0 X p
  unfold kitOne at e
  unfold Builtin.«isinstance.nested»
  refine wpAny_bind (LT.at ?_)
  by_cases q : (t == c) = true
  · rw [if_pos q]
    first
      | ((repeat lk); exact hq tt)
      | exact wpAny_bind (wpAny_rule (hq tt))
      | exact wpAny_bind (wpAny_rule (wpAny_pure (hq tt)))
  · rw [if_neg q] at e
    rw [if_neg q]
    obtain ⟨hty, his, hsub⟩ := kit_cls (M := model prog w) X e
    have LI : Looks (model prog w) h0 (isInstance x c) true := LT.andThen hsub
    refine wpAny_bind (hty.at ?_)
    rw [if_pos (by decide)]
    k_delta "plainIsInstance"
    refine wpAny_bind (wpAny_bind (his.at ?_))
    simp only [Bool.not_true, Bool.false_eq_true, if_false]
    refine wpAny_bind (LI.at ?_)
    first
      | exact wpAny_pure (wpAny_pure (hq tt))
      | (simp only [if_true]; first | exact wpAny_pure (wpAny_pure (hq tt)) | exact wpAny_pure (hq tt) | exact wpAny_bind (wpAny_pure (wpAny_pure (hq tt))))
theorem isx_one {prog : Program} {w : World} {A : Around} {E : Value → Shared → Prop} {s : Shared} {Q : Value → Shared → Prop} {K : Frag} {x t c : Value} {H : Heap → Prop} (ty : ∀ (M : Model) (h : Heap), K.In h → H h → Looks M h (typeOf x) t)
    (X : K.In s.heap) (p : H s.heap) (e : kitOne K t c = some true) (hx : x ≠ .builtin "__main__.__loader__#opaque") (h : ∀ tk, Q (.bool true) { s with toks := tk }) :
    wpAny (model prog w) A (call (.builtin "isinstance") [x, c]) Q E s :=
  call_isinstance (S := fun _ R s => (K.In s.heap ∧ H s.heap) ∧ ∀ tk, R (.ok (.ret (.bool true))) { s with toks := tk })
    (fun prog w A R s hs => isinstance_outer (isx_ans ty e 0 _ prog w A R s hs) hx) ⟨⟨X, p⟩, h⟩
end
section
variable {X : Cx}
theorem call_isx (cs : List Str) {cV : V} {cv : Value} (hr : ∀ u, RelV cV u → u = cv) (hk : ∀ c, cs.contains c = true → ∀ C, NmC X.K c C → PySem.W.kitOne X.K (.ref C) cv = some true) :
    CallR X (.builtin "isinstance") (fun xs H Q => ∃ x c, xs = [x, cV] ∧ Rep X.K Any H x (.exn c) ∧ cs.contains c = true ∧ Q (.bl true) H) := by
  intro pins s σ H xs us Q I r ⟨x, c, ex, rp, hc, q⟩
  subst ex
  obtain ⟨u, w', rfl, r1, r2⟩ := vals2 r
  cases hr w' r2
  cases rp with
  | @exn _ _ a b C o _ ha hC hn =>
    cases (show u = Value.ref a from r1)
    obtain ⟨ho, _⟩ := (show ObjOk X.prog X.w H s.heap a (.frz o (.own b)) from I.hok a _ ha)
    exact isx_one (H := fun h => h.get? a = some o) (t := .ref C) (fun M h _ p => by rw [← hC]; exact (PySem.W.Looks.ld p).andThen .now) I.kIn ho (hk c hc C hn) (fun z => nomatch z) fun tk => ⟨.bl true, H, I.tok tk, rfl, q⟩
/-- isinstance of an exception that is one of them -/
def isxD (cs : List Str) : D → Res D
  | .exn c => if cs.contains c = true then .ok (.bl true) else .stuck
  | _ => .stuck
def isxF (cs : List Str) (f : Sl → Res D) : Sl → Res D := fun env => f env >>= isxD cs
theorem isxD_inv {cs : List Str} {a d : D} (h : isxD cs a = .ok d) : ∃ c, a = .exn c ∧ cs.contains c = true ∧ d = .bl true := by
  unfold isxD at h
  split at h
  · split at h
    · rename_i hc
      cases h
      exact ⟨_, rfl, hc, rfl⟩
    · cases h
  · cases h
/-- an own class -/
theorem de_isx (cs : List Str) (Ty : Str) {CT : Addr} {l l' : Lv} {e : Expr} {f : Sl → Res D} {p p2 pos : Pos} (hk : ∀ c, cs.contains c = true → ∀ C, NmC X.K c C → PySem.W.kitOne X.K (.ref C) (.ref CT) = some true) (he : DE X l e f)
    (hg : Gl X "isinstance") (hm : X.mg "isinstance" = none) (hg2 : Gl X Ty) (hm2 : X.mg Ty = some (.ref CT))
    (hd : (Ty == ("__debug__" : Str)) = false := by decide) (hs : starEach [e, .Name Ty p2] X.env = (false, eval e X.env) :: starEach [.Name Ty p2] X.env := by exact star_plain rfl)
    (hs2 : starEach [.Name Ty p2] X.env = (false, eval (.Name Ty p2) X.env) :: starEach [] X.env := by exact star_plain rfl) (hpl : (backTo pos (starEach [.Name Ty p2] X.env)).any (·.1) = false := by exact any_plain rfl) :
    DE X l' (.Call (.Name "isinstance" p) [e, .Name Ty p2] [] pos) (isxF cs f) := by
 with_unfolding_all exact (
  PE.imp (pe_callB (call_isx cs (cV := .ref CT) (cv := .ref CT) (fun u r => r) hk) hg hm boot_isinstance (pa_cons he (pa_cons (pe_glob (v := .ref CT) hg2 hm2 rfl hd) pa_nil hs2) hs) (by decide) (by decide) hs hpl) fun σ H Q ⟨G, H0, env, d, k, ef, q⟩ => by
    obtain ⟨a, e1, e2⟩ := bind_inv ef
    refine ⟨G, H0, env, a, k, e1, fun v H' s r _ => ?_⟩
    obtain ⟨c, rfl, hc, rfl⟩ := isxD_inv e2
    exact ⟨v, c, rfl, r.weak Lv.weak_b, hc, q _ H' s (.bl true) (sc_bl (K := X.K) true).T⟩)
/-- a built-in class -/
theorem de_isxB (cs : List Str) (T : String) (Ty : Str) {l l' : Lv} {e : Expr} {f : Sl → Res D} {p p2 pos : Pos} (hk : ∀ c, cs.contains c = true → ∀ C, NmC X.K c C → PySem.W.kitOne X.K (.ref C) (.type T) = some true) (he : DE X l e f)
    (hg : Gl X "isinstance") (hm : X.mg "isinstance" = none) (hg2 : Gl X Ty) (hm2 : X.mg Ty = none) (hv : bootBuiltins Ty = some (.type T)) (hn : Ty ≠ "__name__" := by decide)
    (hd : (Ty == ("__debug__" : Str)) = false := by decide) (hs : starEach [e, .Name Ty p2] X.env = (false, eval e X.env) :: starEach [.Name Ty p2] X.env := by exact star_plain rfl)
    (hs2 : starEach [.Name Ty p2] X.env = (false, eval (.Name Ty p2) X.env) :: starEach [] X.env := by exact star_plain rfl) (hpl : (backTo pos (starEach [.Name Ty p2] X.env)).any (·.1) = false := by exact any_plain rfl) :
    DE X l' (.Call (.Name "isinstance" p) [e, .Name Ty p2] [] pos) (isxF cs f) := by
 with_unfolding_all exact (
  PE.imp (pe_callB (call_isx cs (cV := .ty T) (cv := .type T) (fun u r => r) hk) hg hm boot_isinstance (pa_cons he (pa_cons (pe_bltn (v := .ty T) hg2 hm2 hv rfl hn hd) pa_nil hs2) hs) (by decide) (by decide) hs hpl) fun σ H Q ⟨G, H0, env, d, k, ef, q⟩ => by
    obtain ⟨a, e1, e2⟩ := bind_inv ef
    refine ⟨G, H0, env, a, k, e1, fun v H' s r _ => ?_⟩
    obtain ⟨c, rfl, hc, rfl⟩ := isxD_inv e2
    exact ⟨v, c, rfl, r.weak Lv.weak_b, hc, q _ H' s (.bl true) (sc_bl (K := X.K) true).T⟩)
end
/-! ### dict(d) of a slot's own dict -/
section
variable {X : Cx}
def dupF (i : Nat) : Sl → Res D := fun env => match env[i]? with
  | some (.own (.dic ks ds)) => .ok (.dic ks ds)
  | _ => .stuck
end
/-! ### dicts compared -/
def dicEq : List Key → List D → List Key → List D → Bool
  | k :: ks, d :: ds, ks', ds' => (match valD ks' ds' k with | some e => eqD d e | none => false) && dicEq ks ds ks' ds'
  | _, _, _, _ => true
def DicC (ds ds' : List D) : Prop := D.eqbs ds = true ∧ D.eqbs ds' = true ∧ D.deps ds ≤ 190
instance (a b : List D) : Decidable (DicC a b) := inferInstanceAs (Decidable (_ ∧ _))
end M

set_option Elab.async false
set_option linter.all false
set_option maxRecDepth 100000
set_option maxHeartbeats 4000000
namespace M
open PySem PySem.Spec L2
open PyProof.Rows hiding St
section
variable {X : Cx} {pins : List (Addr × Obj)} {σ : L2.St} {H : Hp} {s : Shared}
theorem hits_of (I : Inv X pins σ H s) {A : Around} {kvs' : List (Key × V)} {vs' : List (Key × Value)} {ds' : List D} (kv' : KV kvs' vs') (r' : Reps X.K Any H (kvs'.map (·.2)) ds') (hb' : D.eqbs ds' = true) :
    ∀ {kvs : List (Key × V)} {vs : List (Key × Value)} {ds : List D}, KV kvs vs → Reps X.K Any H (kvs.map (·.2)) ds → D.eqbs ds = true → A.units + D.deps ds < cLine → PySem.W.KeqHits A s vs' vs (dicEq (kvs.map (·.1)) ds (kvs'.map (·.1)) ds') := by
  intro kvs vs ds kv
  unfold KV at kv
  induction kv generalizing ds with
  | nil => intro r _ _; cases r; exact .nil
  | @cons p q ps qs h t ih =>
    intro r hb hu
    obtain ⟨k, v⟩ := p
    obtain ⟨k2, u⟩ := q
    obtain ⟨rfl, ru⟩ := h
    cases r with
    | @cons _ _ _ d _ ds2 r1 r2 =>
      simp only [D.eqbs, Bool.and_eq_true] at hb
      simp only [D.deps] at hu
      have ihh := ih r2 hb.2 (by omega)
      have hv := kv'.val k
      obtain ⟨g1, g2⟩ := rep_val (K := X.K) (A := Any) (H := H) k r'
      show PySem.W.KeqHits A s vs' ((k, u) :: qs) ((match valD (kvs'.map (·.1)) ds' k with | some e => eqD d e | none => false) && dicEq (ps.map (·.1)) ds2 (kvs'.map (·.1)) ds')
      cases e : valD (kvs'.map (·.1)) ds' k with
      | none =>
        rw [g2 e] at hv
        have hn : valueAt vs' k = none := by
          cases z : valueAt vs' k with
          | none => rfl
          | some y => rw [z] at hv; exact hv.elim
        exact .miss hn
      | some d' =>
        obtain ⟨v', e1, r1'⟩ := g1 d' e
        rw [e1] at hv
        cases z : valueAt vs' k with
        | none => rw [z] at hv; exact hv.elim
        | some y =>
          rw [z] at hv
          have hd' : d' ∈ ds' := by
            unfold valD at e
            cases z2 : ((kvs'.map (·.1)).zip ds').find? fun p => decide (p.1 = k) with
            | none => rw [z2] at e; cases e
            | some pr => rw [z2] at e; cases e; exact (List.of_mem_zip (List.mem_of_find?_eq_some z2)).2
          exact .hit z (eqAt_all I d A v v' u y d' (by omega) r1 ru r1' hv hb.1 (eqbs_mem hb' hd')) ihh
def rDic (K : PySem.W.Frag) (neg : Bool) : R2 := fun x y H Q => ∃ a b kvs kvs' ds ds', x = .ref a ∧ y = .ref b ∧ H a = some (.dK kvs) ∧ H b = some (.dK kvs') ∧ Reps K Any H (kvs.map (·.2)) ds ∧ Reps K Any H (kvs'.map (·.2)) ds' ∧ DicC ds ds' ∧
  Q (.bl (if neg = true then !(kvs.length == kvs'.length && dicEq (kvs.map (·.1)) ds (kvs'.map (·.1)) ds') else (kvs.length == kvs'.length && dicEq (kvs.map (·.1)) ds (kvs'.map (·.1)) ds'))) H
theorem op_dicEq (hu : X.A.units + 200 < cLine) : OpR X (compareOp .Eq) (rDic X.K false) := by
  intro pins s σ H x y v u Q I rx ry ⟨a, b, kvs, kvs', ds, ds', ex, ey, ha, hb, r, r', ⟨c1, c2, c3⟩, q⟩
  subst ex ey
  cases rx
  cases ry
  obtain ⟨_, z1, vs, kv, dd⟩ := dk_of I.hok ha
  obtain ⟨_, z2, vs', kv', dd'⟩ := dk_of I.hok hb
  refine PySem.W.keq_eq (knd := mixKind X.prog X.w) z1 z2 dd dd' (by omega) (fun _ => hits_of I kv' r' c2 kv r c1 ?_) ⟨.bl _, H, I, rfl, ?_⟩
  · have : X.A.in1.units = X.A.units + 1 := rfl
    omega
  · rw [← kv.length, ← kv'.length]; exact q
end
def eqDic : D → D → Res D
  | .dic ks ds, .dic ks' ds' => must (DicC ds ds') (.ok (.bl (ks.length == ks'.length && dicEq ks ds ks' ds')))
  | _, _ => .stuck
def neDic : D → D → Res D
  | .dic ks ds, .dic ks' ds' => must (DicC ds ds') (.ok (.bl (!(ks.length == ks'.length && dicEq ks ds ks' ds'))))
  | _, _ => .stuck
theorem od_dicEq {K : PySem.W.Frag} : OpS K (rDic K false) eqDic := fun x y H a b d Q ra rb e q => by
  unfold eqDic at e
  split at e
  · obtain ⟨h1, e2⟩ := must_inv e
    cases e2
    obtain ⟨p, kvs, rfl, hp, _, rfl, r⟩ := ra.dicE
    obtain ⟨p', kvs', rfl, hp', _, rfl, r'⟩ := rb.dicE
    refine ⟨p, p', kvs, kvs', _, _, rfl, rfl, hp, hp', r.low, r'.low, h1, ?_⟩
    have := q _ (sc_bl _)
    simpa using this
  · cases e
/-! ### {k: v, ..}, the keys ints -/
abbrev KF := Int × (Sl → Res D)
def trsOf (K : PySem.W.Frag) (kfs : List KF) : List (TE × TE) := kfs.map fun q => (tC (.int q.1), tE K .s q.2)
@[irreducible] def DPs (X : Cx) (pos : Pos) (keys : List (Option Expr)) (values : List Expr) (kfs : List KF) : Prop := PPs X pos keys values (trsOf X.K kfs)
section
variable {X : Cx}
def valsF (kfs : List KF) : Sl → Res (List D) := fun env => match kfs with
  | [] => .ok []
  | q :: r => q.2 env >>= fun d => valsF r env >>= fun ds => .ok (d :: ds)
def dispF (kfs : List KF) : Sl → Res D := fun env => valsF kfs env >>= fun ds => must (D.imms ds = true ∧ (kfs.map fun q => (Sum.inl q.1 : Key)).Nodup ∧ kfs.length ≤ 15) (.ok (.dic (kfs.map fun q => .inl q.1) ds))
end
end M

set_option Elab.async false
set_option linter.all false
set_option maxRecDepth 100000
set_option maxHeartbeats 4000000
namespace PySem.AutoSeq1
open PySem Builtin
end PySem.AutoSeq1
namespace M
open PySem PySem.Spec L2
open PyProof.Rows hiding St
section
variable {X : Cx}
def rRepT1 : R2 := fun x y H Q => ∃ l k xs, x = .ref l ∧ y = .int k ∧ H l = some (.tup xs) ∧ k = 1 ∧ Q (.ref l) H
def repTA : D → D → Res D
  | .tup ds, .int k => if k = 1 then .ok (.tup ds) else must (2 ≤ k ∧ k < 1000000 ∧ ds.isEmpty = false ∧ ds.length * k.toNat ≤ sizeLine) (.ok (.tup (List.replicate k.toNat ds).flatten))
  | _, _ => .stuck
/-! ### dict(d) of a dict that is shared -/
def dictK : List D → Res D
  | [.dic ks ds] => .ok (.dic ks ds)
  | _ => .stuck
theorem dssx_nil : DSsX X [] (calmO nxO) := DSs.x dss_nil
theorem boot_ValueErrorG : bootBuiltins "ValueError" = some (.type "ValueError") := by decide +kernel
end
section
variable {X : Cx} {k : Nat} {x : Str} {ps : List Str} {fr : Bool} {F : List D → Res D} {e : Expr} {es : List Expr} {p pos : Pos} {g : Sl → Res (List D)}
theorem DEX.s {f : Sl → Res D} (h : DEX X .t e f) : DEX X .s e f := by
 with_unfolding_all exact (PE.imp h fun σ H Q ⟨G, H0, env, k, q⟩ => by
  rcases q with ⟨d, e1, q⟩ | z
  · exact ⟨G, H0, env, k, .inl ⟨d, e1, fun v H' s r _ => q v H' s r trivial⟩⟩
  · exact ⟨G, H0, env, k, .inr z⟩)
theorem AvX.callS {n : Nat} (A : AvX X.prog X.w X.K X.mg X.base k x ps fr F) (hr : Room k X.A) (ha : DA X .s (e :: es) g) (hn : ps.length = n := by rfl) (hg : Gl X x := by rfl) (hdb : (x == ("__debug__" : Str)) = false := by decide)
    (he : starEach (e :: es) X.env = (false, eval e X.env) :: starEach es X.env := by exact star_plain rfl) (hpl : (backTo pos (starEach es X.env)).any (·.1) = false := by exact any_plain rfl) : DEX X .s (.Call (.Name x p) (e :: es) [] pos) (callX n F g) := by
  have h := AvX.call (p := p) A hr ha hn hg hdb he hpl
  cases fr with
  | true => exact DEX.s h
  | false => exact h
end
end M

set_option Elab.async false
set_option linter.all false
set_option maxRecDepth 100000
set_option maxHeartbeats 4000000
namespace M
open PySem PySem.Spec L2
open PyProof.Rows hiding St
/-! ### for, with a body that may raise (hp: PassesOwn.leaving in a def's own context) -/
def turnX (t : D → Sl → Res Sl) (g : Sl → Res Out) : D → Sl → Res Out := fun d env => match t d env with
  | .ok env' => g env'
  | _ => .stuck
def forX (f : Sl → Res (List D)) (t : D → Sl → Res Sl) (g : Sl → Res Out) : Sl → Res Out := fun env => match f env with
  | .ok ds => forD (turnX t g) ds env
  | _ => .stuck
theorem dsx_for {X : Cx} {tg e : Expr} {pos : Pos} {body : List Stmt} {fi : Sl → Res (List D)} {t : D → Sl → Res Sl} {g : Sl → Res Out} (hp : PassesOwn (model X.prog X.w) X.A X.env X.xe) (hc : X.calm = true) (hi : DI X tg e fi) (hg : DG X tg t) (hb : DSsX X body g)
    (hs : ∀ x, foldedSetIterable e X.env x = pure x := by intro _; rfl) : DSX X (.For tg e body [] pos) (forX fi t g) := by
 with_unfolding_all exact (
  PS.imp (ps_for hp hc hi hg hb hs) fun E σ H ⟨G, H0, env, k, q⟩ => by
    have key : ∃ ds, fi env = .ok ds ∧ forX fi t g env = forD (turnX t g) ds env := by
      cases e1 : fi env with
      | ok ds => exact ⟨ds, rfl, by unfold forX; rw [e1]⟩
      | _ =>
        have z : forX fi t g env = .stuck := by unfold forX; rw [e1]
        rcases q with ⟨o, ef, _⟩ | ⟨c, ef, _⟩ <;> (rw [z] at ef; cases ef)
    obtain ⟨ds, e1, e2⟩ := key
    rw [e2] at q
    generalize hres : forD (turnX t g) ds env = res at q
    refine ⟨G, H0, env, ds, k, e1, fun J H1 P sm wk p0 pst => ?_⟩
    have k1 := k.grow sm
    have q1 : (∃ o, res = .ok o ∧ Post X.K G H0 env σ H1 E o) ∨ ∃ c, res = .exc c ∧ Thr X c H0 := by
      rcases q with ⟨o, ef, q⟩ | z
      · exact .inl ⟨o, ef, out_tr (Frm.refl sm) q⟩
      · exact .inr z
    refine ⟨fun i m σ' H' => m = ds.length - i ∧ i ≤ ds.length ∧ ∃ env', EnvOk X.K G H0 env' σ' H' ∧ Frm env σ H1 env' σ' H' ∧ forD (turnX t g) (ds.drop i) env' = res, ⟨ds.length, by simp, Nat.zero_le _, env, k1, Frm.refl (Same.refl H1), by simpa using hres⟩, ?_⟩
    rintro i m σ' H' ⟨rfl, hi, env', k', f', e'⟩
    obtain ⟨w1, w2, w3⟩ := wk i H' (pst env' σ' H' f')
    by_cases hd : i < ds.length
    · refine .inr ⟨w1 hd, ?_⟩
      rw [List.drop_eq_getElem_cons hd] at e'
      have e3 : (turnX t g ds[i] env' >>= fun o => match o with
        | .nx env' => forD (turnX t g) (ds.drop (i + 1)) env'
        | .ct env' => forD (turnX t g) (ds.drop (i + 1)) env'
        | .bk env' => .ok (.nx env')
        | .rt fr d => .ok (.rt fr d)) = res := e'
      have key2 : ∃ env1, t ds[i] env' = .ok env1 ∧ turnX t g ds[i] env' = g env1 := by
        cases e5 : t ds[i] env' with
        | ok env1 => exact ⟨env1, rfl, by unfold turnX; rw [e5]⟩
        | _ =>
          have z : turnX t g ds[i] env' = .stuck := by unfold turnX; rw [e5]
          rw [z] at e3
          have z2 : res = .stuck := e3.symm
          rcases q1 with ⟨o, ef, _⟩ | ⟨c, ef, _⟩ <;> (rw [z2] at ef; cases ef)
      obtain ⟨env1, e5, e6⟩ := key2
      rw [e6] at e3
      refine ⟨fun σ2 H2 => ds.length - (i + 1) = ds.length - (i + 1) ∧ i + 1 ≤ ds.length ∧ ∃ env2, EnvOk X.K G H0 env2 σ2 H2 ∧ Frm env σ H1 env2 σ2 H2 ∧ forD (turnX t g) (ds.drop (i + 1)) env2 = res, fun σ2 H2 z => ⟨ds.length - (i + 1), by omega, z⟩, fun x H2 y => ?_⟩
      obtain ⟨sm2, rd⟩ : Same H' H2 ∧ Rep X.K (Sf G env' σ') H2 x ds[i] := by
        rcases w2 _ (List.getElem?_eq_getElem hd) x H2 y with ⟨rfl, rd⟩ | ⟨p, vs, es, hp, rfl, rfl, ed, rds⟩
        · exact ⟨Same.refl _, f'.rep k1 rd⟩
        · refine ⟨Same.upd hp, ?_⟩
          rw [ed]
          exact .tup upd_same ((f'.reps k1 rds).grow (Same.upd hp))
      refine ⟨G, H0, env', ds[i], env1, k'.grow sm2, rd, e5, fun σ1 kk1 ff1 => ⟨G, H0, env1, kk1, ?_⟩⟩
      have fr1 := (f'.trans (Frm.refl sm2)).trans ff1
      cases eg : g env1 with
      | stuck =>
        rw [eg] at e3
        have z2 : res = .stuck := e3.symm
        rcases q1 with ⟨o, ef, _⟩ | ⟨c, ef, _⟩ <;> (rw [z2] at ef; cases ef)
      | exc c1 =>
        rw [eg] at e3
        have z2 : res = .exc c1 := e3.symm
        rcases q1 with ⟨o, ef, _⟩ | ⟨c, ef, th⟩
        · rw [z2] at ef; cases ef
        · rw [z2] at ef; cases ef
          exact .inr ⟨c1, rfl, th⟩
      | ok o1 =>
        rw [eg] at e3
        refine .inl ⟨o1, rfl, ?_⟩
        cases o1 with
        | nx env2 => exact fun σ2 H3 kk2 ff2 => ⟨rfl, hd, env2, kk2, fr1.trans ff2, e3⟩
        | ct env2 => exact fun σ2 H3 kk2 ff2 => ⟨rfl, hd, env2, kk2, fr1.trans ff2, e3⟩
        | bk env2 =>
          have z2 : res = .ok (.nx env2) := e3.symm
          rcases q1 with ⟨o, ef, q1⟩ | ⟨c, ef, _⟩
          · rw [z2] at ef; cases ef
            exact fun σ2 H3 kk2 ff2 => q1 σ2 H3 kk2 (fr1.trans ff2)
          · rw [z2] at ef; cases ef
        | rt fr dd =>
          have z2 : res = .ok (.rt fr dd) := e3.symm
          rcases q1 with ⟨o, ef, q1⟩ | ⟨c, ef, _⟩
          · rw [z2] at ef; cases ef
            exact q1
          · rw [z2] at ef; cases ef
    · have he : i = ds.length := by omega
      refine .inl ⟨w3 (by omega), ?_⟩
      rw [List.drop_eq_nil_of_le (by omega)] at e'
      have z2 : res = .ok (.nx env') := e'.symm
      rcases q1 with ⟨o, ef, q1⟩ | ⟨c, ef, _⟩
      · rw [z2] at ef; cases ef
        exact q1 σ' H' k' f'
      · rw [z2] at ef; cases ef)
end M

set_option Elab.async false
set_option linter.all false
set_option maxRecDepth 100000
set_option maxHeartbeats 4000000
namespace M
open PySem PySem.Spec PySem.W PySem.Calls
open PyProof.Rows hiding St
open Builtin Builtin.ObjectAttr Builtin.Getset_descriptor
section
variable {prog : Program} {w : World} {A : Around} {E : Value → Shared → Prop} {h : Heap} {g : Array GenState} {d : Drawn} {t : Nat} {os : OsState} {a C : Addr} {o : Obj} {K : Frag}
theorem xcls_get {R : Result → Shared → Prop} {tp : Value} (X : K.In h) (ho : h.get? a = some o) (hc : o.cls = .ref C) (hm : mroIn K C (.type "object") = some true) (hq : R (.ok (.ret (.ref C))) ⟨h, g, d, t, os⟩) :
    codeAny (model prog w) A (.call (.builtin "getset_descriptor.__get__") ⟨[.builtin "object.__class__", .ref a, tp], []⟩) R ⟨h, g, d, t, os⟩ := by
  have L0 : Looks (model prog w) h (typeOf (.ref a)) (.ref C) := hc ▸ (Looks.ld ho).andThen .now
  have L1 := looks_mroIn (M := model prog w) X hm
  refine codeAny_call_builtin KF.slot_gs.plain KF.entry_gs (KF.slot_gs.check _ _ _ _ _ _ _ _ KF.type_class (KF.args_gs _ _ _) ?_)
  unfold Builtin.«getset_descriptor.__get__» descrGet
  rw [dga_obj]
  refine wpAny_bind (wpAny_pure ?_)
  unfold descrGetter descrCheckInstance descrNameAndClass isInstance
  simp only [KF.owner_class]
  repeat lk
  refine ⟨Code.quiet_builtin _ (by decide +kernel), codeAny_builtin KF.entry_class ?_⟩
  unfold Builtin.«object.__class__» shownTypeOf
  repeat lk
  exact hq
theorem xcls_find (X : K.In h) (ha : findIn K (.ref C) "__class__" = some (some (.builtin "object.__class__"))) (hn : specialIn K (.builtin "object.__class__") "__get__" = some (some (.builtin "getset_descriptor.__get__"))) (htk : takesIn K (.builtin "object.__class__") = some true) :
    Looks (model prog w) h (find (.ref a) (.ref C) "__class__") (.bind (.builtin "getset_descriptor.__get__") (.builtin "object.__class__")) :=
  (looks_findIn X ha).andThen ((show Looks (model prog w) h (getOf (some (.builtin "object.__class__"))) (some (.builtin "getset_descriptor.__get__")) from looks_specialIn X hn).andThen
    ((show Looks (model prog w) h (dataDescriptor? (some (.builtin "object.__class__")) (some (.builtin "getset_descriptor.__get__"))) (some (.builtin "getset_descriptor.__get__", .builtin "object.__class__")) from (looks_takesIn X htk).andThen .now).andThen (Looks.tag .now)))
theorem xcls_entry {tk : Tok} {Q : Fin → Shared → Prop} (X : K.In h) (ho : h.get? a = some o) (hc : o.cls = .ref C) (hm : mroIn K C (.type "object") = some true)
    (ha : findIn K (.ref C) "__class__" = some (some (.builtin "object.__class__"))) (hn : specialIn K (.builtin "object.__class__") "__get__" = some (some (.builtin "getset_descriptor.__get__"))) (htk : takesIn K (.builtin "object.__class__") = some true)
    (hq : Q (.done (.ret (.ref C))) ⟨h, g, d, t, os⟩) : wpAny (model prog w) A (Builtin.«object.__getattribute__» ⟨[.ref a, .str "__class__" tk], []⟩) Q E ⟨h, g, d, t, os⟩ := by
  have L0 : Looks (model prog w) h (typeOf (.ref a)) (.ref C) := hc ▸ (Looks.ld ho).andThen .now
  have L1 := xcls_find (prog := prog) (w := w) (a := a) X ha hn htk
  show wpAny _ _ (slotArgs "__getattribute__" 1 _ >>= _) _ _ _
  refine wpAny_bind (wpAny_pure ?_)
  refine wpAny_bind (wpAny_pure ?_)
  refine wpAny_bind (L0.at ?_)
  refine wpAny_bind (L1.at ?_)
  show wpAny _ _ (holding [_] (call _ _) >>= ret) _ _ _
  exact wpAny_bind (wpAny_holding (wpAny_call (xcls_get X ho hc hm (wpAny_pure hq))))
theorem xcls_call {tk : Tok} {R : Result → Shared → Prop} (X : K.In h) (ho : h.get? a = some o) (hc : o.cls = .ref C) (hm : mroIn K C (.type "object") = some true) (hb : subIn K (.ref C) (.type "BaseException") = some true)
    (ha : findIn K (.ref C) "__class__" = some (some (.builtin "object.__class__"))) (hn : specialIn K (.builtin "object.__class__") "__get__" = some (some (.builtin "getset_descriptor.__get__"))) (htk : takesIn K (.builtin "object.__class__") = some true)
    (hq : R (.ok (.ret (.ref C))) ⟨h, g, d, t, os⟩) : codeAny (model prog w) A (.call (.builtin "BaseException.__getattribute__") ⟨[.ref a, .str "__class__" tk], []⟩) R ⟨h, g, d, t, os⟩ := by
  have L0 : Looks (model prog w) h (typeOf (.ref a)) (.ref C) := hc ▸ (Looks.ld ho).andThen .now
  have L1 : Looks (model prog w) h (isSubtype (.ref C) (.type "BaseException")) true := looks_subIn X hb
  refine codeAny_call_builtin F.excAttr_ValueError.ga.plain F.entry_bexc_ga ?_
  have hk : builtinKind "BaseException.__getattribute__" = some .slot := by kernel_rfl
  have hsp : splitId "BaseException.__getattribute__" = some ("BaseException", "__getattribute__") := by kernel_rfl
  have LI : Looks (model prog w) h (isInstance (.ref a) (.type "BaseException")) true := L0.andThen L1
  have ha2 := F.args_bexc_ga (.ref a) (.str "__class__" tk)
  simp only [checkBuiltinCall, hk, hsp]
  refine wpAny_bind (LI.at ?_)
  simp only [Bool.not_true, Bool.false_eq_true, if_false]
  have fin : wpAny (model prog w) A.in1 (Builtin.«object.__getattribute__» ⟨[.ref a, .str "__class__" tk], []⟩) (fun fin s' => match fin with | .done f => R (.ok f) s' | .again c' => c'.quiet = true ∧ codeAny (model prog w) A c' R s') (fun e s' => R (.error e) s') ⟨h, g, d, t, os⟩ :=
    xcls_entry X ho hc hm ha hn htk hq
  cases hsig : Manifest.signature? "BaseException.__getattribute__" with
  | none => exact wpAny_pure fin
  | some sig =>
    simp only [argsOk, hsig] at ha2
    have h2 : Bind.checkArgs "BaseException.__getattribute__" sig ⟨[.ref a, .str "__class__" tk], []⟩ = pure () := ha2
    show wpAny _ _ (Bind.checkArgs "BaseException.__getattribute__" sig ⟨[.ref a, .str "__class__" tk], []⟩) _ _ _
    rw [h2]; exact wpAny_pure fin
/-- what is asked of an exception's own class -/
structure ExcC (K : Frag) (C : Addr) : Prop where
  cls : (clsIn K C).isSome = true
  obj : mroIn K C (.type "object") = some true
  base : subIn K (.ref C) (.type "BaseException") = some true
  own : findIn K (.ref C) "__class__" = some (some (.builtin "object.__class__"))
  get : specialIn K (.builtin "object.__class__") "__get__" = some (some (.builtin "getset_descriptor.__get__"))
  tak : takesIn K (.builtin "object.__class__") = some true
  ga : findIn K (.ref C) "__getattribute__" = some (some (.builtin "BaseException.__getattribute__"))
  hk : findIn K (.ref C) "__getattr__" = some none
theorem xcls_attr {Q : Option Value → Shared → Prop} (X : K.In h) (c : ExcC K C) (ho : h.get? a = some o) (hc : o.cls = .ref C) (hq : Q (some (.ref C)) ⟨h, g, d, t + 1, os⟩) : wpAny (model prog w) A (getAttr? (.ref a) "__class__") Q E ⟨h, g, d, t, os⟩ := by
  have L0 : Looks (model prog w) h (typeOf (.ref a)) (.ref C) := hc ▸ (Looks.ld ho).andThen .now
  have L1 := looks_findIn (M := model prog w) X c.ga
  have L2 := looks_findIn (M := model prog w) X c.hk
  unfold getAttr? getAttrBy? getAttrBy
  refine wpAny_bind (wpAny_mkText (wpAny_bind (wpAny_attempt (wpAny_holding (wpAny_bind (L0.at (wpAny_bind (L1.at ?_))))))))
  show wpAny _ _ (getAttrByItsOwn _ _ _ _ _ _) _ _ _
  unfold getAttrByItsOwn hookBefore
  refine wpAny_bind (L2.at ?_)
  refine wpAny_bind (wpAny_attempt (wpAny_holding ?_))
  show wpAny _ _ (boundAndCalled _ _ _) _ _ _
  unfold boundAndCalled
  rw [F.excAttr_ValueError.ga.bind (.ref a)]
  refine wpAny_bind (wpAny_pure ?_)
  exact wpAny_call (xcls_call X ho hc c.obj c.base c.own c.get c.tak (wpAny_pure (wpAny_pure hq)))
theorem kitx_exc (c : ExcC K C) : KitX K (.ref a) (.ref C) (fun h => ∃ o, h.get? a = some o ∧ o.cls = .ref C) where
  ty := fun _ _ _ ⟨o, ho, hc⟩ => hc ▸ (Looks.ld ho).andThen .now
  it := fun _ _ X _ => by
    obtain ⟨cdD, hcD⟩ := Option.isSome_iff_exists.mp c.cls
    unfold clsIn at hcD
    split at hcD
    · rename_i c' d' cd' sl' ho
      intro A' Q' E' s' k q
      unfold isType loadHead
      exact wpAny_bind (wpAny_loadPart (k _ _ (X _ _ ho)) (wpAny_pure q))
    · cases hcD
  ne := fun h tp dd its n sl X htp => by
    obtain ⟨cdD, hcD⟩ := Option.isSome_iff_exists.mp c.cls
    refine Bool.eq_false_iff.mpr fun q => ?_
    have e : C = tp := Value.ref.inj (beq_iff_eq.mp q)
    subst e
    unfold clsIn at hcD
    split at hcD
    · rename_i c' d' cd' sl' ho
      have z := (X _ _ ho).symm.trans htp
      cases z
    · cases hcD
  ca := fun {prog w A E Q s} X I k => by
    obtain ⟨o, ho, hc⟩ := I
    obtain ⟨h, g, d, t, os⟩ := s
    exact xcls_attr X c ho hc k
end
section
open L2
variable {X : Cx}
/-- isinstance of an exception, whatever the answer -/
theorem call_isy (tab : List (Str × Bool)) {cV : V} {cv : Value} (hr : ∀ u, RelV cV u → u = cv) (hk : ∀ c b, tab.lookup c = some b → ∀ C, NmC X.K c C → ExcC X.K C ∧ kitOne X.K (.ref C) cv = some b) :
    CallR X (.builtin "isinstance") (fun xs H Q => ∃ x c b, xs = [x, cV] ∧ Rep X.K Any H x (.exn c) ∧ tab.lookup c = some b ∧ Q (.bl b) H) := by
  intro pins s σ H xs us Q I r ⟨x, c, b, ex, rp, hc, q⟩
  subst ex
  obtain ⟨u, w', rfl, r1, r2⟩ := vals2 r
  cases hr w' r2
  cases rp with
  | @exn _ _ a b' C o _ ha hC hn =>
    cases (show u = Value.ref a from r1)
    obtain ⟨ho, _⟩ := (show ObjOk X.prog X.w H s.heap a (.frz o (.own b')) from I.hok a _ ha)
    obtain ⟨ec, hx⟩ := hk c b hc C hn
    exact kia_one (kitx_exc ec) I.kIn ⟨o, ho, hC⟩ hx (fun z => nomatch z) fun tk => ⟨.bl b, H, I.tok tk, rfl, q⟩
def isyD (tab : List (Str × Bool)) : D → Res D
  | .exn c => match tab.lookup c with
    | some b => .ok (.bl b)
    | none => .stuck
  | _ => .stuck
def isyF (tab : List (Str × Bool)) (f : Sl → Res D) : Sl → Res D := fun env => f env >>= isyD tab
theorem isyD_inv {tab : List (Str × Bool)} {a d : D} (h : isyD tab a = .ok d) : ∃ c b, a = .exn c ∧ tab.lookup c = some b ∧ d = .bl b := by
  unfold isyD at h
  split at h
  · split at h
    · rename_i b hb
      cases h
      exact ⟨_, b, rfl, hb, rfl⟩
    · cases h
  · cases h
theorem de_isy (tab : List (Str × Bool)) (Ty : Str) {CT : Addr} {l l' : Lv} {e : Expr} {f : Sl → Res D} {p p2 pos : Pos} (hk : ∀ c b, tab.lookup c = some b → ∀ C, NmC X.K c C → ExcC X.K C ∧ kitOne X.K (.ref C) (.ref CT) = some b) (he : DE X l e f)
    (hg : Gl X "isinstance") (hm : X.mg "isinstance" = none) (hg2 : Gl X Ty) (hm2 : X.mg Ty = some (.ref CT))
    (hd : (Ty == ("__debug__" : Str)) = false := by decide) (hs : starEach [e, .Name Ty p2] X.env = (false, eval e X.env) :: starEach [.Name Ty p2] X.env := by exact star_plain rfl)
    (hs2 : starEach [.Name Ty p2] X.env = (false, eval (.Name Ty p2) X.env) :: starEach [] X.env := by exact star_plain rfl) (hpl : (backTo pos (starEach [.Name Ty p2] X.env)).any (·.1) = false := by exact any_plain rfl) :
    DE X l' (.Call (.Name "isinstance" p) [e, .Name Ty p2] [] pos) (isyF tab f) := by
 with_unfolding_all exact (
  PE.imp (pe_callB (call_isy tab (cV := .ref CT) (cv := .ref CT) (fun u r => r) hk) hg hm boot_isinstance (pa_cons he (pa_cons (pe_glob (v := .ref CT) hg2 hm2 rfl hd) pa_nil hs2) hs) (by decide) (by decide) hs hpl) fun σ H Q ⟨G, H0, env, d, k, ef, q⟩ => by
    obtain ⟨a, e1, e2⟩ := bind_inv ef
    refine ⟨G, H0, env, a, k, e1, fun v H' s r _ => ?_⟩
    obtain ⟨c, b, rfl, hc, rfl⟩ := isyD_inv e2
    exact ⟨v, c, b, rfl, r.weak Lv.weak_b, hc, q _ H' s (.bl b) (sc_bl (K := X.K) b).T⟩)
end
end M

set_option Elab.async false
set_option linter.all false
set_option maxRecDepth 100000
set_option maxHeartbeats 4000000
namespace M
open PySem PySem.Spec L2
open PyProof.Rows hiding St
/-- where it raises nothing, a def that may raise is one that doesn't -/
theorem AvX.av {P : Program} {w : World} {K : PySem.W.Frag} {mg : Str → Option Value} {base : Heap} {k : Nat} {x : Str} {ps : List Str} {fr : Bool} {F : List D → Res D} (h : AvX P w K mg base k x ps fr F) : Av P w K mg base k x ps fr (fun ds => nx1 (F ds)) := by
  obtain ⟨f, fd, G, b⟩ := h.ex
  refine ⟨f, fd, ⟨fun vs H Q E ⟨B, ds, d, hl, _⟩ => hl, fun A outer s H args us vs Q E hr he hb hv hs => ?_⟩, b⟩
  obtain ⟨B, ds, d, hl, r, e, q⟩ := hs
  refine codeAny_mono (G.run A outer s H args us vs Q (fun _ _ _ => False) hr he hb hv ⟨B, ds, hl, r, .inl ⟨d, nx1_ok e, q⟩⟩) fun r s' hq => ?_
  cases r with
  | error e =>
    obtain ⟨_, _, _, _, _, _, _, _, _, _, _, _, _, z⟩ := hq
    exact z.elim
  | ok fl => cases fl <;> exact hq
end M

set_option Elab.async false
set_option linter.all false
set_option maxRecDepth 100000
set_option maxHeartbeats 4000000
namespace M
open PySem PySem.Spec L2
open PyProof.Rows hiding St
section
variable {X : Cx}
/-! ### isinstance of an exception, a tuple of own classes -/
def tCs (vs : List V) : TA := fun _ H Q => Q vs H
theorem pas_nil : PA X [] (tCs []) := pa_nil
theorem pas_cons {T : Str} {C : Addr} {p : Pos} {es : List Expr} {vs : List V} (hg : Gl X T) (hm : X.mg T = some (.ref C)) (hr : PA X es (tCs vs)) (hd : (T == ("__debug__" : Str)) = false := by decide)
    (hs : starEach (.Name T p :: es) X.env = (false, eval (.Name T p) X.env) :: starEach es X.env := by exact star_plain rfl) : PA X (.Name T p :: es) (tCs (.ref C :: vs)) :=
  pa_cons (pe_glob (v := .ref C) hg hm rfl hd) hr hs
theorem clsRefs : ∀ {Cs : List Addr} {us : List Value}, Vals (Cs.map V.ref) us → us = Cs.map Value.ref
  | [], _, r => by cases r; rfl
  | C :: Cs, _, r => by
    cases r with
    | cons h t =>
      cases (show _ = Value.ref C from h)
      rw [clsRefs t]; rfl
theorem call_isyT (tab : List (Str × Bool)) (Cs : List Addr) (hk : ∀ c b, tab.lookup c = some b → ∀ C, NmC X.K c C → ExcC X.K C ∧ PySem.W.kitAny X.K (.ref C) (Cs.map Value.ref) = some b) :
    CallR X (.builtin "isinstance") (fun xs H Q => ∃ x p c b, xs = [x, .ref p] ∧ H p = some (.tup (Cs.map V.ref)) ∧ Rep X.K Any H x (.exn c) ∧ tab.lookup c = some b ∧ Q (.bl b) H) := by
  intro pins s σ H xs us Q I r ⟨x, p, c, b, ex, hp, rp, hc, q⟩
  subst ex
  obtain ⟨u, w', rfl, r1, r2⟩ := vals2 r
  cases r2
  obtain ⟨its, rv, ⟨ob, e, hcl, n, hd⟩, _⟩ := I.tuple (.of hp)
  obtain ⟨c2, dd2, dt2, sl2⟩ := ob
  have hc' : c2 = .type "tuple" := hcl
  have hd' : dt2 = .seq its.toArray n := hd
  subst hc' hd'
  have hits := clsRefs rv
  subst hits
  cases rp with
  | @exn _ _ a b' C o _ ha hC hn =>
    cases (show u = Value.ref a from r1)
    obtain ⟨ho, _⟩ := (show ObjOk X.prog X.w H s.heap a (.frz o (.own b')) from I.hok a _ ha)
    obtain ⟨ec, hx⟩ := hk c b hc C hn
    exact PySem.W.kia_tup (kitx_exc ec) I.kIn ⟨o, ho, hC⟩ e hx (fun z => nomatch z) fun tk => ⟨.bl b, H, I.tok tk, rfl, q⟩
theorem de_isyT (tab : List (Str × Bool)) (Cs : List Addr) {l l' : Lv} {e : Expr} {es : List Expr} {f : Sl → Res D} {p tpos pos : Pos} {k : Nat} (hk : ∀ c b, tab.lookup c = some b → ∀ C, NmC X.K c C → ExcC X.K C ∧ PySem.W.kitAny X.K (.ref C) (Cs.map Value.ref) = some b) (he : DE X l e f)
    (hg : Gl X "isinstance") (hm : X.mg "isinstance" = none) (hes : PE X (.Tuple es k tpos) (tTup (tCs (Cs.map V.ref)))) (hsz : Cs.length ≤ sizeLine := by decide)
    (hs : starEach [e, .Tuple es k tpos] X.env = (false, eval e X.env) :: starEach [.Tuple es k tpos] X.env := by exact star_plain rfl)
    (hs2 : starEach [.Tuple es k tpos] X.env = (false, eval (.Tuple es k tpos) X.env) :: starEach [] X.env := by exact star_plain rfl) (hpl : (backTo pos (starEach [.Tuple es k tpos] X.env)).any (·.1) = false := by exact any_plain rfl) :
    DE X l' (.Call (.Name "isinstance" p) [e, .Tuple es k tpos] [] pos) (isyF tab f) := by
 with_unfolding_all exact (
  PE.imp (pe_callB (call_isyT tab Cs hk) hg hm boot_isinstance (pa_cons he (pa_cons hes pa_nil hs2) hs) (by decide) (by decide) hs hpl) fun σ H Q ⟨G, H0, env, d, kk, ef, q⟩ => by
    obtain ⟨a, e1, e2⟩ := bind_inv ef
    refine ⟨G, H0, env, a, kk, e1, fun v H' s r _ => ?_⟩
    obtain ⟨c, b, rfl, hc, rfl⟩ := isyD_inv e2
    refine ⟨by simpa using hsz, fun p' hp' => ?_⟩
    exact ⟨v, p', c, b, rfl, upd_same, (r.grow (Same.upd hp')).weak Lv.weak_b, hc, q _ _ (s.trans (Same.upd hp')) (.bl b) (sc_bl (K := X.K) b).T⟩)
end
end M

set_option Elab.async false
set_option linter.all false
set_option maxRecDepth 100000
set_option maxHeartbeats 4000000
namespace M
open PySem PySem.Spec L2
open PyProof.Rows hiding St
/-! ### x[k] = v, x a slot's own list -/
theorem Reps.set {K : PySem.W.Frag} {A : Addr → Prop} {H : Hp} {v : V} {d : D} (rv : Rep K A H v d) : ∀ {xs : List V} {ds : List D} (j : Nat), Reps K A H xs ds → Reps K A H (xs.set j v) (ds.set j d)
  | _, _, _, .nil => .nil
  | _, _, 0, .cons _ t => .cons rv t
  | _, _, j + 1, .cons h t => .cons h (Reps.set rv j t)
def setIx (i : Nat) (fk fv : Sl → Res D) : Sl → Res Out := fun env => ownL i env >>= fun ds => fv env >>= fun d => fk env >>= fun kd => match kd with
  | .int n => match ixN ds.length n with
    | some j => .ok (.nx (env.set i (.own (.lst (ds.set j d)))))
    | none => .stuck
  | _ => .stuck
theorem ds_setIx {X : Cx} {l1 : Lv} {e1 e2 : Expr} {fk fv : Sl → Res D} {pos apos p : Pos} {x : Str} (i : Nat) (hk : DE X l1 e1 fk) (hv : DE X .s e2 fv) (hN : X.N[i]? = some x := by rfl) (hvs : Vis X.env.scope x := by first | exact Or.inl rfl | exact Or.inr (Or.inl rfl) | exact Or.inr (Or.inr rfl))
    (hd : (x == ("__debug__" : Str)) = false := by decide) (hcd : (x == ("__classdict__" : Str)) = false := by decide)
    (ha : ∀ v, assign (.Subscript (.Name x p) e1 apos) X.env v = (do
      let ov ← holding [v] (eval (.Name x p) X.env)
      let iv ← holding [v, ov] (eval e1 X.env)
      standAt apos
      holding [v, ov, iv] (setItem ov iv v)
      release [v, ov, iv] []) := by intro _; rfl)
    (hs : swapsWithSole [.Subscript (.Name x p) e1 apos] e2 pos.line X.env = pure false := by rfl) (hw : swappedStores [.Subscript (.Name x p) e1 apos] e2 X.env = pure none := by rfl)
    (h1 : (assignEach [.Subscript (.Name x p) e1 apos] X.env).map (·.2) = [assign (.Subscript (.Name x p) e1 apos) X.env] := by rfl) :
    DS X (.Assign [.Subscript (.Name x p) e1 apos] e2 pos) (setIx i fk fv) := by
 with_unfolding_all exact (
  PS.imp (ps_asg hv (pg_sub (pe_var (i := i) hN hvs hd hcd) hk set_list ha) hs hw h1) fun E σ H ⟨G, H0, env, o, k, ef, q⟩ => by
    obtain ⟨ds, c1, ef⟩ := bind_inv ef
    obtain ⟨d, c2, ef⟩ := bind_inv ef
    obtain ⟨kd, c3, c4⟩ := bind_inv ef
    have hi := ownL_inv c1
    obtain ⟨a, xs, ha, hx, rs⟩ := own_list k hi
    cases kd with
    | int n =>
      dsimp only at c4
      cases e5 : ixN ds.length n with
      | none => rw [e5] at c4; cases c4
      | some j =>
        rw [e5] at c4
        cases c4
        refine ⟨G, H0, env, d, k, c2, fun v H1 s1 r1 _ => ⟨.ref a, ha, G, H0, env, .int n, k.grow s1, c3, fun y H2 s2 r2 _ => ?_⟩⟩
        have hx2 := s2 _ _ (s1 _ _ hx)
        cases (r2.weak (A' := Any) Lv.weak_b).intE
        refine ⟨a, xs, n, j, rfl, rfl, hx2, by rw [rs.length]; exact e5, ?_⟩
        have W := ((k.grow s1).grow s2).write hi ha hx2 (xs' := xs.set j v) (ds' := ds.set j d) (Reps.set (r1.grow s2) j ((rs.grow s1).grow s2))
        exact q σ _ W.1 ((W.2.grow s2).grow s1)
    | _ => cases c4)
end M

set_option Elab.async false
set_option linter.all false
set_option maxRecDepth 100000
set_option maxHeartbeats 4000000
namespace M
open PySem PySem.W PyProof.Rows
open PySem.SeqAt (EqAt RcAt RcNeAt)
/-! ### sorted of a list of tuples of numbers that rises as it stands -/
/-- one row of numbers lies ahead of another -/
def ltJ : List Int → List Int → Bool
  | _, [] => false
  | [], _ :: _ => true
  | a :: x, b :: y => if a = b then ltJ x y else decide (a < b)
theorem ltJ_irr : ∀ x, ltJ x x = false
  | [] => rfl
  | a :: x => by simp [ltJ, ltJ_irr x]
theorem ltJ_asym : ∀ {x y : List Int}, ltJ x y = true → ltJ y x = false
  | _, [], h => by simp [ltJ] at h
  | [], _ :: _, _ => rfl
  | a :: x, b :: y, h => by
    unfold ltJ at h ⊢
    by_cases e : a = b
    · rw [if_pos e] at h; rw [if_pos e.symm]; exact ltJ_asym h
    · rw [if_neg e] at h; rw [if_neg fun z => e z.symm]
      simp only [decide_eq_true_eq] at h
      simp only [decide_eq_false_iff_not]; omega
def ltAtJ (x y : List Int) (j : Nat) : Bool := match x[j]?, y[j]? with
  | some a, some b => decide (a < b)
  | _, _ => false
def eqIJ (x y : List Int) (j : Nat) : Bool := match x[j]?, y[j]? with
  | some a, some b => decide (a = b)
  | _, _ => false
theorem ltJ_lex : ∀ (x y : List Int), ltJ x y = lexJ (eqIJ x y) (ltAtJ x y) (decide (x.length < y.length)) (List.range (min x.length y.length))
  | x, [] => by simp [ltJ, lexJ]
  | [], b :: y => by simp [ltJ, lexJ]
  | a :: x, b :: y => by
    have ih := ltJ_lex x y
    have e : min (a :: x).length (b :: y).length = min x.length y.length + 1 := by simp only [List.length_cons]; omega
    rw [e, List.range_succ_eq_map]
    simp only [lexJ, ltJ]
    rw [lexJ_map]
    have e1 : eqIJ (a :: x) (b :: y) 0 = decide (a = b) := rfl
    have e2 : ltAtJ (a :: x) (b :: y) 0 = decide (a < b) := rfl
    have e3 : (fun j => eqIJ (a :: x) (b :: y) (j + 1)) = eqIJ x y := by funext j; simp [eqIJ]
    have e4 : (fun j => ltAtJ (a :: x) (b :: y) (j + 1)) = ltAtJ x y := by funext j; simp [ltAtJ]
    have e5 : decide ((a :: x).length < (b :: y).length) = decide (x.length < y.length) := by simp
    rw [e1, e2, e3, e4, e5, ih]
    simp only [decide_eq_true_eq]
def LtAt (A : Around) (s : Shared) (y x : Value) (b : Bool) : Prop :=
  ∀ (prog : Program) (w : World) (E : Value → Shared → Prop) (Q : Value → Shared → Prop), Q (.bool b) s → wpAny (model prog w) A (richCompare .Lt y x) Q E s
open AutoSeq1 (wpAny_loadPart') in
theorem tuple_ltAt (l b : Addr) (items items2 : Array Value) (n n2 : Nat) (dd dd2 : Option Addr) (sl sl2 : Array (Option Value)) (e g : Nat → Bool) :
    PySem.Meets (Builtin.«tuple.__lt__» ⟨[.ref l, .ref b], []⟩)
      (fun A R s => s.heap.get? l = some { cls := .type "tuple", dict := dd, data := .seq items n, slots := sl } ∧ s.heap.get? b = some { cls := .type "tuple", dict := dd2, data := .seq items2 n2, slots := sl2 } ∧
        (∀ j (h1 : j < items.size) (h2 : j < items2.size), EqAt A.in1 s items[j] items2[j] (e j)) ∧
        (∀ j (h1 : j < items.size) (h2 : j < items2.size), e j = false → (∀ k, k < j → e k = true) → LtAt A.in1 s items[j] items2[j] (g j)) ∧
        R (.ok (.ret (.bool (lexJ e g (decide (items.size < items2.size)) (List.range (min items.size items2.size)))))) s) :=
  .of_wp fun prog w A R s h => by
    obtain ⟨hp, gg, d, tk, os⟩ := s; obtain ⟨hl, hb, he, hg, h⟩ := h
    have f2 := AutoSeq1.sub_tuple_tuple
    have hZ : (items.toList.zip items2.toList).length = min items.size items2.size := by simp
    wp_walk using wpAny_loadPart' hl, wpAny_loadPart' hb, wpAny_forIn_list _ (fun rest b s' => b.1 = none ∧ s' = ⟨hp, gg, d, tk, os⟩ ∧ ∃ i, rest = (items.toList.zip items2.toList).drop i ∧ (∀ k, k < i → e k = true) ∧
      R (.ok (.ret (.bool (lexJ e g (decide (items.size < items2.size)) ((List.range (min items.size items2.size)).drop i))))) ⟨hp, gg, d, tk, os⟩) _
    case turn =>
      rintro ⟨y, x⟩ rest b s' ⟨hb', rfl, i, hz, hpre, hR⟩
      have hlt : i < (items.toList.zip items2.toList).length := by
        rcases Nat.lt_or_ge i (items.toList.zip items2.toList).length with h' | h'
        · exact h'
        · rw [List.drop_of_length_le h'] at hz; cases hz
      have hm : i < min items.size items2.size := hZ ▸ hlt
      have h1 : i < items.size := Nat.lt_of_lt_of_le hm (Nat.min_le_left _ _)
      have h2 : i < items2.size := Nat.lt_of_lt_of_le hm (Nat.min_le_right _ _)
      rw [List.drop_eq_getElem_cons hlt] at hz
      injection hz with hyx hrest
      have hy : y = items[i] := by have := congrArg Prod.fst hyx; simpa using this
      have hx : x = items2[i] := by have := congrArg Prod.snd hyx; simpa using this
      subst hy hx
      have hd : (List.range (min items.size items2.size)).drop i = i :: (List.range (min items.size items2.size)).drop (i + 1) := by simp [List.drop_eq_getElem_cons, hm]
      rw [hd] at hR
      refine wpAny_bind (he i h1 h2 prog w _ _ ?_)
      cases hy : e i with
      | true =>
        simp only [lexJ, hy, if_true] at hR
        wp_walk
        refine ⟨rfl, rfl, i + 1, hrest, fun k hk => ?_, hR⟩
        by_cases hki : k = i
        · rw [hki]; exact hy
        · exact hpre k (by omega)
      | false =>
        simp only [lexJ, hy, Bool.false_eq_true, if_false] at hR
        simp only [Bool.not_false, if_true]
        refine wpAny_bind (wpAny_rule ?_)
        refine wpAny_bind (hg i h1 h2 hy hpre prog w _ _ ?_)
        wp_walk
        exact ⟨_, rfl, hR⟩
    case fin =>
      rintro ⟨b1, b2⟩ s' ⟨hb', rfl, i, hz, hpre, hR⟩
      simp only at hb'
      subst hb'
      have hge : min items.size items2.size ≤ i := by
        rcases Nat.lt_or_ge i (items.toList.zip items2.toList).length with h' | h'
        · rw [List.drop_eq_getElem_cons h'] at hz; cases hz
        · exact hZ ▸ h'
      rw [List.drop_of_length_le (by simpa using hge)] at hR
      wp_walk
      exact ⟨_, rfl, by simpa [Builtin.Tuple.tupleCompareSizes, lexJ] using hR⟩
    case h =>
      exact ⟨rfl, rfl, 0, rfl, fun k hk => absurd hk (Nat.not_lt_zero _), by simpa using h⟩
/-- the value is a tuple of these numbers -/
def IsTI (h : Heap) (v : Value) (a : List Int) : Prop := ∃ b o its n, v = .ref b ∧ h.get? b = some o ∧ o.cls = .type "tuple" ∧ o.data = .seq its n ∧ F2 (fun u i => ∃ t, u = Value.int i t) its.toList a
inductive AreTI (h : Heap) : List Value → List (List Int) → Prop where
  | nil : AreTI h [] []
  | cons {v : Value} {a : List Int} {vs : List Value} {hs : List (List Int)} : IsTI h v a → AreTI h vs hs → AreTI h (v :: vs) (a :: hs)
theorem IsTI.keep {h h' : Heap} {v : Value} {a : List Int} (x : IsTI h v a) (k : ∀ b o, h.get? b = some o → o.cls = .type "tuple" → h'.get? b = some o) : IsTI h' v a :=
  let ⟨b, o, n, t, e, ho, hc, hd⟩ := x; ⟨b, o, n, t, e, k b o ho hc, hc, hd⟩
theorem AreTI.length {h : Heap} : ∀ {vs : List Value} {hs : List (List Int)}, AreTI h vs hs → vs.length = hs.length
  | _, _, .nil => rfl
  | _, _, .cons _ t => by simp [t.length]
theorem AreTI.keep {h h' : Heap} (k : ∀ b o, h.get? b = some o → o.cls = .type "tuple" → h'.get? b = some o) : ∀ {vs : List Value} {hs : List (List Int)}, AreTI h vs hs → AreTI h' vs hs
  | _, _, .nil => .nil
  | _, _, .cons x t => .cons (x.keep k) (t.keep k)
theorem AreTI.get {h : Heap} : ∀ {vs : List Value} {hs : List (List Int)} {i : Nat} {a : List Int}, AreTI h vs hs → hs[i]? = some a → IsTI h (vs.getD i Value.none) a
  | _, _, 0, a, .cons x t, e => by simp at e; subst e; simpa using x
  | _, _, i + 1, a, .cons x t, e => by simpa using t.get (i := i) (by simpa using e)
theorem AreTI.mem {h : Heap} : ∀ {vs : List Value} {hs : List (List Int)} {v : Value}, AreTI h vs hs → v ∈ vs → ∃ a, IsTI h v a
  | _, _, v, .cons x t, hv => by
    rcases List.mem_cons.mp hv with rfl | hv
    · exact ⟨_, x⟩
    · exact t.mem hv
section
variable {prog : Program} {w : World} {A : Around} {E : Value → Shared → Prop} {s : Shared}
theorem F2.at {a : List Int} {its : Array Value} (f : F2 (fun u i => ∃ t, u = Value.int i t) its.toList a) {j : Nat} (h : j < its.size) : ∃ (h' : j < a.length) (t : Tok), its[j] = .int a[j] t := by
  have hl := f.length
  have h' : j < a.length := by simp at hl; omega
  obtain ⟨t, e⟩ := f.get (a0 := Value.none) (b0 := 0) h'
  refine ⟨h', t, ?_⟩
  have e1 : its.toList.getD j Value.none = its[j] := by simp [h]
  have e2 : a.getD j 0 = a[j] := by simp [h']
  rw [← e1, e, e2]
theorem lt_ask {x y : Value} {a b : List Int} {Q : Bool → Shared → Prop} (hx : IsTI s.heap x a) (hy : IsTI s.heap y b) (hu : A.units + 2 < cLine) (h : Q (ltJ a b) s) :
    wpAny (model prog w) A (keyLt' oneType' x y) Q E s := by
  obtain ⟨l, o, its, n, rfl, ho, hc, hd, f⟩ := hx
  obtain ⟨l2, o2, its2, n2, rfl, ho2, hc2, hd2, f2⟩ := hy
  obtain ⟨cls, dd, data, sl⟩ := o
  obtain ⟨cls2, dd2, data2, sl2⟩ := o2
  simp only at hc hd hc2 hd2
  subst hc hd hc2 hd2
  rw [keyLt'_oneType, oneLt'_eq]
  simp only [if_true]
  refine wpAny_bind (wpAny_cRoomFor (by omega) ?_)
  refine wpAny_bind (wpAny_callSpecialIfBound?_slot (T := "tuple") ⟨_, ho, rfl⟩ F.slot_tuple_lt ?_)
  have hl1 : its.size = a.length := by rw [← f.length]; simp
  have hl2 : its2.size = b.length := by rw [← f2.length]; simp
  refine call_meets F.slot_tuple_lt ⟨_, ho, rfl⟩ F.entry_tuple_lt (F.args_tuple_lt_2 _ _) (tuple_ltAt l l2 its its2 n n2 dd dd2 sl sl2 (eqIJ a b) (ltAtJ a b)) ⟨ho, ho2, fun j h1 h2 => ?_, fun j h1 h2 _ _ => ?_, ?_⟩
  · obtain ⟨q1, t1, e1⟩ := f.at h1
    obtain ⟨q2, t2, e2⟩ := f2.at h2
    have : eqIJ a b j = decide (a[j] = b[j]) := by unfold eqIJ; rw [List.getElem?_eq_getElem q1, List.getElem?_eq_getElem q2]
    rw [e1, e2, this]
    exact EqAt.int_int _ _ _ _
  · obtain ⟨q1, t1, e1⟩ := f.at h1
    obtain ⟨q2, t2, e2⟩ := f2.at h2
    have : ltAtJ a b j = decide (a[j] < b[j]) := by unfold ltAtJ; rw [List.getElem?_eq_getElem q1, List.getElem?_eq_getElem q2]
    rw [e1, e2, this]
    intro prog w E Q q
    exact P.lt_int q
  · rw [hl1, hl2, ← ltJ_lex]
    exact wpAny_truthy_bool h
theorem looks_ti {M : Model} {h : Heap} {v : Value} {a : List Int} (x : IsTI h v a) : Looks M h (typeOf v) (.type "tuple") := by
  obtain ⟨b, o, its, n, rfl, ho, hc, hd, f⟩ := x
  exact hc ▸ (Looks.ld ho).andThen .now
theorem ti_firsts {M : Model} : ∀ {vs : List Value} {hs : List (List Int)} {Q : List (Option Value) → Shared → Prop}, AreTI s.heap vs hs → (∀ os, os.length = vs.length → (hs.head? = some [] → os.head? = some none) → Q os s) → wpAny M A (vs.mapM firstOfTuple') Q E s
  | _, _, _, .nil, h => by rw [List.mapM_nil]; exact wpAny_pure (h [] rfl fun z => by cases z)
  | _, _, Q, .cons x t, h => by
    rw [List.mapM_cons]
    refine wpAny_bind ?_
    rw [kas_first_eq]
    refine wpAny_bind (Looks.here (looks_ti x) ?_)
    obtain ⟨b, o, its, n, rfl, ho, hc, hd, f⟩ := x
    rw [if_neg (by simp)]
    refine wpAny_bind (listItems_at ho hd (wpAny_pure ?_))
    refine wpAny_bind (ti_firsts (Q := fun bs s' => wpAny M A (pure (its[0]? :: bs)) Q E s') t fun os hl _ => wpAny_pure (h _ (by simp [hl]) fun z => ?_))
    simp only [List.head?_cons, Option.some.injEq] at z ⊢
    subst z
    have := f.length
    simp at this
    simp [this]
theorem ti_kind {M : Model} {vs : List Value} {hs : List (List Int)} {Q : SortKind → Shared → Prop} (t : AreTI s.heap vs ([] :: hs)) (h : Q oneType' s) : wpAny M A (keyKind' vs.toArray) Q E s := by
  have hl := t.length
  rw [kat_kind_eq, List.mapM_toArray, map_eq_pure_bind]
  refine wpAny_bind (wpAny_bind (ti_firsts t fun os ho hh => wpAny_pure ?_))
  obtain ⟨os', rfl⟩ : ∃ os', os = none :: os' := by
    have := hh rfl
    cases os with
    | nil => cases this
    | cons a r => simp at this; subst this; exact ⟨r, rfl⟩
  rw [if_neg (by simp), if_neg (by simp)]
  rw [oneTypeOnly'_eq, List.mapM_toArray, map_eq_pure_bind]
  refine wpAny_bind (wpAny_bind (wpAny_bind (kas_mapM (r := Value.type "tuple") _ (fun v hv Q' hq => ?_) (wpAny_pure ?_))))
  · obtain ⟨a, x⟩ := t.mem hv
    exact (looks_ti x).here hq
  · obtain ⟨v₁, rest, rfl⟩ : ∃ v₁ rest, vs = v₁ :: rest := by
      cases vs with
      | nil => simp at hl
      | cons a r => exact ⟨a, r, rfl⟩
    have hall : ((List.map (fun _ => Value.type "tuple") (v₁ :: rest)).toArray.all fun x => x == Value.type "tuple") = true := by
      simp only [List.all_toArray, List.all_map, List.all_eq_true]
      intro _ _
      rfl
    have h0 : (List.map (fun _ => Value.type "tuple") (v₁ :: rest)).toArray[0]? = some (Value.type "tuple") := by simp
    rw [h0]
    simp only [hall, if_true]
    exact wpAny_pure (wpAny_pure h)
theorem ord_nat (n : Nat) : Ord (fun i j => decide (i < j)) n where
  asym := fun i j h => by simp only [decide_eq_true_eq] at h; simp only [decide_eq_false_iff_not]; omega
  trans := fun i j k _ _ _ h1 h2 => by simp only [decide_eq_true_eq] at h1 h2 ⊢; omega
  total := fun i j _ _ h => by simp only [decide_eq_true_eq]; omega
theorem rise_eq : ∀ {a b : List Nat}, a.Pairwise (· < ·) → b.Pairwise (· < ·) → a.Perm b → a = b
  | [], b, _, _, p => (List.nil_perm.mp p).symm
  | x :: a, [], _, _, p => by have := p.length_eq; simp at this
  | x :: a, y :: b, ha, hb, p => by
    have ha' := List.pairwise_cons.mp ha
    have hb' := List.pairwise_cons.mp hb
    have e : x = y := by
      by_cases z : x = y
      · exact z
      · have h1 : x ∈ y :: b := p.mem_iff.mp (by simp)
        have h2 : y ∈ x :: a := p.mem_iff.mpr (by simp)
        have x1 := ha'.1 y ((List.mem_cons.mp h2).resolve_left fun w => z w.symm)
        have x2 := hb'.1 x ((List.mem_cons.mp h1).resolve_left z)
        omega
    subst e
    rw [rise_eq ha'.2 hb'.2 (List.perm_cons x |>.mp p)]
theorem out_rise {vs : List Value} {p : Array Nat} (hp : Pm p vs.length) (hu : Up (fun i j => decide (i < j)) p vs.length) : outOf vs p = vs := by
  have e : p.toList = List.range vs.length := by
    refine rise_eq ?_ List.pairwise_lt_range hp.perm
    rw [List.pairwise_iff_getElem]
    intro i j hi hj hij
    have hl : p.toList.length = vs.length := by rw [Array.length_toList, hp.size]
    have := hu i j hij (by omega)
    have e1 : at0 p i = p.toList[i] := by simp [at0, Array.getD, hp.size, show i < vs.length by omega]
    have e2 : at0 p j = p.toList[j] := by simp [at0, Array.getD, hp.size, show j < vs.length by omega]
    rw [e1, e2] at this
    simpa using this
  unfold outOf
  rw [e]
  apply List.ext_getElem?
  intro i
  by_cases hi : i < vs.length
  · simp [hi]
  · rw [List.getElem?_eq_none (by simp; omega), List.getElem?_eq_none (by omega)]
/-- they rise -/
def Rise (hs : List (List Int)) : Prop := hs.Pairwise fun x y => ltJ x y = true
instance (hs : List (List Int)) : Decidable (Rise hs) := inferInstanceAs (Decidable (hs.Pairwise _))
theorem rise_ask {hs : List (List Int)} (hr : Rise hs) {i j : Nat} (hi : i < hs.length) (hj : j < hs.length) : ltJ hs[i] hs[j] = decide (i < j) := by
  have pw := List.pairwise_iff_getElem.mp hr
  rcases Nat.lt_trichotomy i j with z | z | z
  · rw [pw i j hi hj z]; simp [z]
  · subst z; rw [ltJ_irr]; simp
  · rw [ltJ_asym (pw j i hj hi z)]; simp; omega
theorem sort_rise {P : PySem.Fin → Shared → Prop} {a : Addr} {vs : List Value} {hs : List (List Int)} {n : Nat} (ho : s.heap.get? a = some (seqObj "list" vs.toArray n)) (hv : AreTI s.heap vs ([] :: hs)) (hr : Rise ([] :: hs)) (h64 : vs.length < 64) (hu : A.units + 2 < cLine)
    (h : ∀ h' c, (∀ b o, b ≠ a → s.heap.get? b = some o → h'.get? b = some o) → h'.get? a = some (seqObj "list" vs.toArray c) → P (.done (.ret .none)) { s with heap := h' }) :
    wpAny (model prog w) A (Builtin.«list.sort» ⟨[.ref a], []⟩) P E s := by
  have hl := hv.length
  by_cases h2 : vs.length < 2
  · exact sort_few ho h2 h
  have keep : ∀ b o, s.heap.get? b = some o → o.cls = .type "tuple" → (sortHp s.heap a vs).get? b = some o := fun b o e hc => sortHp_old (fun z => by
    subst z; rw [ho] at e; cases e; simp [seqObj] at hc) e
  have hv2 := hv.keep keep
  refine list_sort_ord (lt := fun i j => decide (i < j)) (ord_nat _) oneType' ho (by omega) h64 (fun Q q => ?_) (fun i j C hi hj hC => ?_) fun p h' c hp hup k e => h h' c k (by rw [out_rise hp hup] at e; exact e)
  · exact ti_kind (s := { s with heap := sortHp s.heap a vs }) hv2 q
  · have hi' : i < ([] :: hs).length := by omega
    have hj' : j < ([] :: hs).length := by omega
    have e1 := hv2.get (List.getElem?_eq_getElem hi')
    have e2 := hv2.get (List.getElem?_eq_getElem hj')
    show wpAny _ _ (keyLt' _ (vs.getD i Value.none) (vs.getD j Value.none)) C _ _
    refine lt_ask (s := { s with heap := sortHp s.heap a vs }) e1 e2 hu ?_
    rw [rise_ask hr hi' hj']
    exact hC
end
end M
namespace M
open PySem PySem.Spec L2
open PyProof.Rows hiding St
section
variable {X : Cx} {K : PySem.W.Frag}
/-- the thing is a tuple of these numbers -/
def TiV (H : Hp) (x : V) (a : List Int) : Prop := ∃ b, x = .ref b ∧ H b = some (.tup (a.map V.int))
theorem ints_F2 : ∀ {a : List Int} {its : List Value}, Vals (a.map V.int) its → F2 (fun u i => ∃ t, u = Value.int i t) its a
  | [], _, r => by cases r; exact .nil
  | i :: a, _, r => by
    cases r with
    | cons h t =>
      obtain ⟨tk, rfl⟩ := h
      exact .cons ⟨tk, rfl⟩ (ints_F2 t)
theorem ti_is {pins : List (Addr × Obj)} {σ : L2.St} {H : Hp} {s : Shared} (I : Inv X pins σ H s) : ∀ {ys : List V} {its : List Value} {hs : List (List Int)}, Vals ys its → F2 (TiV H) ys hs → AreTI s.heap its hs
  | _, _, _, .nil, .nil => .nil
  | _, _, _, .cons r rs, .cons x xs => by
    have h1 := ti_is I rs xs
    obtain ⟨b, rfl, hb⟩ := x
    cases r
    obtain ⟨_, its, rv, o, ho, hc, n, hd⟩ := (show ObjOk X.prog X.w H s.heap b (.tup _) from I.hok b _ hb)
    exact .cons ⟨b, o, _, n, rfl, ho, hc, hd, by simpa using ints_F2 rv⟩ h1
theorem call_sortedUp (hu : X.A.units + 200 < cLine) : CallR X (.builtin "sorted") (fun xs H Q => ∃ p ys hs, xs = [.ref p] ∧ SqL X.K H p ys ∧ F2 (TiV H) ys ([] :: hs) ∧ Rise ([] :: hs) ∧ ys.length < 64 ∧ ∀ l, H l = none → Q (.ref l) (upd H l (.lst ys))) := by
  intro pins s σ H xs us Q I r h
  obtain ⟨p, ys, hs, rfl, hq, hh, hr, h64, q⟩ := h
  obtain ⟨u, rfl, rx⟩ := vals1 r
  cases rx
  obtain ⟨its, rv, pl, hz⟩ := I.list hq
  have hlen := rv.length
  have ha := ti_is I rv hh
  refine Calls.call_function_entry kind_sorted plain_sorted entry_sorted (args_sorted1 _) ?_
  unfold Builtin.«sorted»
  refine wpAny_bind (m := checkCount "sorted" 1 1 _) (wpAny_pure (wpAny_bind (collect_list pl.isList ?_ (by rw [sizeLine_eq]; omega))))
  have kp : ∀ b o, s.heap.get? b = some o → ((s.heap.push (seqObj "list" #[] 0)).update s.heap.objs.size (Obj.mapSeq (· ++ its.toArray))).get? b = some o := fun b o e =>
    (Heap.get?_update_other _ _ (Nat.ne_of_gt (Heap.lt_size e))).trans (Heap.get?_push_of_some _ e)
  generalize hp2 : (s.heap.push (seqObj "list" #[] 0)).update s.heap.objs.size (Obj.mapSeq (· ++ its.toArray)) = hp at kp
  have hle : s.heap.objs.size ≤ hp.objs.size := by rw [← hp2, Heap.size_update, size_push']; exact Nat.le_succ _
  have hoL : (hp.push (seqObj "list" its.toArray 0)).get? hp.objs.size = some (seqObj "list" its.toArray 0) := Heap.get?_push_size _ rfl
  show wpAny (model X.prog X.w) X.A.in1 (newList its >>= fun l => holding [l] (call (.builtin "list.sort") [l] []) >>= fun _ => ret l) _ _ _
  refine wpAny_bind (wpAny_newList (wpAny_bind (wpAny_holding ?_)) (by rw [sizeLine_eq]; omega))
  refine wpAny_call_entry (s := { s with heap := hp.push (seqObj "list" its.toArray 0) }) slot_list_sort ⟨_, hoL, rfl⟩ entry_list_sort ?_ (args_list_sort _)
  refine sort_rise (s := { s with heap := hp.push (seqObj "list" its.toArray 0) }) hoL (ha.keep fun b o e _ => Heap.get?_push_of_some _ (kp b o e)) hr (by omega) ?_ fun h' c k e => ⟨_, rfl, wpAny_pure ⟨_, rfl, ?_⟩⟩
  · have : X.A.in1.in1.units = X.A.units + 1 + 1 := rfl
    omega
  · refine ⟨.ref _, _, I.laid (t' := s.toks) (h' := h') (a := hp.objs.size) (fun b o e2 => ?_) hle (show ObjOk X.prog X.w _ h' _ (.lst ys) from ⟨by rw [sizeLine_eq]; omega, its, c, rv, e⟩), rfl, q _ (I.hok.fresh hle)⟩
    exact k b o (fun z => Nat.lt_irrefl _ (by have := Heap.lt_size (kp b o e2); rw [z] at this; exact this)) (Heap.get?_push_of_some _ (kp b o e2))
/-- rows of numbers -/
def intsT : List D → Option (List Int)
  | [] => some []
  | .int i :: r => (intsT r).map (i :: ·)
  | _ => none
def rowsD : List D → Option (List (List Int))
  | [] => some []
  | .tup ds :: r => (intsT ds).bind fun a => (rowsD r).map (a :: ·)
  | _ => none
def sortedUp : List D → Res D
  | [.lst ds] => match rowsD ds with
    | some ([] :: hs) => must (Rise ([] :: hs) ∧ ds.length < 64) (.ok (.lst ds))
    | _ => .stuck
  | _ => .stuck
theorem intsT_rep {A : Addr → Prop} {H : Hp} : ∀ {ds : List D} {a : List Int} {xs : List V}, intsT ds = some a → Reps K A H xs ds → xs = a.map V.int
  | [], a, _, e, .nil => by cases e; rfl
  | d :: r, a, _, e, .cons h t => by
    cases d with
    | int i =>
      simp only [intsT, Option.map_eq_some_iff] at e
      obtain ⟨a', e1, rfl⟩ := e
      cases h.intE
      rw [intsT_rep e1 t]; rfl
    | _ => simp [intsT] at e
theorem rowsD_rep {A : Addr → Prop} {H : Hp} : ∀ {ds : List D} {hs : List (List Int)} {xs : List V}, rowsD ds = some hs → Reps K A H xs ds → F2 (TiV H) xs hs
  | [], a, _, e, .nil => by cases e; exact .nil
  | d :: r, hs, _, e, .cons h t => by
    cases d with
    | tup ds =>
      simp only [rowsD, Option.bind_eq_some_iff, Option.map_eq_some_iff] at e
      obtain ⟨a, e1, hs', e2, rfl⟩ := e
      obtain ⟨p, ys, rfl, hp, rs⟩ := h.tupE
      exact .cons ⟨p, rfl, by rw [hp, intsT_rep e1 rs]⟩ (rowsD_rep e2 t)
    | _ => simp [rowsD] at e
theorem intsT_imm : ∀ {ds : List D} {a : List Int}, intsT ds = some a → D.imms ds = true
  | [], _, _ => rfl
  | d :: r, a, e => by
    cases d with
    | int i =>
      simp only [intsT, Option.map_eq_some_iff] at e
      obtain ⟨a', e1, rfl⟩ := e
      simp only [D.imms, D.imm, intsT_imm e1, Bool.and_self]
    | _ => simp [intsT] at e
theorem rowsD_imm : ∀ {ds : List D} {hs : List (List Int)}, rowsD ds = some hs → D.imms ds = true
  | [], _, _ => rfl
  | d :: r, hs, e => by
    cases d with
    | tup ds =>
      simp only [rowsD, Option.bind_eq_some_iff, Option.map_eq_some_iff] at e
      obtain ⟨a, e1, hs', e2, rfl⟩ := e
      simp only [D.imms, D.imm, intsT_imm e1, rowsD_imm e2, Bool.and_self]
    | _ => simp [rowsD] at e
theorem cd_sortedUp : CallD K (fun xs H Q => ∃ p ys hs, xs = [.ref p] ∧ SqL K H p ys ∧ F2 (TiV H) ys ([] :: hs) ∧ Rise ([] :: hs) ∧ ys.length < 64 ∧ ∀ l, H l = none → Q (.ref l) (upd H l (.lst ys))) sortedUp := by
  intro A xs H ds d Q r e q
  unfold sortedUp at e
  split at e
  · rename_i es
    split at e
    · rename_i hs eh
      obtain ⟨⟨hr, h64⟩, e2⟩ := must_inv e
      cases e2
      obtain ⟨v, rfl, r1⟩ := r.one
      obtain ⟨p, ys, rfl, hp, _, ry⟩ := r1.lstE
      refine ⟨p, ys, hs, rfl, .of hp, rowsD_rep eh ry, hr, by rw [ry.length]; exact h64, fun l hl => q _ _ (Same.upd hl) (.lst upd_same (.inl hl) ?_) (new_top (Same.refl H) hl)⟩
      exact (ry.grow (Same.upd hl)).imm (rowsD_imm eh)
    · cases e
  · cases e
end
end M

set_option Elab.async false
set_option linter.all false
set_option maxRecDepth 100000
set_option maxHeartbeats 4000000
namespace M
open PySem PySem.Spec L2
open PyProof.Rows hiding St
/-! ### enumerate over a tuple -/
section
variable {prog : Program} {w : World} {A : Around} {E : Value → Shared → Prop} {s : Shared} {it t : Addr} {i : Nat} {items : Array Value} {Q : Value → Shared → Prop}
theorem next_tup {x : Value} (hit : s.heap.IsTupleIter it t i) (ht : s.heap.IsTuple t items) (hx : items[i]? = some x) (hQ : ∀ h', h'.IsTupleIter it t (i + 1) → Heap.SameBut it s.heap h' → Q x { s with heap := h' }) :
    wpAny (model prog w) A (Builtin.SmallTypes.nextOf (.ref it)) Q E s := by
  obtain ⟨o, ho, hc, hd⟩ := id hit
  obtain ⟨o2, ho2, _, n2, hd2⟩ := ht
  unfold Builtin.SmallTypes.nextOf
  refine wpAny_bind (wpAny_callSpecial?_slot (name := Str.ofString "__next__") hit.typeIs F.slot_tuple_iterator_next (wpAny_call_entry F.slot_tuple_iterator_next hit.typeIs F.entry_tuple_iterator_next
    (show wpAny _ _ (field (.ref it) 0 >>= _) _ _ s from wpAny_bind (wpAny_field ho hd (x := .ref t) rfl (show wpAny _ _ (if (Value.ref t == Value.none) = true then _ else _) _ _ s from ?_))) (F.args_tuple_iterator_next_1 _)))
  rw [if_neg (show ¬ ((Value.ref t == Value.none) = true) from Bool.false_ne_true)]
  refine (show wpAny _ _ (field (.ref it) 1 >>= _) _ _ s from wpAny_bind (wpAny_field ho hd (x := .int i 0) rfl (show wpAny _ _ (seqItems? (.ref t) >>= _) _ _ s from wpAny_bind (wpAny_seqItems ho2 hd2 ?_))))
  simp only [Int.toNat_natCast, hx]
  exact wpAny_bind (wpAny_setField ho hd (by simp) (wpAny_pure ⟨x, rfl, wpAny_pure (hQ _ ⟨_, Heap.get?_update_self _ ho (Obj.isFreed_of_fields (Obj.data_mapFields hd _)), (Obj.cls_mapFields ..).trans hc, by rw [Obj.data_mapFields hd]; simp [rawInt]⟩ (Heap.SameBut.update ..))⟩))
theorem end_tup (hh : A.handled = none) (hit : s.heap.IsTupleIter it t i) (ht : s.heap.IsTuple t items) (hx : items[i]? = none)
    (hE : ∀ h' e, Heap.ExtBut it s.heap h' → (∃ o, h'.get? e = some o ∧ o.cls = .type "StopIteration") → E (.ref e) { s with heap := h' }) :
    wpAny (model prog w) A (Builtin.SmallTypes.nextOf (.ref it)) Q E s := by
  obtain ⟨o, ho, hc, hd⟩ := id hit
  obtain ⟨o2, ho2, _, n2, hd2⟩ := ht
  unfold Builtin.SmallTypes.nextOf
  refine wpAny_bind (wpAny_callSpecial?_slot (name := Str.ofString "__next__") hit.typeIs F.slot_tuple_iterator_next (wpAny_call_entry F.slot_tuple_iterator_next hit.typeIs F.entry_tuple_iterator_next
    (show wpAny _ _ (field (.ref it) 0 >>= _) _ _ s from wpAny_bind (wpAny_field ho hd (x := .ref t) rfl (show wpAny _ _ (if (Value.ref t == Value.none) = true then _ else _) _ _ s from ?_))) (F.args_tuple_iterator_next_1 _)))
  rw [if_neg (show ¬ ((Value.ref t == Value.none) = true) from Bool.false_ne_true)]
  refine (show wpAny _ _ (field (.ref it) 1 >>= _) _ _ s from wpAny_bind (wpAny_field ho hd (x := .int i 0) rfl (show wpAny _ _ (seqItems? (.ref t) >>= _) _ _ s from wpAny_bind (wpAny_seqItems ho2 hd2 ?_))))
  simp only [Int.toNat_natCast, hx]
  refine wpAny_bind (wpAny_rule (wpAny_bind (wpAny_setField ho hd (by simp) (show wpAny _ _ (newExc (.type "StopIteration") [] >>= _) _ _ _ from wpAny_bind ?_))))
  simp only [newExc, newTuple]
  refine wpAny_bind (wpAny_newObj_type (wpAny_bind (m := firstArgMember _ _) (wpAny_of_eq (a := Value.none) (by first | rfl | (simp only [firstArgMember]; rfl)) (wpAny_newObj_type ?_ (by size_fits)))) (by size_fits))
  simp only [raiseNew]
  refine wpAny_bind (wpAny_handled ?_)
  rw [show A.in1.handled = none from hh]
  exact wpAny_bind (wpAny_pure (wpAny_throw (hE _ _ (((Heap.SameBut.update ..).extBut.push _).push _) ⟨_, Heap.get?_push_size _ rfl, rfl⟩)))
theorem draws_tup (hh : A.handled = none) (it l : Addr) (hne : l ≠ it) (items : Array Value) : Draws prog w A it [it, l] items.size (fun i v => items[i]? = some v) (fun i h => h.IsTupleIter it l i ∧ h.IsTuple l items) where
  live := fun _ _ st => let ⟨o, ho, _⟩ := st.1; ⟨o, ho⟩
  frame := fun _ _ _ st hk => ⟨st.1.at fun o e => hk it (by simp) o e, let ⟨o, ho, r⟩ := st.2; ⟨o, hk l (by simp) o ho, r⟩⟩
  item := fun i s Q E hi st hQ => next_tup st.1 st.2 (x := items[i]) (by simp [hi]) fun h' hit' hs' => hQ _ h' s.toks (by simp [hi]) ⟨hit', st.2.extBut hs'.extBut hne⟩ hs'
  done := fun s Q E st hE => end_tup hh st.1 st.2 (by simp) hE
/-- behind its end -/
theorem draws_no (hh : A.handled = none) (it l : Addr) (items : Array Value) (i : Nat) (hi : items.size ≤ i) : Draws prog w A it [it, l] i (fun _ _ => True) (fun j h => j = i ∧ h.IsTupleIter it l j ∧ h.IsTuple l items) where
  live := fun _ _ st => let ⟨o, ho, _⟩ := st.2.1; ⟨o, ho⟩
  frame := fun _ _ _ st hk => ⟨st.1, st.2.1.at fun o e => hk it (by simp) o e, let ⟨o, ho, r⟩ := st.2.2; ⟨o, hk l (by simp) o ho, r⟩⟩
  item := fun j s Q E hj st hQ => absurd st.1 (Nat.ne_of_lt hj)
  done := fun s Q E st hE => end_tup hh st.2.1 st.2.2 (by simp; omega) hE
end
open AutoSeq1 (wpAny_loadPart') in
theorem enum_newT (l : Addr) (items : Array Value) (n : Nat) (dct : Option Addr) (sl : Array (Option Value)) :
    PySem.Meets (Builtin.«enumerate.__new__» ⟨[.type "enumerate", .ref l], []⟩) (fun _ R s => s.heap.get? l = some { cls := .type "tuple", dict := dct, data := .seq items n, slots := sl } ∧
      R (.ok (.ret (.ref (s.heap.push { cls := .type "tuple_iterator", data := .fields #[.ref l, .int 0 0] }).objs.size)))
        { s with heap := (s.heap.push { cls := .type "tuple_iterator", data := .fields #[.ref l, .int 0 0] }).push { cls := .type "enumerate", data := .fields #[.none, .bool false, .ref s.heap.objs.size, rawInt 0, .none, .none] } }) :=
  .of_wp fun prog w A R s h => by
    obtain ⟨hp, g, d, tk, os⟩ := s; obtain ⟨hl, h⟩ := h
    have hsub := sub_enumerate
    have hT : Heap.IsTuple (Shared.heap ⟨hp, g, d, tk, os⟩) l items := ⟨_, hl, rfl, n, rfl⟩
    wp_walk using wpAny_loadPart' hl
    refine wpAny_stack_any fun st => wpAny_pure ?_
    split
    · rename_i c _ _ _ _ _
      cases (c == Value.type "enumerate") <;> (wp_walk using wpAny_loadPart' hl, wpAny_pyIter_tuple hT; exact ⟨_, rfl, h⟩)
    · wp_walk using wpAny_loadPart' hl, wpAny_pyIter_tuple hT
      exact ⟨_, rfl, h⟩
section
variable {prog : Program} {w : World} {A : Around} {E : Value → Shared → Prop} {s : Shared}
theorem call_enumT {l : Addr} {items : Array Value} {Q : Value → Shared → Prop} (hL : s.heap.IsTuple l items)
    (h : ∀ h', IsEnum h' (s.heap.objs.size + 1) s.heap.objs.size 0 .none → h'.IsTupleIter s.heap.objs.size l 0 → (∀ b o, s.heap.get? b = some o → h'.get? b = some o) → Q (.ref (s.heap.objs.size + 1)) { s with heap := h' }) :
    wpAny (model prog w) A (call (.type "enumerate") [.ref l]) Q E s := by
  obtain ⟨⟨c, dct, dt, sl⟩, hl, hc, n, hd⟩ := hL
  cases (show c = .type "tuple" from hc)
  cases (show dt = .seq items n from hd)
  refine callType_new F.called_enumerate (by decide) (F.typeCall_enumerate_1 _) (F.newCall_enumerate_1 _) (fun obj => F.args_object_init_2 obj _) F.entry_enumerate_new (enum_newT l items n dct sl) ⟨hl, ?_⟩
  generalize hI : s.heap.push { cls := .type "tuple_iterator", data := .fields #[.ref l, .int 0 0] } = hi
  have hz : hi.objs.size = s.heap.objs.size + 1 := by rw [← hI]; exact Heap.size_push ..
  have hit : hi.get? s.heap.objs.size = some { cls := .type "tuple_iterator", data := .fields #[.ref l, .int 0 0] } := by rw [← hI]; exact Heap.get?_push_size _ rfl
  have hk : ∀ b o, s.heap.get? b = some o → hi.get? b = some o := fun b o x => by rw [← hI]; exact Heap.get?_push_of_some _ x
  have he := Heap.get?_push_size hi (o := { cls := .type "enumerate", data := .fields #[.none, .bool false, .ref s.heap.objs.size, rawInt 0, .none, .none] }) rfl
  rw [hz] at he
  show _ ∧ _
  rw [hz]
  exact ⟨⟨_, he, rfl⟩, h _ he ⟨_, Heap.get?_push_of_some _ hit, rfl, rfl⟩ fun b o x => Heap.get?_push_of_some _ (hk b o x)⟩
end
/-- a tuple's things with their places -/
def ItET (K : PySem.W.Frag) (a : Addr) (xs : List V) : It := ⟨fun i H => SqT K H a xs ∧ i < xs.length, fun i H v H' => ∃ p x, H p = none ∧ xs[i]? = some x ∧ v = .ref p ∧ H' = upd H p (.tup [.int (i : Int), x]), fun i H => SqT K H a xs ∧ xs.length ≤ i⟩
theorem turn_enumT {P : Program} {w : World} {K : PySem.W.Frag} {elts : List Expr} {n : Nat} {pos : Pos} (a it e : Addr) (xs : List V) (hei : e ≠ it) (hai : a ≠ it) (hae : a ≠ e) : Turn P w K (.Tuple elts n pos) (ItET K a xs) [e, it] e (fun i h => (∃ old, IsEnum h e it (i : Int) old) ∧ h.IsTupleIter it a i) where
  mem := by simp
  obj := fun i h st b hb => by
    obtain ⟨⟨old, he⟩, o, ho, hc, hd⟩ := st
    simp only [List.mem_cons, List.not_mem_nil, or_false] at hb
    rcases hb with rfl | rfl
    · exact ⟨_, he, fun v z => by cases z⟩
    · exact ⟨o, ho, fun v z => by rw [hd] at z; cases z⟩
  keep := fun i h h' st k => by
    obtain ⟨⟨old, he⟩, hit⟩ := st
    exact ⟨⟨old, k e (by simp) _ he⟩, hit.at fun o x => k it (by simp) o x⟩
  item := by
    intro X hP hw hK hc i pins s σ H E I hf st hg
    subst hP hw hK
    obtain ⟨hq, hi⟩ := hg
    obtain ⟨its, rv, p, hz⟩ := I.tuple hq
    have hx : xs[i]? = some xs[i] := List.getElem?_eq_getElem hi
    obtain ⟨u, hu, ru⟩ := rv.get hx
    obtain ⟨⟨old, he⟩, hit⟩ := st
    have fe := hf e (by simp)
    have fi := hf it (by simp)
    have hl := rv.length
    refine wpAny_pyNext_enum_itemD (draws_tup (A := X.A.in1) (I.ok.hd hc) it a hai its.toArray) he ⟨hit, show s.heap.IsTuple a its.toArray from p⟩ (by simp; omega) hei (by simp [hei, Ne.symm hae]) fun x h' tk px ho st' hT hsz hk => ?_
    have hxu : x = u := by
      have : its.toArray[i]? = some u := by simpa using hu
      rw [this] at px; exact (Option.some.inj px).symm
    subst hxu
    refine ⟨_, rfl, wpAny_letOwnedTupleGo_enum ho fun h'' he' hs' => ?_⟩
    have helt : e < s.heap.objs.size := Heap.lt_size he
    have hilt : it < s.heap.objs.size := by obtain ⟨_, x, _⟩ := hit; exact Heap.lt_size x
    have hfr : H s.heap.objs.size = none := I.hok.fresh (Nat.le_refl _)
    have I1 : Inv X pins σ (upd H s.heap.objs.size (.tup [.int (i : Int), xs[i]])) { s with heap := s.heap.push { cls := .type "tuple", data := .seq #[.int i tk, x] } } :=
      I.laid (t' := s.toks) (fun b o e => Heap.get?_push_of_some _ e) (Nat.le_refl _) ⟨Nat.le_trans (show 2 ≤ 20 by decide) (by decide), [.int i tk, x], .cons ⟨_, rfl⟩ (.cons ru .nil), ⟨_, Heap.get?_push_size _ rfl, rfl, _, rfl⟩⟩
    have fe1 : FpOk X pins (upd H s.heap.objs.size (.tup [.int (i : Int), xs[i]])) e := ⟨by rw [upd_ne (Nat.ne_of_lt helt)]; exact fe.1, fe.2⟩
    have fi1 : FpOk X pins (upd H s.heap.objs.size (.tup [.int (i : Int), xs[i]])) it := ⟨by rw [upd_ne (Nat.ne_of_lt hilt)]; exact fi.1, fi.2⟩
    have I2 := inv_turned2 (t' := tk + 1) (h' := h'') I1 (fun b o hbe hbi eo => by
      refine (hs'.2 b hbe).trans ?_
      by_cases hb : b = s.heap.objs.size
      · subst hb
        rw [Heap.get?_push_size _ rfl] at eo
        rw [← eo]; exact hT
      · have eo' : s.heap.get? b = some o := by
          rcases Heap.get?_push_cases eo with ⟨z, _⟩ | z
          · exact absurd z hb
          · exact z
        exact hk b o hbe hbi eo') fe1 fi1
    refine ⟨.ref s.heap.objs.size, _, I2, rfl, ⟨_, _, hfr, hx, rfl, rfl⟩, ⟨⟨_, by simpa using he'⟩, st'.1.at fun o y => (hs'.2 it hei.symm).trans y⟩, fun b hb => ?_⟩
    simp only [List.mem_cons, List.not_mem_nil, or_false] at hb
    rcases hb with rfl | rfl
    · exact fe1.1
    · exact fi1.1
  done := by
    intro X hP hw hK hc i pins s σ H E I hf st hg
    subst hP hw hK
    obtain ⟨hq, hi⟩ := hg
    obtain ⟨its, rv, p, hz⟩ := I.tuple hq
    obtain ⟨⟨old, he⟩, hit⟩ := st
    have hl := rv.length
    refine wpAny_pyNext_enum_endD (draws_no (A := X.A.in1) (I.ok.hd hc) it a its.toArray i (by simp; omega)) he ⟨rfl, hit, show s.heap.IsTuple a its.toArray from p⟩ fun h' eb => ⟨rfl, inv_turned2 (t' := s.toks) I (fun b o hbe hbi eo => eb b o hbi eo) (hf e (by simp)) (hf it (by simp))⟩
  self := fun _ _ _ _ _ st h => let ⟨⟨_, he⟩, _⟩ := st; wpAny_pyIter_enum he h
section
variable {X : Cx} {elts : List Expr} {n : Nat} {tpos p pos : Pos} {e : Expr} {f : Sl → Res D}
def enumT (f : Sl → Res D) : Sl → Res (List D) := fun env => f env >>= fun d => match d with
  | .tup ds => .ok (pairsFrom 0 ds)
  | _ => .stuck
theorem di_enumT (hg : Gl X "enumerate") (hm : X.mg "enumerate" = none) (h : DE X .s e f) (hs : starEach [e] X.env = [(false, eval e X.env)] := by rfl) : DI X (.Tuple elts n tpos) (.Call (.Name "enumerate" p) [e] [] pos) (enumT f) := by
  have hE : PE X e (tE X.K .s f) := by with_unfolding_all exact h
  with_unfolding_all exact (show PI X (.Tuple elts n tpos) (.Call (.Name "enumerate" p) [e] [] pos) (tI X.K (enumT f)) from by
    intro pins s σ H R I ⟨G, H0, env, ds, k, ef, q⟩
    obtain ⟨d, e1, e2⟩ := bind_inv ef
    have hA : PA X [e] (tA X.K .s fun env => f env >>= fun d => .ok [d]) := by
      have := pa_cons hE pa_nil (es := []) hs
      intro ps pins s σ H Q I ⟨G, H0, env, ds, k, ef, q⟩
      obtain ⟨d, c1, c2⟩ := bind_inv ef
      cases c2
      exact this ps pins s σ H Q I ⟨G, H0, env, d, k, c1, fun v H1 s1 r1 _ => q [v] H1 s1 (.cons r1 .nil)⟩
    refine Call_ (ld_blt I hg hm boot_enumerate (PyProof.Rows.callWith_type1 (thn (hA pos pins s σ H (fun vs H1 => ∃ v, vs = [v] ∧ Same H H1 ∧ Rep X.K (Sf G env σ) H1 v d) I ⟨G, H0, env, [d], k, by show (f env >>= _) = _; rw [e1]; rfl, fun vs H1 s1 r1 => by obtain ⟨v, rfl, r⟩ := r1.one; exact ⟨v, rfl, s1, r⟩⟩) fun us s1 ⟨vs, H1, I1, r1, v, ev, sm, rep⟩ => ?_) hs rfl))
    subst ev
    obtain ⟨u, rfl, ru⟩ := vals1 r1
    have k1 := k.grow sm
    cases d with
    | tup es =>
      cases e2
      obtain ⟨a, xs, rfl, ha, rs⟩ := rep.tupE
      cases ru
      have hq : SqT X.K H1 a xs := .inl (.of ha)
      obtain ⟨its, rv, pl, hz⟩ := I1.tuple hq
      have hlt : a < s1.heap.objs.size := by obtain ⟨o, ho, _⟩ := pl; exact Heap.lt_size ho
      refine call_enumT (show s1.heap.IsTuple a its.toArray from pl) fun h' he hit hk => wpAny_pyIter_enum he ?_
      have I2 : Inv X pins σ H1 { s1 with heap := h' } := I1.kept (t' := s1.toks) hk
      refine ⟨s1.heap.objs.size + 1, [s1.heap.objs.size + 1, s1.heap.objs.size], _, _, H1, rfl, I2, turn_enumT a s1.heap.objs.size (s1.heap.objs.size + 1) xs (Nat.succ_ne_self _) (Nat.ne_of_lt hlt) (Nat.ne_of_lt (Nat.lt_succ_of_lt hlt)), ⟨⟨_, he⟩, hit⟩, fun b hb => ?_, ?_⟩
      · simp only [List.mem_cons, List.not_mem_nil, or_false] at hb
        rcases hb with rfl | rfl
        · exact I1.fpOk (Nat.le_succ _) (I1.hok.fresh (Nat.le_succ _))
        · exact I1.fpOk (Nat.le_refl _) (I1.hok.fresh (Nat.le_refl _))
      · refine q _ H1 (fun H => H a = some (.tup xs)) sm (fun i H' pp => ?_) ha fun env' σ' H' fr => fr.keep a _ ha fun ow => (k1.mutO ow ha).elim
        have hl := rs.length
        rw [pairs_len]
        refine ⟨fun hi => ⟨.inl (.of pp), by omega⟩, fun d hd x H2 y => ?_, fun hi => ⟨.inl (.of pp), by omega⟩⟩
        obtain ⟨p, x', hp, hx', rfl, rfl⟩ := y
        obtain ⟨d', hd', rd⟩ := rs.get' hx'
        rw [pairs_get, hd'] at hd
        cases hd
        exact .inr ⟨p, _, _, hp, rfl, rfl, rfl, .cons (by rw [Nat.zero_add]; exact .int _) (.cons rd .nil)⟩
    | _ => cases e2)
end
end M

set_option Elab.async false
set_option linter.all false
set_option maxRecDepth 100000
set_option maxHeartbeats 4000000
namespace M
open PySem PySem.Spec L2
open PyProof.Rows hiding St
section
variable {X : Cx} {K : PySem.W.Frag}
/-! ### is not None, is True -/
def notN : D → D → Res D
  | a, .non => .ok (.bl (!a.isNon))
  | _, _ => .stuck
theorem od_notN : OpS K (fun x y H Q => y = .non ∧ Q (.bl (!decide (x = .non))) H) notN := by
  intro x y H a b d Q ra rb e q
  unfold notN at e
  split at e
  · cases e
    refine ⟨rb.nonE, ?_⟩
    have : decide (x = V.non) = a.isNon := by cases ra <;> simp [D.isNon]
    rw [this]
    exact q _ (sc_bl _)
  · cases e
theorem op_isB : OpR X (compareOp .Is) (fun x y H Q => ∃ a b, x = .bl a ∧ y = .bl b ∧ Q (.bl (a == b)) H) := by
  intro pins s σ H x y v u Q I rx ry ⟨a, b, ex, ey, q⟩
  subst ex ey
  cases rx
  cases ry
  exact wpAny_is_plain (by cases a <;> cases b <;> rfl) ⟨.bl _, H, I, by cases a <;> cases b <;> rfl, q⟩
def isB : D → D → Res D
  | .bl a, .bl b => .ok (.bl (a == b))
  | _, _ => .stuck
theorem od_isB : OpS K (fun x y H Q => ∃ a b, x = .bl a ∧ y = .bl b ∧ Q (.bl (a == b)) H) isB := by
  intro x y H a b d Q ra rb e q
  unfold isB at e
  split at e
  · cases e
    cases ra.blE
    cases rb.blE
    exact ⟨_, _, rfl, rfl, q _ (sc_bl _)⟩
  · cases e
/-! ### == of anything, of dicts too -/
def eqA : D → D → Res D
  | .dic a b, .dic c d => eqDic (.dic a b) (.dic c d)
  | a, b => eqR a b
def rEqA (K : PySem.W.Frag) : R2 := fun x y H Q => rDic K false x y H Q ∨ rEqD K false x y H Q
theorem op_eqA (hu : X.A.units + 200 < cLine) : OpR X (compareOp .Eq) (rEqA X.K) := by
  intro pins s σ H x y v u Q I rx ry h
  rcases h with h | h
  · exact op_dicEq hu pins s σ H x y v u Q I rx ry h
  · exact op_eqD hu pins s σ H x y v u Q I rx ry h
theorem od_eqA : OpS K (rEqA K) eqA := fun x y H a b d Q ra rb e q => by
  unfold eqA at e
  split at e
  · exact .inl (od_dicEq x y H _ _ d Q ra rb e q)
  · exact .inr (od_eq x y H _ _ d Q ra rb e q)
end
/-! ### a call of what may raise, its one argument such a call -/
section
variable {X : Cx} {k : Nat} {x : Str} {q0 : Str} {F : List D → Res D} {e : Expr} {p pos : Pos} {f : Sl → Res D}
def callY (F : List D → Res D) (f : Sl → Res D) : Sl → Res D := fun env => f env >>= fun d => F [d]
theorem AvX.callY_ {fr : Bool} {l : Lv} (hl : (fr = true ∧ l = .t) ∨ (fr = false ∧ l = .s)) (A : AvX X.prog X.w X.K X.mg X.base k x [q0] fr F) (hr : Room k X.A) (ha : DEX X .s e f) (hg : Gl X x) (hdb : (x == ("__debug__" : Str)) = false)
    (he : starEach [e] X.env = (false, eval e X.env) :: starEach [] X.env) : DEX X l (.Call (.Name x p) [e] [] pos) (callY F f) := by
  obtain ⟨fa, fd, h1, h2, h3, h4⟩ := A.ex
  with_unfolding_all exact (by
  intro pins s σ H Q I ⟨G, H0, env, kk, q⟩
  refine wpAny_Call_Name_kw (ld_glob I hg h2 ?_ hdb)
  have hA : PA X [e] (tCons (tEX X .s f) tNil) := pa_cons (show PE X e (tEX X .s f) from ha) pa_nil he
  have cases3 : (∃ d, f env = .ok d) ∨ (∃ c, f env = .exc c ∧ ThrB X c σ H) := by
    rcases q with ⟨d, ef, _⟩ | ⟨c, ef, th⟩
    · obtain ⟨a, e1, _⟩ := bind_inv ef
      exact .inl ⟨a, e1⟩
    · rcases bind_exc ef with e1 | ⟨a, e1, _⟩
      · exact .inr ⟨c, e1, th⟩
      · exact .inl ⟨a, e1⟩
  rcases cases3 with ⟨d, e1⟩ | ⟨c, e1, th⟩
  · have e2 : callY F f env = F [d] := by unfold callY; rw [e1]; rfl
    rw [e2] at q
    refine PySem.W.callWith_K (h₀ := X.base) I.ok.mod.kin h3 (thn (hA pos pins s σ H (fun vs H1 => Same H H1 ∧ Reps X.K (Sf G env σ) H1 vs [d]) I ⟨G, H0, env, kk, .inl ⟨d, e1, fun v H' s' r' _ => ⟨s', .cons r' .nil⟩⟩⟩) fun us s1 ⟨vs, H1, I1, r, sm, rs⟩ => ⟨I1.kIn, ?_⟩) he rfl
    rcases q with ⟨d', ef, q⟩ | ⟨c, ef, th⟩
    · refine run_fnX (E := fun _ _ _ => False) h1 hr h4 I1 r ⟨_, [d], by rw [rs.length]; rfl, rs, .inl ⟨d', ef, fun v H2 s2 r2 nt => ?_⟩⟩ fun e s' cx => ?_
      · have r3 : Rep X.K (Sf G env σ) H2 v d' := r2.weak fun c z => z.elim (fun z => kk.new c (Same.free sm z)) fun z => z
        rcases hl with ⟨rfl, rfl⟩ | ⟨rfl, rfl⟩
        · exact q v H2 (sm.trans s2) r3 ((nt rfl).grow sm)
        · exact q v H2 (sm.trans s2) r3 trivial
      · obtain ⟨_, _, _, _, _, _, _, _, _, _, _, _, _, z⟩ := cx
        exact z.elim
    · exact run_fnX (E := XE X.K c H1) h1 hr h4 I1 r ⟨_, [d], by rw [rs.length]; rfl, rs, .inr ⟨c, ef, fun C H' hC s' => ⟨C, rfl, hC, s'⟩⟩⟩ fun e s' cx => th pins H1 s1 e s' sm I1 cx
  · exact PySem.W.callWith_K (h₀ := X.base) I.ok.mod.kin h3 (thn (hA pos pins s σ H (fun _ _ => False) I ⟨G, H0, env, kk, .inr ⟨c, e1, th⟩⟩) fun us s1 ⟨vs, H1, I1, r, z⟩ => z.elim) he rfl)
theorem AvX.callYS (A : AvX X.prog X.w X.K X.mg X.base k x [q0] false F) (hr : Room k X.A) (ha : DEX X .s e f) (hg : Gl X x := by rfl) (hdb : (x == ("__debug__" : Str)) = false := by decide)
    (he : starEach [e] X.env = (false, eval e X.env) :: starEach [] X.env := by exact star_plain rfl) : DEX X .s (.Call (.Name x p) [e] [] pos) (callY F f) := AvX.callY_ (.inr ⟨rfl, rfl⟩) A hr ha hg hdb he
end
theorem lookup_hd {α : Type} {c : Str} {v : α} {l : List (Str × α)} : List.lookup c ((c, v) :: l) = some v := by simp [List.lookup]
theorem lookup_tl {α : Type} {c d : Str} {v : α} {l : List (Str × α)} (h : c ≠ d) : List.lookup c ((d, v) :: l) = List.lookup c l := by
  have : (c == d) = false := by simpa using h
  simp [List.lookup, this]
/-! ### + of tuples, the left one empty too -/
def rCat0 (K : PySem.W.Frag) : R2 := fun x y H Q => ∃ a b ys, x = .ref a ∧ y = .ref b ∧ SqT K H a [] ∧ SqT K H b ys ∧ Q (.ref b) H
theorem op_cat0 {X : Cx} : OpR X (binaryOp .Add) (rCat0 X.K) := by
  intro pins s σ H x y v u Q I rx ry h
  obtain ⟨a, b, ys, rfl, rfl, ha, hb, q⟩ := h
  cases rx
  cases ry
  obtain ⟨its, r1, p1, _⟩ := I.tuple ha
  obtain ⟨its2, r2, p2, _⟩ := I.tuple hb
  cases r1
  obtain ⟨⟨c, dd, data, sl⟩, ho, hc, n, hd⟩ := p1
  obtain ⟨⟨c2, dd2, data2, sl2⟩, ho2, hc2, n2, hd2⟩ := p2
  simp only at hc hd hc2 hd2
  subst hc hd hc2 hd2
  exact concat_meets ⟨_, ho, rfl⟩ ⟨_, ho2, rfl⟩ noFill_tuple_add seq_tuple_add PySem.F.slot_tuple_add PySem.F.entry_tuple_add (PySem.F.args_tuple_add_2 _ _) (tuple_addW0 a b #[] its2.toArray n n2 dd dd2 sl sl2 rfl) ⟨ho, ho2, ⟨.ref b, H, I, rfl, q⟩⟩
def addE : D → D → Res D
  | .tup [], .tup b => .ok (.tup b)
  | a, b => addD a b
theorem op_addE {X : Cx} : OpR X (binaryOp .Add) (fun x y H Q => rCat0 X.K x y H Q ∨ (rI0 (fun i j => .int (i + j)) x y H Q ∨ (∃ i j, x = .str i ∧ y = .str j ∧ i.length + j.length ≤ sizeLine ∧ Q (.str (i ++ j)) H) ∨ rCat x y H Q ∨ rCatT X.K x y H Q)) := op_cat0.or op_addD
theorem od_addE {K : PySem.W.Frag} : OpD K (fun x y H Q => rCat0 K x y H Q ∨ (rI0 (fun i j => .int (i + j)) x y H Q ∨ (∃ i j, x = .str i ∧ y = .str j ∧ i.length + j.length ≤ sizeLine ∧ Q (.str (i ++ j)) H) ∨ rCat x y H Q ∨ rCatT K x y H Q)) addE := by
  intro A x y H a b d Q ra rb e q
  unfold addE at e
  split at e
  · cases e
    obtain ⟨l, xs, rfl, hl, rx⟩ := ra.tupE
    obtain ⟨l', ys, rfl, hl', ry⟩ := rb.tupE
    cases rx
    refine .inl ⟨l, l', ys, rfl, rfl, .inl (.of hl), .inl (.of hl'), q _ H (Same.refl H) (.tup hl' (ry.weak orA)) fun a e o q' m => ?_⟩
    cases e; rw [hl'] at q'; cases q'; exact m
  · exact .inr (od_add A x y H _ _ d Q ra rb e q)
end M

set_option Elab.async false
set_option linter.all false
set_option maxRecDepth 100000
set_option maxHeartbeats 4000000
namespace G
open PySem PySem.Spec L2 M
open PyProof.Rows hiding St
/-! ### the text -/
def top (i : Nat) : Stmt := PySem.Challenge.pw_endwise_k02_parts_and_paths.main.body.getD i (.Pass ⟨0, 0, 0, 0⟩)
abbrev s__law_great : Stmt := top 32
abbrev s__law_names : Stmt := top 33
abbrev s_places : Stmt := top 21
abbrev s_is_whole : Stmt := top 18
abbrev s_place_there : Stmt := top 27
abbrev s_part_there : Stmt := top 26
abbrev s_level_below : Stmt := top 20
abbrev s_is_great : Stmt := top 19
abbrev s_bounded : Stmt := top 25
abbrev s_put_there : Stmt := top 28
abbrev s_put : Stmt := top 24
abbrev s__law_too_great : Stmt := top 41
abbrev s__law_cell_at : Stmt := top 30
abbrev s__law_with : Stmt := top 36
abbrev s__law_term : Stmt := top 34
abbrev s__law_parts : Stmt := top 35
abbrev s_paths : Stmt := top 22
abbrev s__law_nowhere : Stmt := top 37
abbrev s_part : Stmt := top 23
abbrev s__law_other : Stmt := top 39
abbrev s__law_refused : Stmt := top 40
abbrev s__law_whole : Stmt := top 31
abbrev s__law_path : Stmt := top 38
abbrev s__law_asked : Stmt := top 42
abbrev s_law : Stmt := top 43
/-! ### the defs as functions of data -/
def g__law_great : Sl → Res Out :=
  (retO (two (two (two (two (two (rdS 0) (cI 11) addD) (two (cI 7) (cI 61) powI) mulI) (two (cI 11) (cI 63) powI) mulI) (two (cI 13) (cI 9) powI) mulI) (two (two (cI 10) (cI 60) powI) (two (cI 10) (cI 60) powI) mulI) modI))
def F__law_great : List D → Res D := runF true 1 (g__law_great)
def g__law_names : Sl → Res Out :=
  (seqO (setOs 1 (cS "abcdefghijklmnopqrstuvwxyz"))
  (seqO (setOs 2 (two (cI 1) (two (rdS 0) (cI 8) modI) addD))
  (seqO (setOs 3 (cS ""))
  (seqO (forO (rngF (cons1 (rdS 2) nil1)) (gN 4) (seqO (setOs 0 (two (rdS 0) (cI 26) divI))
    (setOs 3 (two (rdS 3) (two (rdS 1) (two (rdS 0) (cI 26) modI) ixD) addD))))
  (seqO (setOs 5 (two (two (rdS 0) (cI 26) divI) (rdS 2) modI))
  (seqO (setO 6 (lstF nil1))
  (seqO (forO (rngF (cons1 (cI 4) nil1)) (gN 4) (seqO (setOs 7 (two (rdS 1) (two (two (smF (rdS 1) (cons1 (two (rdS 3) (rdS 5) ixD) nil1) findD) (two (cI 7) (rdS 4) mulI) addD) (cI 26) modI) ixD))
    (appendO 6 (two (two (slice3 (rdS 3) noneI (someI (rdS 5)) slD) (rdS 7) addD) (slice3 (rdS 3) (someI (two (rdS 5) (cI 1) addD)) noneI slD) addD))))
  (seqO (ifO (asB (two (rdS 2) (cI 8) ltI)) (appendO 6 (two (rdS 3) (cS "a") addD)) (appendO 6 (slice3 (rdS 3) noneI (someI (cI 7)) slD)))
  (retO (rdO 6))))))))))
def F__law_names : List D → Res D := runF true 8 (g__law_names)
def g_places : Sl → Res Out :=
  (retO (ifD (asB (isiF "tuple" (rdS 0))) (slice3 (rdS 0) (someI (cI 1)) noneI slD) (tupF nil1)))
def F_places : List D → Res D := runF true 1 (g_places)
def g_is_whole : Sl → Res Out :=
  (retO (toB (isiF "int" (rdS 0)) (notF (isiF "bool" (rdS 0))) true))
def F_is_whole : List D → Res D := runF true 1 (g_is_whole)
def g_place_there (f_places : List D → Res D) (f_is_whole : List D → Res D) : Sl → Res Out :=
  (seqO (calmO (setOs 2 (callF 1 f_places (cons1 (rdS 0) nil1))))
  (seqO (ifX (orB (notB (asB (callF 1 f_is_whole (cons1 (rdS 1) nil1)))) (notB (asB (chain (cI 0) (rdS 1) (app (cons1 (rdS 2) nil1) lenD) leI ltI)))) (raiseO "NoPath") (calmO nxO))
  (calmO (retS (two (rdS 2) (rdS 1) ixD)))))
def F_place_there : List D → Res D := runX false 3 (g_place_there F_places F_is_whole)
def g_part_there (f_place_there : List D → Res D) : Sl → Res Out :=
  (seqO (ifX (notB (asB (isiF "tuple" (rdS 1)))) (raiseO "NoPath") (calmO nxO))
  (seqO (calmO (setOs 2 (rdS 0)))
  (seqO (forX (itF (rdS 1)) (gN 3) (setOs 2 (callX 2 f_place_there (cons1 (rdS 2) (cons1 (rdS 3) nil1)))))
  (calmO (retS (rdS 2))))))
def F_part_there : List D → Res D := runX false 4 (g_part_there F_place_there)
def g_level_below (f_places : List D → Res D) : Sl → Res Out :=
  (seqO (setO 1 (lstF nil1))
  (seqO (forO (itF (rdS 0)) (gN 2) (extendO 1 (callF 1 f_places (cons1 (rdS 2) nil1))))
  (retO (rdO 1))))
def F_level_below : List D → Res D := runF true 3 (g_level_below F_places)
def g_is_great (f_level_below : List D → Res D) : Sl → Res Out :=
  (seqO (setOs 1 (lstF (cons1 (rdS 0) nil1)))
  (seqO (setOs 2 (cI 0))
  (seqO (setOs 3 (cI 0))
  (seqO (whileD 2000 (truF (rdS 1)) (seqO (setOs 2 (two (rdS 2) (cI 1) (augI fun i j => i + j)))
    (seqO (setOs 3 (two (rdS 3) (app (cons1 (rdS 1) nil1) lenD) (augI fun i j => i + j)))
    (seqO (ifO (orB (asB (two (rdS 2) (cI 60) gtI)) (asB (two (rdS 3) (cI 1000) gtI))) (retO (cB true)) nxO)
    (setOs 1 (callF 1 f_level_below (cons1 (rdS 1) nil1)))))))
  (retO (cB false))))))
def F_is_great : List D → Res D := runF true 4 (g_is_great F_level_below)
def g_bounded (f_is_great : List D → Res D) : Sl → Res Out :=
  (seqO (ifX (asB (callF 1 f_is_great (cons1 (rdS 0) nil1))) (raiseO "TooGreat") (calmO nxO))
  (calmO (retS (rdS 0))))
def F_bounded : List D → Res D := runX false 1 (g_bounded F_is_great)
def g_put_there (f_put_there : List D → Res D) : Sl → Res Out :=
  (seqO (ifO (asB (two (rdS 1) (tupF nil1) eqR)) (retS (rdS 2)) nxO)
  (seqO (setOs 3 (two (two (rdS 1) (cI 0) ixD) (cI 1) addD))
  (retO (two (two (slice3 (rdS 0) noneI (someI (rdS 3)) slD) (tupF (cons1 (callF 3 f_put_there (cons1 (two (rdS 0) (rdS 3) ixD) (cons1 (slice3 (rdS 1) (someI (cI 1)) noneI slD) (cons1 (rdS 2) nil1)))) nil1)) addD) (slice3 (rdS 0) (someI (two (rdS 3) (cI 1) addD)) noneI slD) addD))))
def F_put_there : Nat → List D → Res D
  | 0 => fun _ => .stuck
  | n + 1 => runF false 4 (g_put_there (F_put_there n))
def g_put (f_part_there : List D → Res D) (f_bounded : List D → Res D) (f_put_there : List D → Res D) : Sl → Res Out :=
  (seqO (dropO (callX 2 f_part_there (cons1 (rdS 0) (cons1 (rdS 1) nil1))))
  (retS (callX 1 f_bounded (cons1 (callF 3 f_put_there (cons1 (rdS 0) (cons1 (rdS 1) (cons1 (rdS 2) nil1)))) nil1))))
def F_put : List D → Res D := runX false 3 (g_put F_part_there F_bounded (F_put_there 64))
def g__law_too_great (f_put : List D → Res D) : Sl → Res Out :=
  (seqO (setOs 3 cN)
  (seqO (setOs 4 cN)
  (seqO (tryO ["TooGreat"] (setOs 4 (callX 3 f_put (cons1 (rdS 0) (cons1 (rdS 1) (cons1 (rdS 2) nil1))))) 5 (setOs 3 (rdS 5)))
  (seqO (ifO (asB (two (rdS 3) cN notN)) (retO (toB (isyF [("TooGreat", true), ("NoPath", true)] (rdS 3)) (notF (isyF [("TooGreat", false), ("NoPath", true)] (rdS 3))) true)) nxO)
  (retS (rdS 4))))))
def F__law_too_great : List D → Res D := runF false 6 (g__law_too_great F_put)
def g__law_cell_at : Sl → Res Out :=
  (seqO (ifO (asB (two (rdS 1) (app (cons1 (rdS 0) nil1) lenD) ltI)) (retS (two (rdS 0) (rdS 1) ixD)) nxO)
  (retO (cI 0)))
def F__law_cell_at : List D → Res D := runF false 2 (g__law_cell_at)
def g__law_with (f__law_with : List D → Res D) : Sl → Res Out :=
  (seqO (ifO (asB (two (app (cons1 (rdS 1) nil1) lenD) (cI 0) eqR)) (retS (rdS 2)) nxO)
  (seqO (setO 3 (app (cons1 (rdS 0) nil1) listD))
  (seqO (setIx 3 (two (two (rdS 1) (cI 0) ixD) (cI 1) addD) (callF 3 f__law_with (cons1 (two (rdB 3) (two (two (rdS 1) (cI 0) ixD) (cI 1) addD) ixD) (cons1 (slice3 (rdS 1) (someI (cI 1)) noneI slD) (cons1 (rdS 2) nil1)))))
  (retO (chk (app (cons1 (rdB 3) nil1) tupleD))))))
def F__law_with : Nat → List D → Res D
  | 0 => fun _ => .stuck
  | n + 1 => runF false 4 (g__law_with (F__law_with n))
def g__law_term (f__law_term : List D → Res D) : Sl → Res Out :=
  (seqO (setOs 3 (two (rdS 0) (cI 6) modI))
  (seqO (setOs 0 (two (rdS 0) (cI 6) divI))
  (seqO (ifO (orB (asB (two (rdS 3) (cI 0) eqR)) (andB (asB (two (rdS 2) (cI 1) eqR)) (asB (two (rdS 3) (cI 4) ltI)))) (retO (tupF (cons1 (two (lstF (cons1 (cI 0) (cons1 (cI 1) (cons1 (cI 2) (cons1 (two (two (rdS 0) (cI 4) divI) (cI 1000) modI) nil1))))) (two (rdS 0) (cI 4) modI) ixD) (cons1 (two (rdS 0) (cI 4000) divI) nil1)))) nxO)
  (seqO (ifO (orB (asB (two (rdS 3) (cI 1) eqR)) (asB (two (rdS 2) (cI 1) eqR))) (retO (tupF (cons1 (tupF (cons1 (two (rdS 1) (two (rdS 0) (cI 5) modI) ixD) nil1)) (cons1 (two (rdS 0) (cI 5) divI) nil1)))) nxO)
  (seqO (setOs 4 (two (rdS 1) (two (rdS 0) (cI 5) modI) ixD))
  (seqO (setOs 5 (two (cI 1) (two (two (rdS 0) (cI 5) divI) (cI 3) modI) addD))
  (seqO (setOs 0 (two (rdS 0) (cI 15) divI))
  (seqO (setO 6 (lstF nil1))
  (seqO (forO (rngF (cons1 (rdS 5) nil1)) (gN 7) (seqO (asgO (callF 3 f__law_term (cons1 (rdS 0) (cons1 (rdS 1) (cons1 (two (rdS 2) (cI 1) subI) nil1)))) (g2 (gN 8) (gN 0)))
    (appendO 6 (rdS 8))))
  (retO (tupF (cons1 (chk (app (cons1 (two (lstF (cons1 (rdS 4) nil1)) (rdB 6) addD) nil1) tupleD)) (cons1 (rdS 0) nil1)))))))))))))
def F__law_term : Nat → List D → Res D
  | 0 => fun _ => .stuck
  | n + 1 => runF true 9 (g__law_term (F__law_term n))
def g__law_parts (f__law_parts : List D → Res D) : Sl → Res Out :=
  (seqO (setO 1 (lstF (cons1 (tupF (cons1 (tupF nil1) (cons1 (rdS 0) nil1))) nil1)))
  (seqO (ifO (asB (isiF "tuple" (rdS 0))) (forO (rng2F (cons1 (cI 1) (cons1 (app (cons1 (rdS 0) nil1) lenD) nil1))) (gN 2) (forO (itF (callF 1 f__law_parts (cons1 (two (rdS 0) (rdS 2) ixD) nil1))) (g2 (gN 3) (gN 4)) (appendO 1 (tupF (cons1 (two (tupF (cons1 (two (rdS 2) (cI 1) subI) nil1)) (rdS 3) addD) (cons1 (rdS 4) nil1)))))) nxO)
  (retO (rdO 1))))
def F__law_parts : Nat → List D → Res D
  | 0 => fun _ => .stuck
  | n + 1 => runF true 5 (g__law_parts (F__law_parts n))
def g_paths (f_places : List D → Res D) (f_paths : List D → Res D) : Sl → Res Out :=
  (seqO (setO 1 (lstF (cons1 (tupF nil1) nil1)))
  (seqO (forO (enumT (callF 1 f_places (cons1 (rdS 0) nil1))) (g2 (gN 2) (gN 3)) (extendO 1 (compO false 1 [2] (itF (callF 1 f_paths (cons1 (rdS 3) nil1))) (gN 0) trueB (two (tupF (cons1 (rdS 1) nil1)) (rdS 0) addD))))
  (retO (rdO 1))))
def F_paths : Nat → List D → Res D
  | 0 => fun _ => .stuck
  | n + 1 => runF true 4 (g_paths F_places (F_paths n))
def g__law_nowhere : Sl → Res Out :=
  (seqO (setOs 3 (two (rdS 2) (cI 8) modI))
  (seqO (setOs 4 (cI 0))
  (seqO (ifO (asB (isiF "tuple" (rdS 1))) (setOs 4 (two (app (cons1 (rdS 1) nil1) lenD) (cI 1) subI)) nxO)
  (seqO (setOs 5 (two (two (rdS 2) (cI 8) divI) (two (cI 10) (cI 30) powI) modI))
  (seqO (ifO (asB (two (rdS 3) (cI 3) ltI)) (retO (two (rdS 0) (tupF (cons1 (rdS 4) nil1)) addE)) nxO)
  (seqO (ifO (asB (two (rdS 3) (cI 3) eqR)) (retO (two (rdS 0) (tupF (cons1 (two (negF (cI 1)) (rdS 5) subI) nil1)) addE)) nxO)
  (seqO (ifO (asB (two (rdS 3) (cI 4) eqR)) (retO (two (rdS 0) (tupF (cons1 (two (rdS 4) (rdS 5) addE) (cons1 (cI 0) nil1))) addE)) nxO)
  (seqO (ifO (asB (two (rdS 3) (cI 5) eqR)) (retO (two (rdS 0) (tupF (cons1 (two (lstF (cons1 (cB true) (cons1 (cB false) (cons1 cN (cons1 (cS "0") (cons1 (tupF (cons1 (cI 0) nil1)) nil1)))))) (two (rdS 5) (cI 5) modI) ixD) nil1)) addE)) nxO)
  (seqO (ifO (asB (two (rdS 3) (cI 6) eqR)) (retO (app (cons1 (rdS 0) nil1) listD)) nxO)
  (retS (two (lstF (cons1 cN (cons1 (cS "") (cons1 (cI 0) (cons1 (cB true) (cons1 (cS "0") (cons1 cD (cons1 (negF (cI 1)) nil1)))))))) (two (rdS 5) (cI 7) modI) ixD)))))))))))
def F__law_nowhere : List D → Res D := runF false 6 (g__law_nowhere)
def g_part (f_bounded : List D → Res D) (f_part_there : List D → Res D) : Sl → Res Out :=
  (retS (callY f_bounded (callX 2 f_part_there (cons1 (rdS 0) (cons1 (rdS 1) nil1)))))
def F_part : List D → Res D := runX false 2 (g_part F_bounded F_part_there)
def g__law_other : Sl → Res Out :=
  (seqO (ifO (asB (isyF [("TooGreat", false), ("NoPath", false)] (rdS 0))) (retO (cB true)) nxO)
  (retO (isyF [("TooGreat", true), ("NoPath", false)] (rdS 0))))
def F__law_other : List D → Res D := runF true 1 (g__law_other)
def g__law_refused (f_part : List D → Res D) (f_put : List D → Res D) (f__law_other : List D → Res D) : Sl → Res Out :=
  (seqO (setOs 4 cN)
  (seqO (tryO ["TooGreat", "NoPath"] (ifX (asB (two (rdS 3) (cI 0) eqR)) (dropO (callX 2 f_part (cons1 (rdS 0) (cons1 (rdS 1) nil1)))) (dropO (callX 3 f_put (cons1 (rdS 0) (cons1 (rdS 1) (cons1 (rdS 2) nil1)))))) 5 (setOs 4 (rdS 5)))
  (retO (toB (isyF [("TooGreat", false), ("NoPath", true)] (rdS 4)) (toB (isxF ["TooGreat", "NoPath"] (rdS 4)) (notF (callF 1 f__law_other (cons1 (rdS 4) nil1))) true) true))))
def F__law_refused : List D → Res D := runF true 6 (g__law_refused F_part F_put F__law_other)
def g__law_whole : Sl → Res Out :=
  (retO (toB (isiF "int" (rdS 0)) (notF (isiF "bool" (rdS 0))) true))
def F__law_whole : List D → Res D := runF true 1 (g__law_whole)
def g__law_path (f__law_whole : List D → Res D) : Sl → Res Out :=
  (seqO (ifO (notB (asB (isiF "tuple" (rdS 0)))) (retO (cB false)) nxO)
  (seqO (forO (itF (rdS 0)) (gN 1) (ifO (notB (asB (callF 1 f__law_whole (cons1 (rdS 1) nil1)))) (retO (cB false)) nxO))
  (retO (cB true))))
def F__law_path : List D → Res D := runF true 2 (g__law_path F__law_whole)
def g__law_asked (f__law_parts : List D → Res D) (f_paths : List D → Res D) (f__law_nowhere : List D → Res D) (f_part : List D → Res D) (f_put : List D → Res D) (f__law_with : List D → Res D) (f__law_refused : List D → Res D) (f__law_path : List D → Res D) : Sl → Res Out :=
  (seqO (setOs 3 (callF 1 f__law_parts (cons1 (rdS 0) nil1)))
  (seqO (setOs 4 (callF 1 f_paths (cons1 (rdS 0) nil1)))
  (seqO (ifO (orB (notB (asB (isiF "list" (rdS 4)))) (notB (asB (app (cons1 (compO false 1 [] (itF (rdS 4)) (gN 0) trueB (callF 1 f__law_path (cons1 (rdS 0) nil1))) nil1) allD)))) (retO (cB false)) nxO)
  (seqO (ifO (asB (two (rdS 4) (app (cons1 (compO false 2 [] (itF (rdS 3)) (g2 (gN 0) (gN 1)) trueB (rdS 0)) nil1) sortedUp) neR)) (retO (cB false)) nxO)
  (seqO (forO (itF (rdS 3)) (g2 (gN 7) (gN 8)) (seqO (setOs 9 (callF 2 (fun ds => nx1 (f_part ds)) (cons1 (rdS 0) (cons1 (rdS 7) nil1))))
    (ifO (orB (asB (two (rdS 9) (rdS 8) neR)) (asB (isiF "bool" (rdS 9)))) (retO (cB false)) nxO)))
  (seqO (asgO (two (rdS 3) (two (rdS 2) (app (cons1 (rdS 3) nil1) lenD) modI) ixD) (g2 (gN 7) (gN 8)))
  (seqO (ifO (asB (two (callF 3 (fun ds => nx1 (f_put ds)) (cons1 (rdS 0) (cons1 (rdS 7) (cons1 (rdS 1) nil1)))) (callF 3 f__law_with (cons1 (rdS 0) (cons1 (rdS 7) (cons1 (rdS 1) nil1)))) neR)) (retO (cB false)) nxO)
  (seqO (setOs 5 (callF 3 f__law_nowhere (cons1 (rdS 7) (cons1 (rdS 8) (cons1 (two (rdS 2) (cI 64) divI) nil1)))))
  (seqO (setOs 6 (ifD (asB (isiF "list" (rdS 5))) (app (cons1 (rdS 5) nil1) listD) (rdS 5)))
  (seqO (ifO (orB (notB (asB (callF 4 f__law_refused (cons1 (rdS 0) (cons1 (rdS 5) (cons1 (rdS 1) (cons1 (cI 0) nil1))))))) (notB (asB (callF 4 f__law_refused (cons1 (rdS 0) (cons1 (rdS 5) (cons1 (rdS 1) (cons1 (cI 1) nil1)))))))) (retO (cB false)) nxO)
  (retO (toB (two (rdS 5) (rdS 6) eqA) (toB (two (callF 3 (fun ds => nx1 (f_put ds)) (cons1 (rdS 0) (cons1 (tupF nil1) (cons1 (rdS 1) nil1)))) (rdS 1) eqA) (two (callF 2 (fun ds => nx1 (f_part ds)) (cons1 (rdS 0) (cons1 (tupF nil1) nil1))) (rdS 0) eqA) true) true))))))))))))
def F__law_asked : List D → Res D := runF true 10 (g__law_asked (F__law_parts 6) (F_paths 6) F__law_nowhere F_part F_put (F__law_with 64) F__law_refused F__law_path)
def g_law (f__law_great : List D → Res D) (f__law_names : List D → Res D) (f__law_too_great : List D → Res D) (f__law_cell_at : List D → Res D) (f__law_with : List D → Res D) (f__law_term : List D → Res D) (f__law_asked : List D → Res D) : Sl → Res Out :=
  (seqO (setOs 1 (callF 1 f__law_great (cons1 (callF 2 f__law_cell_at (cons1 (rdS 0) (cons1 (cI 0) nil1))) nil1)))
  (seqO (setOs 2 (callF 1 f__law_names (cons1 (rdS 1) nil1)))
  (seqO (forO (itF (rdS 0)) (gN 3) (seqO (setOs 10 (callF 1 f__law_great (cons1 (rdS 3) nil1)))
    (seqO (setOs 11 (two (callF 3 f__law_term (cons1 (rdS 10) (cons1 (rdS 2) (cons1 (cI 4) nil1)))) (cI 0) ixD))
    (seqO (setOs 12 (two (callF 3 f__law_term (cons1 (callF 1 f__law_great (cons1 (two (rdS 3) (cI 1) addE) nil1)) (cons1 (rdS 2) (cons1 (cI 4) nil1)))) (cI 0) ixD))
    (ifO (notB (asB (callF 3 f__law_asked (cons1 (rdS 11) (cons1 (rdS 12) (cons1 (callF 1 f__law_great (cons1 (two (rdS 3) (cI 2) addE) nil1)) nil1)))))) (retO (cB false)) nxO)))))
  (seqO (setOs 4 (two (two (rdS 1) (cI 3) divI) (cI 1000) modI))
  (seqO (setOs 5 (tupF nil1))
  (seqO (forO (rngF (cons1 (two (cI 57) (two (rdS 1) (cI 3) modI) addE) nil1)) (gN 6) (seqO (setOs 4 (tupF (cons1 (two (rdS 2) (two (two (rdS 1) (cI 9) divI) (cI 5) modI) ixD) (cons1 (rdS 4) nil1))))
    (setOs 5 (two (rdS 5) (tupF (cons1 (cI 0) nil1)) addE))))
  (seqO (setOs 7 (tupF (cons1 (two (rdS 2) (cI 0) ixD) nil1)))
  (seqO (setOs 8 (two (cI 1) (two (two (rdS 1) (cI 45) divI) (cI 4) modI) addE))
  (seqO (forO (rngF (cons1 (two (rdS 8) (cI 1) subI) nil1)) (gN 6) (setOs 7 (tupF (cons1 (two (rdS 2) (cI 1) ixD) (cons1 (rdS 7) (cons1 (cI 5) nil1))))))
  (seqO (setOs 9 (callF 3 f__law_too_great (cons1 (rdS 4) (cons1 (rdS 5) (cons1 (rdS 7) nil1)))))
  (seqO (ifO (asB (two (two (app (cons1 (rdS 5) nil1) lenD) (rdS 8) addE) (cI 60) gtI)) (retO (two (rdS 9) (cB true) isB)) nxO)
  (retO (two (rdS 9) (callF 3 f__law_with (cons1 (rdS 4) (cons1 (rdS 5) (cons1 (rdS 7) nil1)))) eqR)))))))))))))
def F_law : List D → Res D := runF true 13 (g_law F__law_great F__law_names F__law_too_great F__law_cell_at (F__law_with 64) (F__law_term 100) F__law_asked)
end G

set_option Elab.async false
set_option linter.all false
set_option maxRecDepth 100000
set_option maxHeartbeats 4000000
namespace G
open PySem PySem.Spec L2 M
open PyProof.Rows hiding St
/-! ### what stands in the module -/
structure Gm (ct_MOST_LEVELS ct_MOST_PARTS : Tok) (K : PySem.W.Frag) (a_TooGreat a_NoPath a_NoLine a_NoName a_TooLong a_TooMany a_EndError a_NoReason a_NoPair a_NoHead a_NoPaper a_NoStep a_NoRule a_NoText : Addr) (mg : Str → Option Value) : Prop where
  b_isinstance : mg "isinstance" = none
  b_bool : mg "bool" = none
  b_int : mg "int" = none
  b_tuple : mg "tuple" = none
  b_list : mg "list" = none
  b_ValueError : mg "ValueError" = none
  b_range : mg "range" = none
  b_len : mg "len" = none
  b_enumerate : mg "enumerate" = none
  b_sorted : mg "sorted" = none
  b_all : mg "all" = none
  c_MOST_LEVELS : mg "MOST_LEVELS" = some (.int 60 ct_MOST_LEVELS)
  c_MOST_PARTS : mg "MOST_PARTS" = some (.int 1000 ct_MOST_PARTS)
  m_TooGreat : mg "TooGreat" = some (.ref a_TooGreat)
  m_NoPath : mg "NoPath" = some (.ref a_NoPath)
  m_NoLine : mg "NoLine" = some (.ref a_NoLine)
  m_NoName : mg "NoName" = some (.ref a_NoName)
  m_TooLong : mg "TooLong" = some (.ref a_TooLong)
  m_TooMany : mg "TooMany" = some (.ref a_TooMany)
  m_EndError : mg "EndError" = some (.ref a_EndError)
  m_NoReason : mg "NoReason" = some (.ref a_NoReason)
  m_NoPair : mg "NoPair" = some (.ref a_NoPair)
  m_NoHead : mg "NoHead" = some (.ref a_NoHead)
  m_NoPaper : mg "NoPaper" = some (.ref a_NoPaper)
  m_NoStep : mg "NoStep" = some (.ref a_NoStep)
  m_NoRule : mg "NoRule" = some (.ref a_NoRule)
  m_NoText : mg "NoText" = some (.ref a_NoText)
  n_TooGreat : NmC K "TooGreat" a_TooGreat
  q_TooGreat : PySem.W.excIn K a_TooGreat [.type "ValueError", .type "Exception", .type "BaseException", .type "object"] "ValueError.__new__" = true
  n_NoPath : NmC K "NoPath" a_NoPath
  q_NoPath : PySem.W.excIn K a_NoPath [.type "ValueError", .type "Exception", .type "BaseException", .type "object"] "ValueError.__new__" = true
  x_TooGreat : ∀ c, [("TooGreat" : Str)].contains c = true → ∀ C, NmC K c C → PySem.W.exmOne K (.ref C) (.ref a_TooGreat) = some true
  x_EndError : ∀ c, [("TooGreat" : Str), ("NoPath" : Str)].contains c = true → ∀ C, NmC K c C → PySem.W.exmOne K (.ref C) (.ref a_EndError) = some true
  i_ValueError : ∀ c, [("TooGreat" : Str), ("NoPath" : Str)].contains c = true → ∀ C, NmC K c C → PySem.W.kitOne K (.ref C) (.type "ValueError") = some true
  y_NoPath : ∀ c b, List.lookup c [(("TooGreat" : Str), false), (("NoPath" : Str), true)] = some b → ∀ C, NmC K c C → ExcC K C ∧ PySem.W.kitOne K (.ref C) (.ref a_NoPath) = some b
  y_EndError : ∀ c b, List.lookup c [(("TooGreat" : Str), true), (("NoPath" : Str), true)] = some b → ∀ C, NmC K c C → ExcC K C ∧ PySem.W.kitOne K (.ref C) (.ref a_EndError) = some b
  yt_0 : ∀ c b, List.lookup c [(("TooGreat" : Str), true), (("NoPath" : Str), false)] = some b → ∀ C, NmC K c C → ExcC K C ∧ PySem.W.kitAny K (.ref C) (List.map Value.ref [a_TooMany, a_TooGreat, a_TooLong, a_NoName, a_NoLine]) = some b
  yt_1 : ∀ c b, List.lookup c [(("TooGreat" : Str), false), (("NoPath" : Str), false)] = some b → ∀ C, NmC K c C → ExcC K C ∧ PySem.W.kitAny K (.ref C) (List.map Value.ref [a_NoText, a_NoRule, a_NoStep, a_NoPaper, a_NoHead, a_NoPair, a_NoReason]) = some b
theorem sc__law_great : FnScope ["_law_cell"] ["_law_cell"] (defScope s__law_great) := ⟨rfl, rfl, rfl, by decide +kernel, rfl, by decide +kernel, by decide +kernel⟩
theorem sc__law_names : FnScope ["_law_number", "_law_letters", "_law_size", "_law_first", "_law_k", "_law_at", "_law_names_here", "_law_sign"] ["_law_number"] (defScope s__law_names) := ⟨rfl, rfl, rfl, by decide +kernel, rfl, by decide +kernel, by decide +kernel⟩
theorem sc_places : FnScope ["term"] ["term"] (defScope s_places) := ⟨rfl, rfl, rfl, by decide +kernel, rfl, by decide +kernel, by decide +kernel⟩
theorem sc_is_whole : FnScope ["thing"] ["thing"] (defScope s_is_whole) := ⟨rfl, rfl, rfl, by decide +kernel, rfl, by decide +kernel, by decide +kernel⟩
theorem sc_place_there : FnScope ["term", "number", "below"] ["term", "number"] (defScope s_place_there) := ⟨rfl, rfl, rfl, by decide +kernel, rfl, by decide +kernel, by decide +kernel⟩
theorem sc_part_there : FnScope ["term", "path", "found", "number"] ["term", "path"] (defScope s_part_there) := ⟨rfl, rfl, rfl, by decide +kernel, rfl, by decide +kernel, by decide +kernel⟩
theorem sc_level_below : FnScope ["row", "below", "thing"] ["row"] (defScope s_level_below) := ⟨rfl, rfl, rfl, by decide +kernel, rfl, by decide +kernel, by decide +kernel⟩
theorem sc_is_great : FnScope ["thing", "row", "depth", "counted"] ["thing"] (defScope s_is_great) := ⟨rfl, rfl, rfl, by decide +kernel, rfl, by decide +kernel, by decide +kernel⟩
theorem sc_bounded : FnScope ["term"] ["term"] (defScope s_bounded) := ⟨rfl, rfl, rfl, by decide +kernel, rfl, by decide +kernel, by decide +kernel⟩
theorem sc_put_there : FnScope ["term", "path", "other", "at"] ["term", "path", "other"] (defScope s_put_there) := ⟨rfl, rfl, rfl, by decide +kernel, rfl, by decide +kernel, by decide +kernel⟩
theorem sc_put : FnScope ["term", "path", "other"] ["term", "path", "other"] (defScope s_put) := ⟨rfl, rfl, rfl, by decide +kernel, rfl, by decide +kernel, by decide +kernel⟩
theorem sc__law_too_great : FnScope ["_law_term_here", "_law_path_here", "_law_other_here", "_law_error", "_law_found", "e"] ["_law_term_here", "_law_path_here", "_law_other_here"] (defScope s__law_too_great) := ⟨rfl, rfl, rfl, by decide +kernel, rfl, by decide +kernel, by decide +kernel⟩
theorem sc__law_cell_at : FnScope ["_law_script", "_law_k"] ["_law_script", "_law_k"] (defScope s__law_cell_at) := ⟨rfl, rfl, rfl, by decide +kernel, rfl, by decide +kernel, by decide +kernel⟩
theorem sc__law_with : FnScope ["_law_term_here", "_law_path_here", "_law_other_here", "_law_row"] ["_law_term_here", "_law_path_here", "_law_other_here"] (defScope s__law_with) := ⟨rfl, rfl, rfl, by decide +kernel, rfl, by decide +kernel, by decide +kernel⟩
theorem sc__law_term : FnScope ["_law_number", "_law_names_here", "_law_room", "_law_kind", "_law_name", "_law_count", "_law_places", "_law_k", "_law_place"] ["_law_number", "_law_names_here", "_law_room"] (defScope s__law_term) := ⟨rfl, rfl, rfl, by decide +kernel, rfl, by decide +kernel, by decide +kernel⟩
theorem sc__law_parts : FnScope ["_law_term_here", "_law_found", "_law_k", "_law_path_here", "_law_some"] ["_law_term_here"] (defScope s__law_parts) := ⟨rfl, rfl, rfl, by decide +kernel, rfl, by decide +kernel, by decide +kernel⟩
theorem sc_paths : FnScope ["term", "found", "number", "place"] ["term"] (defScope s_paths) := ⟨rfl, rfl, rfl, by decide +kernel, rfl, by decide +kernel, by decide +kernel⟩
theorem sc__law_nowhere : FnScope ["_law_path_here", "_law_some", "_law_number", "_law_way", "_law_many", "_law_far"] ["_law_path_here", "_law_some", "_law_number"] (defScope s__law_nowhere) := ⟨rfl, rfl, rfl, by decide +kernel, rfl, by decide +kernel, by decide +kernel⟩
theorem sc_part : FnScope ["term", "path"] ["term", "path"] (defScope s_part) := ⟨rfl, rfl, rfl, by decide +kernel, rfl, by decide +kernel, by decide +kernel⟩
theorem sc__law_other : FnScope ["_law_error"] ["_law_error"] (defScope s__law_other) := ⟨rfl, rfl, rfl, by decide +kernel, rfl, by decide +kernel, by decide +kernel⟩
theorem sc__law_refused : FnScope ["_law_term_here", "_law_path_here", "_law_other_here", "_law_deed", "_law_error", "e"] ["_law_term_here", "_law_path_here", "_law_other_here", "_law_deed"] (defScope s__law_refused) := ⟨rfl, rfl, rfl, by decide +kernel, rfl, by decide +kernel, by decide +kernel⟩
theorem sc__law_whole : FnScope ["_law_thing"] ["_law_thing"] (defScope s__law_whole) := ⟨rfl, rfl, rfl, by decide +kernel, rfl, by decide +kernel, by decide +kernel⟩
theorem sc__law_path : FnScope ["_law_found", "_law_k"] ["_law_found"] (defScope s__law_path) := ⟨rfl, rfl, rfl, by decide +kernel, rfl, by decide +kernel, by decide +kernel⟩
theorem sc__law_asked : FnScope ["_law_term_here", "_law_other_here", "_law_number", "_law_due", "_law_found", "_law_odd", "_law_held", "_law_path_here", "_law_some", "_law_told"] ["_law_term_here", "_law_other_here", "_law_number"] (defScope s__law_asked) := ⟨rfl, rfl, rfl, by decide +kernel, rfl, by decide +kernel, by decide +kernel⟩
theorem sc_law : FnScope ["_law_script", "_law_first", "_law_names_here", "_law_cell", "_law_row", "_law_path_here", "_law_k", "_law_end", "_law_levels_of_end", "_law_found", "_law_number", "_law_term_here", "_law_other_here"] ["_law_script"] (defScope s_law) := ⟨rfl, rfl, rfl, by decide +kernel, rfl, by decide +kernel, by decide +kernel⟩
section
variable {P : Program} {w : World} {K : PySem.W.Frag} {mg : Str → Option Value} {base : Heap} {f : Addr} {fd : FuncData} {k : Nat} {ct_MOST_LEVELS ct_MOST_PARTS : Tok} {a_TooGreat a_NoPath a_NoLine a_NoName a_TooLong a_TooMany a_EndError a_NoReason a_NoPair a_NoHead a_NoPaper a_NoStep a_NoRule a_NoText : Addr}
theorem ok__law_great (T : Gm ct_MOST_LEVELS ct_MOST_PARTS K a_TooGreat a_NoPath a_NoLine a_NoName a_TooLong a_TooMany a_EndError a_NoReason a_NoPair a_NoHead a_NoPaper a_NoStep a_NoRule a_NoText mg) (Fu : Fun K "_law_great" "_law_great" s__law_great f fd) (hmg : mg "_law_great" = some (.ref f)) (hbi : Binds K fd ["_law_cell"] []) :
    Av P w K mg base (k + 1) "_law_great" ["_law_cell"] true (runF true 1 (g__law_great)) :=
  av_ok true Fu hmg sc__law_great hbi fun cdv A outer s H E hr =>
    (dss_one (ds_ret (de_op (l := .t) op_mod od_mod (de_op (l := .b) op_mulB od_mul (de_op (l := .b) op_mulB od_mul (de_op (l := .b) op_mulB od_mul (DE.b (de_opT op_addD od_add (dv 0) (de_int (l := .s)))) (de_op (l := .b) op_pow od_pow (de_int (l := .b)) (de_int (l := .b)))) (de_op (l := .b) op_pow od_pow (de_int (l := .b)) (de_int (l := .b)))) (de_op (l := .b) op_pow od_pow (de_int (l := .b)) (de_int (l := .b)))) (de_op (l := .b) op_mulB od_mul (de_op (l := .b) op_pow od_pow (de_int (l := .b)) (de_int (l := .b))) (de_op (l := .b) op_pow od_pow (de_int (l := .b)) (de_int (l := .b)))))))
theorem ok__law_names (T : Gm ct_MOST_LEVELS ct_MOST_PARTS K a_TooGreat a_NoPath a_NoLine a_NoName a_TooLong a_TooMany a_EndError a_NoReason a_NoPair a_NoHead a_NoPaper a_NoStep a_NoRule a_NoText mg) (Fu : Fun K "_law_names" "_law_names" s__law_names f fd) (hmg : mg "_law_names" = some (.ref f)) (hbi : Binds K fd ["_law_number"] []) :
    Av P w K mg base (k + 1) "_law_names" ["_law_number"] true (runF true 8 (g__law_names)) :=
  av_ok true Fu hmg sc__law_names hbi fun cdv A outer s H E hr =>
    (dss_cons (by exact (ds_setS 1 sc__law_names.nd (de_str (l := .s))))
  (by exact (dss_cons (by exact (ds_setS 2 sc__law_names.nd (DE.s (de_opT op_addD od_add (de_int (l := .s)) (de_op (l := .s) op_mod od_mod (DE.b (dv 0)) (de_int (l := .b)))))))
  (by exact (dss_cons (by exact (ds_setS 3 sc__law_names.nd (de_str (l := .s))))
  (by exact (dss_cons (by exact (ds_for PassesOwn.never rfl (di_range1 rfl T.b_range (da_cons (DE.b (dv 2)) da_nil)) (dg_name 4 sc__law_names.nd) (dss_cons (by exact (ds_setS 0 sc__law_names.nd (de_op (l := .s) op_fdiv od_fdiv (DE.b (dv 0)) (de_int (l := .b)))))
    (by exact (dss_one (ds_setS 3 sc__law_names.nd (DE.s (de_opT op_addD od_add (dv 3) (de_ix (dv 1) (de_op (l := .b) op_mod od_mod (DE.b (dv 0)) (de_int (l := .b))))))))))))
  (by exact (dss_cons (by exact (ds_setS 5 sc__law_names.nd (de_op (l := .s) op_mod od_mod (de_op (l := .b) op_fdiv od_fdiv (DE.b (dv 0)) (de_int (l := .b))) (DE.b (dv 2)))))
  (by exact (dss_cons (by exact (ds_set 6 sc__law_names.nd (de_lst da_nil)))
  (by exact (dss_cons (by exact (ds_for PassesOwn.never rfl (di_range1 rfl T.b_range (da_cons (de_int (l := .b)) da_nil)) (dg_name 4 sc__law_names.nd) (dss_cons (by exact (ds_setS 7 sc__law_names.nd (de_ix (dv 1) (de_op (l := .b) op_mod od_mod (DE.b (de_opT op_addD od_add (de_sm (l' := .s) PySem.F.slot_str_find PySem.F.type_str_find mt_find md_find (DE.b (dv 1)) (da_cons (by exact (DE.b (de_ix (dv 3) (DE.b (dv 5))))) da_nil)) (de_op (l := .s) op_mulB od_mul (de_int (l := .b)) (DE.b (dv 4))))) (de_int (l := .b))))))
    (by exact (dss_one (ds_append 6 (DE.s (de_opT op_addD od_add (DE.s (de_opT op_addD od_add (DE.s (de_slice (dv 3) do_none (do_some (DE.b (dv 5))))) (dv 7))) (DE.s (de_slice (dv 3) (do_some (DE.b (de_opT op_addD od_add (dv 5) (de_int (l := .s))))) do_none))))))))))
  (by exact (dss_cons (by exact (ds_if (dt_cmp op_lt od_lt (DE.b (dv 2)) (de_int (l := .b))) (dss_one (ds_append 6 (DE.s (de_opT op_addD od_add (dv 3) (de_str (l := .s)))))) (dss_one (ds_append 6 (DE.s (de_slice (dv 3) do_none (do_some (de_int (l := .b)))))))))
  (by exact (dss_one (ds_retV 6))))))))))))))))))
theorem ok_places (T : Gm ct_MOST_LEVELS ct_MOST_PARTS K a_TooGreat a_NoPath a_NoLine a_NoName a_TooLong a_TooMany a_EndError a_NoReason a_NoPair a_NoHead a_NoPaper a_NoStep a_NoRule a_NoText mg) (Fu : Fun K "places" "places" s_places f fd) (hmg : mg "places" = some (.ref f)) (hbi : Binds K fd ["term"] []) :
    Av P w K mg base (k + 1) "places" ["term"] true (runF true 1 (g_places)) :=
  av_ok true Fu hmg sc_places hbi fun cdv A outer s H E hr =>
    (dss_one (ds_ret (de_ifx (dt_val (de_isi (l' := .b) "tuple" "tuple" isTy_tuple (DE.b (dv 0)) rfl T.b_isinstance rfl T.b_tuple PyProof.Rows.boot_tuple)) (de_slice (dv 0) (do_some (de_int (l := .b))) do_none) (de_tup da_nil))))
theorem ok_is_whole (T : Gm ct_MOST_LEVELS ct_MOST_PARTS K a_TooGreat a_NoPath a_NoLine a_NoName a_TooLong a_TooMany a_EndError a_NoReason a_NoPair a_NoHead a_NoPaper a_NoStep a_NoRule a_NoText mg) (Fu : Fun K "is_whole" "is_whole" s_is_whole f fd) (hmg : mg "is_whole" = some (.ref f)) (hbi : Binds K fd ["thing"] []) :
    Av P w K mg base (k + 1) "is_whole" ["thing"] true (runF true 1 (g_is_whole)) :=
  av_ok true Fu hmg sc_is_whole hbi fun cdv A outer s H E hr =>
    (dss_one (ds_ret (de_and (de_isi (l' := .b) "int" "int" isTy_int (DE.b (dv 0)) rfl T.b_isinstance rfl T.b_int PyProof.Rows.boot_int) (de_one (de_not (l := .t) (de_isi (l' := .b) "bool" "bool" isTy_bool (DE.b (dv 0)) rfl T.b_isinstance rfl T.b_bool PyProof.Rows.boot_bool))))))
theorem ok_place_there {f_places : List D → Res D} {f_is_whole : List D → Res D} (T : Gm ct_MOST_LEVELS ct_MOST_PARTS K a_TooGreat a_NoPath a_NoLine a_NoName a_TooLong a_TooMany a_EndError a_NoReason a_NoPair a_NoHead a_NoPaper a_NoStep a_NoRule a_NoText mg) (Fu : Fun K "place_there" "place_there" s_place_there f fd) (hmg : mg "place_there" = some (.ref f)) (hbi : Binds K fd ["term", "number"] []) (A_places : Av P w K mg base k "places" ["term"] true f_places) (A_is_whole : Av P w K mg base k "is_whole" ["thing"] true f_is_whole) :
    AvX P w K mg base (k + 1) "place_there" ["term", "number"] false (runX false 3 (g_place_there f_places f_is_whole)) :=
  avx_ok false Fu hmg sc_place_there hbi fun cdv A outer s H E hr =>
    (dssx_cons (by exact (DS.x (ds_setS 2 sc_place_there.nd (DE.s (by exact Av.callT A_places hr (da_cons (dv 0) da_nil))))))
  (by exact (dssx_cons (by exact (dsx_if (DW.dt (dw_or (dt_not (dt_val (DE.b (by exact Av.callT A_is_whole hr (da_cons (dv 1) da_nil))))) (dw_or1 (dt_not (dt_chain op_le od_le op_lt od_lt (de_int (l := .b)) (DE.b (dv 1)) (de_callB (l' := .b) call_lenA cd_len rfl T.b_len PySem.boot_len (da_cons (DE.b (dv 2)) da_nil))))))) (dssx_one (dsx_raise T.n_NoPath T.m_NoPath T.q_NoPath PySem.F.excBase_ValueError (de_str (l := .b)) (fun _ => ⟨_, rfl⟩))) dssx_nil))
  (by exact (dssx_one (DS.x (ds_retS (de_ix (dv 2) (DE.b (dv 1))))))))))
theorem ok_part_there {f_place_there : List D → Res D} (T : Gm ct_MOST_LEVELS ct_MOST_PARTS K a_TooGreat a_NoPath a_NoLine a_NoName a_TooLong a_TooMany a_EndError a_NoReason a_NoPair a_NoHead a_NoPaper a_NoStep a_NoRule a_NoText mg) (Fu : Fun K "part_there" "part_there" s_part_there f fd) (hmg : mg "part_there" = some (.ref f)) (hbi : Binds K fd ["term", "path"] []) (A_place_there : AvX P w K mg base k "place_there" ["term", "number"] false f_place_there) :
    AvX P w K mg base (k + 1) "part_there" ["term", "path"] false (runX false 4 (g_part_there f_place_there)) :=
  avx_ok false Fu hmg sc_part_there hbi fun cdv A outer s H E hr =>
    (dssx_cons (by exact (dsx_if (dt_not (dt_val (de_isi (l' := .b) "tuple" "tuple" isTy_tuple (DE.b (dv 1)) rfl T.b_isinstance rfl T.b_tuple PyProof.Rows.boot_tuple))) (dssx_one (dsx_raise T.n_NoPath T.m_NoPath T.q_NoPath PySem.F.excBase_ValueError (de_str (l := .b)) (fun _ => ⟨_, rfl⟩))) dssx_nil))
  (by exact (dssx_cons (by exact (DS.x (ds_setS 2 sc_part_there.nd (dv 0))))
  (by exact (dssx_cons (by exact (dsx_for PassesOwn.leaving rfl (di_seq (dv 1)) (dg_name 3 sc_part_there.nd) (dssx_one (dsx_setS 2 sc_part_there.nd (by exact AvX.callS A_place_there hr (da_cons (dv 2) (da_cons (dv 3) da_nil)))))))
  (by exact (dssx_one (DS.x (ds_retS (dv 2))))))))))
theorem ok_level_below {f_places : List D → Res D} (T : Gm ct_MOST_LEVELS ct_MOST_PARTS K a_TooGreat a_NoPath a_NoLine a_NoName a_TooLong a_TooMany a_EndError a_NoReason a_NoPair a_NoHead a_NoPaper a_NoStep a_NoRule a_NoText mg) (Fu : Fun K "level_below" "level_below" s_level_below f fd) (hmg : mg "level_below" = some (.ref f)) (hbi : Binds K fd ["row"] []) (A_places : Av P w K mg base k "places" ["term"] true f_places) :
    Av P w K mg base (k + 1) "level_below" ["row"] true (runF true 3 (g_level_below f_places)) :=
  av_ok true Fu hmg sc_level_below hbi fun cdv A outer s H E hr =>
    (dss_cons (by exact (ds_set 1 sc_level_below.nd (de_lst da_nil)))
  (by exact (dss_cons (by exact (ds_for PassesOwn.never rfl (di_seq (dv 0)) (dg_name 2 sc_level_below.nd) (dss_one (ds_extend 1 (DE.s (by exact Av.callT A_places hr (da_cons (dv 2) da_nil)))))))
  (by exact (dss_one (ds_retV 1))))))
theorem ok_is_great {f_level_below : List D → Res D} (T : Gm ct_MOST_LEVELS ct_MOST_PARTS K a_TooGreat a_NoPath a_NoLine a_NoName a_TooLong a_TooMany a_EndError a_NoReason a_NoPair a_NoHead a_NoPaper a_NoStep a_NoRule a_NoText mg) (Fu : Fun K "is_great" "is_great" s_is_great f fd) (hmg : mg "is_great" = some (.ref f)) (hbi : Binds K fd ["thing"] []) (A_level_below : Av P w K mg base k "level_below" ["row"] true f_level_below) :
    Av P w K mg base (k + 1) "is_great" ["thing"] true (runF true 4 (g_is_great f_level_below)) :=
  av_ok true Fu hmg sc_is_great hbi fun cdv A outer s H E hr =>
    (dss_cons (by exact (ds_setS 1 sc_is_great.nd (DE.s (de_lst (da_cons (dv 0) da_nil)))))
  (by exact (dss_cons (by exact (ds_setS 2 sc_is_great.nd (de_int (l := .s))))
  (by exact (dss_cons (by exact (ds_setS 3 sc_is_great.nd (de_int (l := .s))))
  (by exact (dss_cons (by exact (ds_while 2000 PassesOwn.never (dt_tru (DE.b (dv 1))) (dss_cons (by exact (ds_aug 2 sc_is_great.nd (de_int (l := .b)) ip_add))
    (by exact (dss_cons (by exact (ds_aug 3 sc_is_great.nd (de_callB (l' := .b) call_lenA cd_len rfl T.b_len PySem.boot_len (da_cons (DE.b (dv 1)) da_nil)) ip_add))
    (by exact (dss_cons (by exact (ds_if (DW.dt (dw_or (dt_cmp op_gt od_gt (DE.b (dv 2)) (de_gint (l := .b) rfl T.c_MOST_LEVELS)) (dw_or1 (dt_cmp op_gt od_gt (DE.b (dv 3)) (de_gint (l := .b) rfl T.c_MOST_PARTS))))) (dss_one (ds_ret (de_bl (l := .t)))) dss_nil))
    (by exact (dss_one (ds_setS 1 sc_is_great.nd (DE.s (by exact Av.callT A_level_below hr (da_cons (dv 1) da_nil)))))))))))))
  (by exact (dss_one (ds_ret (de_bl (l := .t))))))))))))
theorem ok_bounded {f_is_great : List D → Res D} (T : Gm ct_MOST_LEVELS ct_MOST_PARTS K a_TooGreat a_NoPath a_NoLine a_NoName a_TooLong a_TooMany a_EndError a_NoReason a_NoPair a_NoHead a_NoPaper a_NoStep a_NoRule a_NoText mg) (Fu : Fun K "bounded" "bounded" s_bounded f fd) (hmg : mg "bounded" = some (.ref f)) (hbi : Binds K fd ["term"] []) (A_is_great : Av P w K mg base k "is_great" ["thing"] true f_is_great) :
    AvX P w K mg base (k + 1) "bounded" ["term"] false (runX false 1 (g_bounded f_is_great)) :=
  avx_ok false Fu hmg sc_bounded hbi fun cdv A outer s H E hr =>
    (dssx_cons (by exact (dsx_if (dt_val (DE.b (by exact Av.callT A_is_great hr (da_cons (dv 0) da_nil)))) (dssx_one (dsx_raise T.n_TooGreat T.m_TooGreat T.q_TooGreat PySem.F.excBase_ValueError (de_str (l := .b)) (fun _ => ⟨_, rfl⟩))) dssx_nil))
  (by exact (dssx_one (DS.x (ds_retS (dv 0))))))
theorem ok_put_there {f_put_there : List D → Res D} (T : Gm ct_MOST_LEVELS ct_MOST_PARTS K a_TooGreat a_NoPath a_NoLine a_NoName a_TooLong a_TooMany a_EndError a_NoReason a_NoPair a_NoHead a_NoPaper a_NoStep a_NoRule a_NoText mg) (Fu : Fun K "put_there" "put_there" s_put_there f fd) (hmg : mg "put_there" = some (.ref f)) (hbi : Binds K fd ["term", "path", "other"] []) (A_put_there : Av P w K mg base k "put_there" ["term", "path", "other"] false f_put_there) :
    Av P w K mg base (k + 1) "put_there" ["term", "path", "other"] false (runF false 4 (g_put_there f_put_there)) :=
  av_ok false Fu hmg sc_put_there hbi fun cdv A outer s H E hr =>
    (dss_cons (by exact (ds_if (dt_cmp (op_eqD (Room.u200 hr)) od_eq (DE.b (dv 1)) (DE.b (de_tup da_nil))) (dss_one (ds_retS (dv 2))) dss_nil))
  (by exact (dss_cons (by exact (ds_setS 3 sc_put_there.nd (DE.s (de_opT op_addD od_add (de_ix (dv 1) (de_int (l := .b))) (de_int (l := .s))))))
  (by exact (dss_one (ds_ret (de_opT op_addD od_add (DE.s (de_opT op_addD od_add (DE.s (de_slice (dv 0) do_none (do_some (DE.b (dv 3))))) (DE.s (de_tup (da_cons (by exact (by exact Av.call A_put_there hr (da_cons (by exact (de_ix (dv 0) (DE.b (dv 3)))) (da_cons (by exact (DE.s (de_slice (dv 1) (do_some (de_int (l := .b))) do_none))) (da_cons (dv 2) da_nil))))) da_nil))))) (DE.s (de_slice (dv 0) (do_some (DE.b (de_opT op_addD od_add (dv 3) (de_int (l := .s))))) do_none)))))))))
theorem ok_put {f_part_there : List D → Res D} {f_bounded : List D → Res D} {f_put_there : List D → Res D} (T : Gm ct_MOST_LEVELS ct_MOST_PARTS K a_TooGreat a_NoPath a_NoLine a_NoName a_TooLong a_TooMany a_EndError a_NoReason a_NoPair a_NoHead a_NoPaper a_NoStep a_NoRule a_NoText mg) (Fu : Fun K "put" "put" s_put f fd) (hmg : mg "put" = some (.ref f)) (hbi : Binds K fd ["term", "path", "other"] []) (A_part_there : AvX P w K mg base k "part_there" ["term", "path"] false f_part_there) (A_bounded : AvX P w K mg base k "bounded" ["term"] false f_bounded) (A_put_there : Av P w K mg base k "put_there" ["term", "path", "other"] false f_put_there) :
    AvX P w K mg base (k + 1) "put" ["term", "path", "other"] false (runX false 3 (g_put f_part_there f_bounded f_put_there)) :=
  avx_ok false Fu hmg sc_put hbi fun cdv A outer s H E hr =>
    (dssx_cons (by exact (dsx_expr (by exact AvX.callS A_part_there hr (da_cons (dv 0) (da_cons (dv 1) da_nil)))))
  (by exact (dssx_one (dsx_retS (by exact AvX.callS A_bounded hr (da_cons (by exact (by exact Av.call A_put_there hr (da_cons (dv 0) (da_cons (dv 1) (da_cons (dv 2) da_nil))))) da_nil))))))
theorem ok__law_too_great {f_put : List D → Res D} (T : Gm ct_MOST_LEVELS ct_MOST_PARTS K a_TooGreat a_NoPath a_NoLine a_NoName a_TooLong a_TooMany a_EndError a_NoReason a_NoPair a_NoHead a_NoPaper a_NoStep a_NoRule a_NoText mg) (Fu : Fun K "_law_too_great" "_law_too_great" s__law_too_great f fd) (hmg : mg "_law_too_great" = some (.ref f)) (hbi : Binds K fd ["_law_term_here", "_law_path_here", "_law_other_here"] []) (A_put : AvX P w K mg base k "put" ["term", "path", "other"] false f_put) :
    Av P w K mg base (k + 1) "_law_too_great" ["_law_term_here", "_law_path_here", "_law_other_here"] false (runF false 6 (g__law_too_great f_put)) :=
  av_ok false Fu hmg sc__law_too_great hbi fun cdv A outer s H E hr =>
    (dss_cons (by exact (ds_setS 3 sc__law_too_great.nd (de_non (l := .s))))
  (by exact (dss_cons (by exact (ds_setS 4 sc__law_too_great.nd (de_non (l := .s))))
  (by exact (dss_cons (by exact (ds_try ["TooGreat"] 5 sc__law_too_great.nd (fun E' ps => by exact (dssy_one (dsy_setS 4 sc__law_too_great.nd (by exact AvX.callS A_put hr (da_cons (dv 0) (da_cons (dv 1) (da_cons (dv 2) da_nil))))))) (fun e => by exact (dss_one (ds_setS 3 sc__law_too_great.nd (dv 5)))) T.m_TooGreat T.x_TooGreat))
  (by exact (dss_cons (by exact (ds_if (dt_cmp op_notN od_notN (DE.b (dv 3)) (de_non (l := .b))) (dss_one (ds_ret (de_and (de_isy (l' := .b) [("TooGreat", true), ("NoPath", true)] "EndError" T.y_EndError (DE.b (dv 3)) rfl T.b_isinstance rfl T.m_EndError) (de_one (de_not (l := .t) (de_isy (l' := .b) [("TooGreat", false), ("NoPath", true)] "NoPath" T.y_NoPath (DE.b (dv 3)) rfl T.b_isinstance rfl T.m_NoPath)))))) dss_nil))
  (by exact (dss_one (ds_retS (dv 4)))))))))))
theorem ok__law_cell_at (T : Gm ct_MOST_LEVELS ct_MOST_PARTS K a_TooGreat a_NoPath a_NoLine a_NoName a_TooLong a_TooMany a_EndError a_NoReason a_NoPair a_NoHead a_NoPaper a_NoStep a_NoRule a_NoText mg) (Fu : Fun K "_law_cell_at" "_law_cell_at" s__law_cell_at f fd) (hmg : mg "_law_cell_at" = some (.ref f)) (hbi : Binds K fd ["_law_script", "_law_k"] []) :
    Av P w K mg base (k + 1) "_law_cell_at" ["_law_script", "_law_k"] false (runF false 2 (g__law_cell_at)) :=
  av_ok false Fu hmg sc__law_cell_at hbi fun cdv A outer s H E hr =>
    (dss_cons (by exact (ds_if (dt_cmp op_lt od_lt (DE.b (dv 1)) (de_callB (l' := .b) call_lenA cd_len rfl T.b_len PySem.boot_len (da_cons (DE.b (dv 0)) da_nil))) (dss_one (ds_retS (de_ix (dv 0) (DE.b (dv 1))))) dss_nil))
  (by exact (dss_one (ds_ret (de_int (l := .t))))))
theorem ok__law_with {f__law_with : List D → Res D} (T : Gm ct_MOST_LEVELS ct_MOST_PARTS K a_TooGreat a_NoPath a_NoLine a_NoName a_TooLong a_TooMany a_EndError a_NoReason a_NoPair a_NoHead a_NoPaper a_NoStep a_NoRule a_NoText mg) (Fu : Fun K "_law_with" "_law_with" s__law_with f fd) (hmg : mg "_law_with" = some (.ref f)) (hbi : Binds K fd ["_law_term_here", "_law_path_here", "_law_other_here"] []) (A__law_with : Av P w K mg base k "_law_with" ["_law_term_here", "_law_path_here", "_law_other_here"] false f__law_with) :
    Av P w K mg base (k + 1) "_law_with" ["_law_term_here", "_law_path_here", "_law_other_here"] false (runF false 4 (g__law_with f__law_with)) :=
  av_ok false Fu hmg sc__law_with hbi fun cdv A outer s H E hr =>
    (dss_cons (by exact (ds_if (dt_cmp (op_eqD (Room.u200 hr)) od_eq (de_callB (l' := .b) call_lenA cd_len rfl T.b_len PySem.boot_len (da_cons (DE.b (dv 1)) da_nil)) (de_int (l := .b))) (dss_one (ds_retS (dv 2))) dss_nil))
  (by exact (dss_cons (by exact (ds_set 3 sc__law_with.nd (de_callTy call_list_of cd_list rfl T.b_list boot_listG (da_cons (dv 0) da_nil))))
  (by exact (dss_cons (by exact (ds_setIx 3 (DE.b (de_opT op_addD od_add (de_ix (dv 1) (de_int (l := .b))) (de_int (l := .s)))) (by exact Av.call A__law_with hr (da_cons (by exact (de_ixO 3 (DE.b (de_opT op_addD od_add (de_ix (dv 1) (de_int (l := .b))) (de_int (l := .s)))))) (da_cons (by exact (DE.s (de_slice (dv 1) (do_some (de_int (l := .b))) do_none))) (da_cons (dv 2) da_nil))))))
  (by exact (dss_one (ds_ret (DE.chk (l' := .t) (de_callTyB call_tuple_of cd_tuple rfl T.b_tuple PyProof.Rows.boot_tuple (da_cons (db 3) da_nil)))))))))))
theorem ok__law_term {f__law_term : List D → Res D} (T : Gm ct_MOST_LEVELS ct_MOST_PARTS K a_TooGreat a_NoPath a_NoLine a_NoName a_TooLong a_TooMany a_EndError a_NoReason a_NoPair a_NoHead a_NoPaper a_NoStep a_NoRule a_NoText mg) (Fu : Fun K "_law_term" "_law_term" s__law_term f fd) (hmg : mg "_law_term" = some (.ref f)) (hbi : Binds K fd ["_law_number", "_law_names_here", "_law_room"] []) (A__law_term : Av P w K mg base k "_law_term" ["_law_number", "_law_names_here", "_law_room"] true f__law_term) :
    Av P w K mg base (k + 1) "_law_term" ["_law_number", "_law_names_here", "_law_room"] true (runF true 9 (g__law_term f__law_term)) :=
  av_ok true Fu hmg sc__law_term hbi fun cdv A outer s H E hr =>
    (dss_cons (by exact (ds_setS 3 sc__law_term.nd (de_op (l := .s) op_mod od_mod (DE.b (dv 0)) (de_int (l := .b)))))
  (by exact (dss_cons (by exact (ds_setS 0 sc__law_term.nd (de_op (l := .s) op_fdiv od_fdiv (DE.b (dv 0)) (de_int (l := .b)))))
  (by exact (dss_cons (by exact (ds_if (DW.dt (dw_or (dt_cmp (op_eqD (Room.u200 hr)) od_eq (DE.b (dv 3)) (de_int (l := .b))) (dw_or1 (DW.dt (dw_and (dt_cmp (op_eqD (Room.u200 hr)) od_eq (DE.b (dv 2)) (de_int (l := .b))) (dw_and1 (dt_cmp op_lt od_lt (DE.b (dv 3)) (de_int (l := .b))))))))) (dss_one (ds_ret (de_tup (da_cons (by exact (de_ix (DE.s (de_lst (da_cons (de_int (l := .s)) (da_cons (de_int (l := .s)) (da_cons (de_int (l := .s)) (da_cons (by exact (de_op (l := .s) op_mod od_mod (de_op (l := .b) op_fdiv od_fdiv (DE.b (dv 0)) (de_int (l := .b))) (de_int (l := .b)))) da_nil)))))) (de_op (l := .b) op_mod od_mod (DE.b (dv 0)) (de_int (l := .b))))) (da_cons (by exact (de_op (l := .s) op_fdiv od_fdiv (DE.b (dv 0)) (de_int (l := .b)))) da_nil))))) dss_nil))
  (by exact (dss_cons (by exact (ds_if (DW.dt (dw_or (dt_cmp (op_eqD (Room.u200 hr)) od_eq (DE.b (dv 3)) (de_int (l := .b))) (dw_or1 (dt_cmp (op_eqD (Room.u200 hr)) od_eq (DE.b (dv 2)) (de_int (l := .b)))))) (dss_one (ds_ret (de_tup (da_cons (by exact (DE.s (de_tup (da_cons (by exact (de_ix (dv 1) (de_op (l := .b) op_mod od_mod (DE.b (dv 0)) (de_int (l := .b))))) da_nil)))) (da_cons (by exact (de_op (l := .s) op_fdiv od_fdiv (DE.b (dv 0)) (de_int (l := .b)))) da_nil))))) dss_nil))
  (by exact (dss_cons (by exact (ds_setS 4 sc__law_term.nd (de_ix (dv 1) (de_op (l := .b) op_mod od_mod (DE.b (dv 0)) (de_int (l := .b))))))
  (by exact (dss_cons (by exact (ds_setS 5 sc__law_term.nd (DE.s (de_opT op_addD od_add (de_int (l := .s)) (de_op (l := .s) op_mod od_mod (de_op (l := .b) op_fdiv od_fdiv (DE.b (dv 0)) (de_int (l := .b))) (de_int (l := .b)))))))
  (by exact (dss_cons (by exact (ds_setS 0 sc__law_term.nd (de_op (l := .s) op_fdiv od_fdiv (DE.b (dv 0)) (de_int (l := .b)))))
  (by exact (dss_cons (by exact (ds_set 6 sc__law_term.nd (de_lst da_nil)))
  (by exact (dss_cons (by exact (ds_for PassesOwn.never rfl (di_range1 rfl T.b_range (da_cons (DE.b (dv 5)) da_nil)) (dg_name 7 sc__law_term.nd) (dss_cons (by exact (ds_asg (DE.s (by exact Av.callT A__law_term hr (da_cons (dv 0) (da_cons (dv 1) (da_cons (by exact (de_op (l := .s) op_sub od_sub (DE.b (dv 2)) (de_int (l := .b)))) da_nil))))) (dg_two rfl (dg_name 8 sc__law_term.nd) (dg_name 0 sc__law_term.nd))))
    (by exact (dss_one (ds_append 6 (dv 8)))))))
  (by exact (dss_one (ds_ret (de_tup (da_cons (by exact (DE.chk (l' := .s) (de_callTyB call_tuple_of cd_tuple rfl T.b_tuple PyProof.Rows.boot_tuple (da_cons (by exact (de_opB op_addD od_add (DE.b (de_lst (da_cons (dv 4) da_nil))) (db 6))) da_nil)))) (da_cons (dv 0) da_nil)))))))))))))))))))))))
theorem ok__law_parts {f__law_parts : List D → Res D} (T : Gm ct_MOST_LEVELS ct_MOST_PARTS K a_TooGreat a_NoPath a_NoLine a_NoName a_TooLong a_TooMany a_EndError a_NoReason a_NoPair a_NoHead a_NoPaper a_NoStep a_NoRule a_NoText mg) (Fu : Fun K "_law_parts" "_law_parts" s__law_parts f fd) (hmg : mg "_law_parts" = some (.ref f)) (hbi : Binds K fd ["_law_term_here"] []) (A__law_parts : Av P w K mg base k "_law_parts" ["_law_term_here"] true f__law_parts) :
    Av P w K mg base (k + 1) "_law_parts" ["_law_term_here"] true (runF true 5 (g__law_parts f__law_parts)) :=
  av_ok true Fu hmg sc__law_parts hbi fun cdv A outer s H E hr =>
    (dss_cons (by exact (ds_set 1 sc__law_parts.nd (de_lst (da_cons (by exact (DE.s (de_tup (da_cons (DE.s (de_tup da_nil)) (da_cons (dv 0) da_nil))))) da_nil))))
  (by exact (dss_cons (by exact (ds_if (dt_val (de_isi (l' := .b) "tuple" "tuple" isTy_tuple (DE.b (dv 0)) rfl T.b_isinstance rfl T.b_tuple PyProof.Rows.boot_tuple)) (dss_one (ds_for PassesOwn.never rfl (di_range2 rfl T.b_range (da_cons (de_int (l := .b)) (da_cons (by exact (de_callB (l' := .b) call_lenA cd_len rfl T.b_len PySem.boot_len (da_cons (DE.b (dv 0)) da_nil))) da_nil))) (dg_name 2 sc__law_parts.nd) (dss_one (ds_for PassesOwn.never rfl (di_seq (DE.s (by exact Av.callT A__law_parts hr (da_cons (by exact (de_ix (dv 0) (DE.b (dv 2)))) da_nil)))) (dg_two rfl (dg_name 3 sc__law_parts.nd) (dg_name 4 sc__law_parts.nd)) (dss_one (ds_append 1 (DE.s (de_tup (da_cons (by exact (DE.s (de_opT op_addD od_add (DE.s (de_tup (da_cons (by exact (de_op (l := .s) op_sub od_sub (DE.b (dv 2)) (de_int (l := .b)))) da_nil))) (dv 3)))) (da_cons (dv 4) da_nil)))))))))) dss_nil))
  (by exact (dss_one (ds_retV 1))))))
theorem ok_paths {f_places : List D → Res D} {f_paths : List D → Res D} (T : Gm ct_MOST_LEVELS ct_MOST_PARTS K a_TooGreat a_NoPath a_NoLine a_NoName a_TooLong a_TooMany a_EndError a_NoReason a_NoPair a_NoHead a_NoPaper a_NoStep a_NoRule a_NoText mg) (Fu : Fun K "paths" "paths" s_paths f fd) (hmg : mg "paths" = some (.ref f)) (hbi : Binds K fd ["term"] []) (A_places : Av P w K mg base k "places" ["term"] true f_places) (A_paths : Av P w K mg base k "paths" ["term"] true f_paths) :
    Av P w K mg base (k + 1) "paths" ["term"] true (runF true 4 (g_paths f_places f_paths)) :=
  av_ok true Fu hmg sc_paths hbi fun cdv A outer s H E hr =>
    (dss_cons (by exact (ds_set 1 sc_paths.nd (de_lst (da_cons (DE.s (de_tup da_nil)) da_nil))))
  (by exact (dss_cons (by exact (ds_for PassesOwn.never rfl (di_enumT rfl T.b_enumerate (by exact (DE.s (by exact Av.callT A_places hr (da_cons (dv 0) da_nil))))) (dg_two rfl (dg_name 2 sc_paths.nd) (dg_name 3 sc_paths.nd)) (dss_one (ds_extend 1 (DE.s (de_comp false ["rest", "number", "."] 1 [2] (comp_sc rfl rfl (show (["rest", "number", "."] : List Str).Nodup by decide +kernel) (by intro p hp; simp only [List.mem_cons, List.not_mem_nil, or_false] at hp; rcases hp with rfl <;> rfl) rfl) rfl (di_seq (DE.s (by exact Av.callT A_paths hr (da_cons (dv 3) da_nil)))) (fun C s₂ H₂ fp => ⟨(dg_name 0 (show (["rest", "number", "."] : List Str).Nodup by decide +kernel)), dts_nil, (DE.s (de_opT op_addD od_add (DE.s (de_tup (da_cons (dv 1) da_nil))) (dv 0)))⟩)))))))
  (by exact (dss_one (ds_retV 1))))))
theorem ok__law_nowhere (T : Gm ct_MOST_LEVELS ct_MOST_PARTS K a_TooGreat a_NoPath a_NoLine a_NoName a_TooLong a_TooMany a_EndError a_NoReason a_NoPair a_NoHead a_NoPaper a_NoStep a_NoRule a_NoText mg) (Fu : Fun K "_law_nowhere" "_law_nowhere" s__law_nowhere f fd) (hmg : mg "_law_nowhere" = some (.ref f)) (hbi : Binds K fd ["_law_path_here", "_law_some", "_law_number"] []) :
    Av P w K mg base (k + 1) "_law_nowhere" ["_law_path_here", "_law_some", "_law_number"] false (runF false 6 (g__law_nowhere)) :=
  av_ok false Fu hmg sc__law_nowhere hbi fun cdv A outer s H E hr =>
    (dss_cons (by exact (ds_setS 3 sc__law_nowhere.nd (de_op (l := .s) op_mod od_mod (DE.b (dv 2)) (de_int (l := .b)))))
  (by exact (dss_cons (by exact (ds_setS 4 sc__law_nowhere.nd (de_int (l := .s))))
  (by exact (dss_cons (by exact (ds_if (dt_val (de_isi (l' := .b) "tuple" "tuple" isTy_tuple (DE.b (dv 1)) rfl T.b_isinstance rfl T.b_tuple PyProof.Rows.boot_tuple)) (dss_one (ds_setS 4 sc__law_nowhere.nd (de_op (l := .s) op_sub od_sub (de_callB (l' := .b) call_lenA cd_len rfl T.b_len PySem.boot_len (da_cons (DE.b (dv 1)) da_nil)) (de_int (l := .b))))) dss_nil))
  (by exact (dss_cons (by exact (ds_setS 5 sc__law_nowhere.nd (de_op (l := .s) op_mod od_mod (de_op (l := .b) op_fdiv od_fdiv (DE.b (dv 2)) (de_int (l := .b))) (de_op (l := .b) op_pow od_pow (de_int (l := .b)) (de_int (l := .b))))))
  (by exact (dss_cons (by exact (ds_if (dt_cmp op_lt od_lt (DE.b (dv 3)) (de_int (l := .b))) (dss_one (ds_ret (de_opT op_addE od_addE (dv 0) (DE.s (de_tup (da_cons (dv 4) da_nil)))))) dss_nil))
  (by exact (dss_cons (by exact (ds_if (dt_cmp (op_eqD (Room.u200 hr)) od_eq (DE.b (dv 3)) (de_int (l := .b))) (dss_one (ds_ret (de_opT op_addE od_addE (dv 0) (DE.s (de_tup (da_cons (by exact (de_op (l := .s) op_sub od_sub (de_neg (l' := .b) (de_int (l := .b))) (DE.b (dv 5)))) da_nil)))))) dss_nil))
  (by exact (dss_cons (by exact (ds_if (dt_cmp (op_eqD (Room.u200 hr)) od_eq (DE.b (dv 3)) (de_int (l := .b))) (dss_one (ds_ret (de_opT op_addE od_addE (dv 0) (DE.s (de_tup (da_cons (by exact (DE.s (de_opT op_addE od_addE (dv 4) (dv 5)))) (da_cons (de_int (l := .s)) da_nil))))))) dss_nil))
  (by exact (dss_cons (by exact (ds_if (dt_cmp (op_eqD (Room.u200 hr)) od_eq (DE.b (dv 3)) (de_int (l := .b))) (dss_one (ds_ret (de_opT op_addE od_addE (dv 0) (DE.s (de_tup (da_cons (by exact (de_ix (DE.s (de_lst (da_cons (de_bl (l := .s)) (da_cons (de_bl (l := .s)) (da_cons (de_non (l := .s)) (da_cons (de_str (l := .s)) (da_cons (by exact (DE.s (de_tup (da_cons (de_int (l := .s)) da_nil)))) da_nil))))))) (de_op (l := .b) op_mod od_mod (DE.b (dv 5)) (de_int (l := .b))))) da_nil)))))) dss_nil))
  (by exact (dss_cons (by exact (ds_if (dt_cmp (op_eqD (Room.u200 hr)) od_eq (DE.b (dv 3)) (de_int (l := .b))) (dss_one (ds_ret (de_callTy call_list_of cd_list rfl T.b_list boot_listG (da_cons (dv 0) da_nil)))) dss_nil))
  (by exact (dss_one (ds_retS (de_ix (DE.s (de_lst (da_cons (de_non (l := .s)) (da_cons (de_str (l := .s)) (da_cons (de_int (l := .s)) (da_cons (de_bl (l := .s)) (da_cons (de_str (l := .s)) (da_cons (DE.s de_dict0) (da_cons (by exact (de_neg (l' := .s) (de_int (l := .b)))) da_nil))))))))) (de_op (l := .b) op_mod od_mod (DE.b (dv 5)) (de_int (l := .b))))))))))))))))))))))))
theorem ok_part {f_bounded : List D → Res D} {f_part_there : List D → Res D} (T : Gm ct_MOST_LEVELS ct_MOST_PARTS K a_TooGreat a_NoPath a_NoLine a_NoName a_TooLong a_TooMany a_EndError a_NoReason a_NoPair a_NoHead a_NoPaper a_NoStep a_NoRule a_NoText mg) (Fu : Fun K "part" "part" s_part f fd) (hmg : mg "part" = some (.ref f)) (hbi : Binds K fd ["term", "path"] []) (A_bounded : AvX P w K mg base k "bounded" ["term"] false f_bounded) (A_part_there : AvX P w K mg base k "part_there" ["term", "path"] false f_part_there) :
    AvX P w K mg base (k + 1) "part" ["term", "path"] false (runX false 2 (g_part f_bounded f_part_there)) :=
  avx_ok false Fu hmg sc_part hbi fun cdv A outer s H E hr =>
    (dssx_one (dsx_retS (by exact AvX.callYS A_bounded hr (by exact AvX.callS A_part_there hr (da_cons (dv 0) (da_cons (dv 1) da_nil))))))
theorem ok__law_other (T : Gm ct_MOST_LEVELS ct_MOST_PARTS K a_TooGreat a_NoPath a_NoLine a_NoName a_TooLong a_TooMany a_EndError a_NoReason a_NoPair a_NoHead a_NoPaper a_NoStep a_NoRule a_NoText mg) (Fu : Fun K "_law_other" "_law_other" s__law_other f fd) (hmg : mg "_law_other" = some (.ref f)) (hbi : Binds K fd ["_law_error"] []) :
    Av P w K mg base (k + 1) "_law_other" ["_law_error"] true (runF true 1 (g__law_other)) :=
  av_ok true Fu hmg sc__law_other hbi fun cdv A outer s H E hr =>
    (dss_cons (by exact (ds_if (dt_val (de_isyT (l' := .b) [("TooGreat", false), ("NoPath", false)] [a_NoText, a_NoRule, a_NoStep, a_NoPaper, a_NoHead, a_NoPair, a_NoReason] T.yt_1 (DE.b (dv 0)) rfl T.b_isinstance (pe_tup (pas_cons rfl T.m_NoText (pas_cons rfl T.m_NoRule (pas_cons rfl T.m_NoStep (pas_cons rfl T.m_NoPaper (pas_cons rfl T.m_NoHead (pas_cons rfl T.m_NoPair (pas_cons rfl T.m_NoReason pas_nil)))))))) (hsz := Nat.le_trans (show 7 ≤ 20 by decide) (by decide)))) (dss_one (ds_ret (de_bl (l := .t)))) dss_nil))
  (by exact (dss_one (ds_ret (de_isyT (l' := .t) [("TooGreat", true), ("NoPath", false)] [a_TooMany, a_TooGreat, a_TooLong, a_NoName, a_NoLine] T.yt_0 (DE.b (dv 0)) rfl T.b_isinstance (pe_tup (pas_cons rfl T.m_TooMany (pas_cons rfl T.m_TooGreat (pas_cons rfl T.m_TooLong (pas_cons rfl T.m_NoName (pas_cons rfl T.m_NoLine pas_nil)))))) (hsz := Nat.le_trans (show 5 ≤ 20 by decide) (by decide)))))))
theorem ok__law_refused {f_part : List D → Res D} {f_put : List D → Res D} {f__law_other : List D → Res D} (T : Gm ct_MOST_LEVELS ct_MOST_PARTS K a_TooGreat a_NoPath a_NoLine a_NoName a_TooLong a_TooMany a_EndError a_NoReason a_NoPair a_NoHead a_NoPaper a_NoStep a_NoRule a_NoText mg) (Fu : Fun K "_law_refused" "_law_refused" s__law_refused f fd) (hmg : mg "_law_refused" = some (.ref f)) (hbi : Binds K fd ["_law_term_here", "_law_path_here", "_law_other_here", "_law_deed"] []) (A_part : AvX P w K mg base k "part" ["term", "path"] false f_part) (A_put : AvX P w K mg base k "put" ["term", "path", "other"] false f_put) (A__law_other : Av P w K mg base k "_law_other" ["_law_error"] true f__law_other) :
    Av P w K mg base (k + 1) "_law_refused" ["_law_term_here", "_law_path_here", "_law_other_here", "_law_deed"] true (runF true 6 (g__law_refused f_part f_put f__law_other)) :=
  av_ok true Fu hmg sc__law_refused hbi fun cdv A outer s H E hr =>
    (dss_cons (by exact (ds_setS 4 sc__law_refused.nd (de_non (l := .s))))
  (by exact (dss_cons (by exact (ds_try ["TooGreat", "NoPath"] 5 sc__law_refused.nd (fun E' ps => by exact (dssy_one (dsy_if (dt_cmp (op_eqD (Room.u200 hr)) od_eq (DE.b (dv 3)) (de_int (l := .b))) (dssy_one (dsy_expr (by exact AvX.callS A_part hr (da_cons (dv 0) (da_cons (dv 1) da_nil))))) (dssy_one (dsy_expr (by exact AvX.callS A_put hr (da_cons (dv 0) (da_cons (dv 1) (da_cons (dv 2) da_nil))))))))) (fun e => by exact (dss_one (ds_setS 4 sc__law_refused.nd (dv 5)))) T.m_EndError T.x_EndError))
  (by exact (dss_one (ds_ret (de_and (de_isy (l' := .b) [("TooGreat", false), ("NoPath", true)] "NoPath" T.y_NoPath (DE.b (dv 4)) rfl T.b_isinstance rfl T.m_NoPath) (de_and (de_isxB (l' := .b) ["TooGreat", "NoPath"] "ValueError" "ValueError" T.i_ValueError (DE.b (dv 4)) rfl T.b_isinstance rfl T.b_ValueError boot_ValueErrorG) (de_one (de_not (l := .t) (DE.b (by exact Av.callT A__law_other hr (da_cons (dv 4) da_nil)))))))))))))
theorem ok__law_whole (T : Gm ct_MOST_LEVELS ct_MOST_PARTS K a_TooGreat a_NoPath a_NoLine a_NoName a_TooLong a_TooMany a_EndError a_NoReason a_NoPair a_NoHead a_NoPaper a_NoStep a_NoRule a_NoText mg) (Fu : Fun K "_law_whole" "_law_whole" s__law_whole f fd) (hmg : mg "_law_whole" = some (.ref f)) (hbi : Binds K fd ["_law_thing"] []) :
    Av P w K mg base (k + 1) "_law_whole" ["_law_thing"] true (runF true 1 (g__law_whole)) :=
  av_ok true Fu hmg sc__law_whole hbi fun cdv A outer s H E hr =>
    (dss_one (ds_ret (de_and (de_isi (l' := .b) "int" "int" isTy_int (DE.b (dv 0)) rfl T.b_isinstance rfl T.b_int PyProof.Rows.boot_int) (de_one (de_not (l := .t) (de_isi (l' := .b) "bool" "bool" isTy_bool (DE.b (dv 0)) rfl T.b_isinstance rfl T.b_bool PyProof.Rows.boot_bool))))))
theorem ok__law_path {f__law_whole : List D → Res D} (T : Gm ct_MOST_LEVELS ct_MOST_PARTS K a_TooGreat a_NoPath a_NoLine a_NoName a_TooLong a_TooMany a_EndError a_NoReason a_NoPair a_NoHead a_NoPaper a_NoStep a_NoRule a_NoText mg) (Fu : Fun K "_law_path" "_law_path" s__law_path f fd) (hmg : mg "_law_path" = some (.ref f)) (hbi : Binds K fd ["_law_found"] []) (A__law_whole : Av P w K mg base k "_law_whole" ["_law_thing"] true f__law_whole) :
    Av P w K mg base (k + 1) "_law_path" ["_law_found"] true (runF true 2 (g__law_path f__law_whole)) :=
  av_ok true Fu hmg sc__law_path hbi fun cdv A outer s H E hr =>
    (dss_cons (by exact (ds_if (dt_not (dt_val (de_isi (l' := .b) "tuple" "tuple" isTy_tuple (DE.b (dv 0)) rfl T.b_isinstance rfl T.b_tuple PyProof.Rows.boot_tuple))) (dss_one (ds_ret (de_bl (l := .t)))) dss_nil))
  (by exact (dss_cons (by exact (ds_for PassesOwn.never rfl (di_seq (dv 0)) (dg_name 1 sc__law_path.nd) (dss_one (ds_if (dt_not (dt_val (DE.b (by exact Av.callT A__law_whole hr (da_cons (dv 1) da_nil))))) (dss_one (ds_ret (de_bl (l := .t)))) dss_nil))))
  (by exact (dss_one (ds_ret (de_bl (l := .t))))))))
theorem ok__law_asked {f__law_parts : List D → Res D} {f_paths : List D → Res D} {f__law_nowhere : List D → Res D} {f_part : List D → Res D} {f_put : List D → Res D} {f__law_with : List D → Res D} {f__law_refused : List D → Res D} {f__law_path : List D → Res D} (T : Gm ct_MOST_LEVELS ct_MOST_PARTS K a_TooGreat a_NoPath a_NoLine a_NoName a_TooLong a_TooMany a_EndError a_NoReason a_NoPair a_NoHead a_NoPaper a_NoStep a_NoRule a_NoText mg) (Fu : Fun K "_law_asked" "_law_asked" s__law_asked f fd) (hmg : mg "_law_asked" = some (.ref f)) (hbi : Binds K fd ["_law_term_here", "_law_other_here", "_law_number"] []) (A__law_parts : Av P w K mg base k "_law_parts" ["_law_term_here"] true f__law_parts) (A_paths : Av P w K mg base k "paths" ["term"] true f_paths) (A__law_nowhere : Av P w K mg base k "_law_nowhere" ["_law_path_here", "_law_some", "_law_number"] false f__law_nowhere) (A_part : AvX P w K mg base k "part" ["term", "path"] false f_part) (A_put : AvX P w K mg base k "put" ["term", "path", "other"] false f_put) (A__law_with : Av P w K mg base k "_law_with" ["_law_term_here", "_law_path_here", "_law_other_here"] false f__law_with) (A__law_refused : Av P w K mg base k "_law_refused" ["_law_term_here", "_law_path_here", "_law_other_here", "_law_deed"] true f__law_refused) (A__law_path : Av P w K mg base k "_law_path" ["_law_found"] true f__law_path) :
    Av P w K mg base (k + 1) "_law_asked" ["_law_term_here", "_law_other_here", "_law_number"] true (runF true 10 (g__law_asked f__law_parts f_paths f__law_nowhere f_part f_put f__law_with f__law_refused f__law_path)) :=
  av_ok true Fu hmg sc__law_asked hbi fun cdv A outer s H E hr =>
    (dss_cons (by exact (ds_setS 3 sc__law_asked.nd (DE.s (by exact Av.callT A__law_parts hr (da_cons (dv 0) da_nil)))))
  (by exact (dss_cons (by exact (ds_setS 4 sc__law_asked.nd (DE.s (by exact Av.callT A_paths hr (da_cons (dv 0) da_nil)))))
  (by exact (dss_cons (by exact (ds_if (DW.dt (dw_or (dt_not (dt_val (de_isi (l' := .b) "list" "list" isTy_list (DE.b (dv 4)) rfl T.b_isinstance rfl T.b_list boot_listG))) (dw_or1 (dt_not (dt_val (de_callB (l' := .b) (call_allB rfl) cd_all rfl T.b_all PyProof.Rows.boot_all (da_cons (by exact (DE.b (de_comp false ["_law_path_here", "."] 1 [] (comp_sc rfl rfl (show (["_law_path_here", "."] : List Str).Nodup by decide +kernel) (by intro p hp; cases hp) rfl) rfl (di_seq (dv 4)) (fun C s₂ H₂ fp => ⟨(dg_name 0 (show (["_law_path_here", "."] : List Str).Nodup by decide +kernel)), dts_nil, (DE.s (by exact Av.callT A__law_path hr (da_cons (dv 0) da_nil)))⟩)))) da_nil))))))) (dss_one (ds_ret (de_bl (l := .t)))) dss_nil))
  (by exact (dss_cons (by exact (ds_if (dt_cmp (op_neD (Room.u200 hr)) od_ne (DE.b (dv 4)) (DE.b (de_callN (call_sortedUp (Room.u200 hr)) cd_sortedUp rfl T.b_sorted boot_sortedG (da_cons (by exact (DE.s (de_comp false ["_law_path_here", "_law_some", "."] 2 [] (comp_sc rfl rfl (show (["_law_path_here", "_law_some", "."] : List Str).Nodup by decide +kernel) (by intro p hp; cases hp) rfl) rfl (di_seq (dv 3)) (fun C s₂ H₂ fp => ⟨(dg_two rfl (dg_name 0 (show (["_law_path_here", "_law_some", "."] : List Str).Nodup by decide +kernel)) (dg_name 1 (show (["_law_path_here", "_law_some", "."] : List Str).Nodup by decide +kernel))), dts_nil, (dv 0)⟩)))) da_nil)))) (dss_one (ds_ret (de_bl (l := .t)))) dss_nil))
  (by exact (dss_cons (by exact (ds_for PassesOwn.never rfl (di_seq (dv 3)) (dg_two rfl (dg_name 7 sc__law_asked.nd) (dg_name 8 sc__law_asked.nd)) (dss_cons (by exact (ds_setS 9 sc__law_asked.nd (by exact Av.call (AvX.av A_part) hr (da_cons (dv 0) (da_cons (dv 7) da_nil)))))
    (by exact (dss_one (ds_if (DW.dt (dw_or (dt_cmp (op_neD (Room.u200 hr)) od_ne (DE.b (dv 9)) (DE.b (dv 8))) (dw_or1 (dt_val (de_isi (l' := .b) "bool" "bool" isTy_bool (DE.b (dv 9)) rfl T.b_isinstance rfl T.b_bool PyProof.Rows.boot_bool))))) (dss_one (ds_ret (de_bl (l := .t)))) dss_nil))))))
  (by exact (dss_cons (by exact (ds_asg (de_ix (dv 3) (de_op (l := .b) op_mod od_mod (DE.b (dv 2)) (de_callB (l' := .b) call_lenA cd_len rfl T.b_len PySem.boot_len (da_cons (DE.b (dv 3)) da_nil)))) (dg_two rfl (dg_name 7 sc__law_asked.nd) (dg_name 8 sc__law_asked.nd))))
  (by exact (dss_cons (by exact (ds_if (dt_cmp (op_neD (Room.u200 hr)) od_ne (DE.b (by exact Av.call (AvX.av A_put) hr (da_cons (dv 0) (da_cons (dv 7) (da_cons (dv 1) da_nil))))) (DE.b (by exact Av.call A__law_with hr (da_cons (dv 0) (da_cons (dv 7) (da_cons (dv 1) da_nil)))))) (dss_one (ds_ret (de_bl (l := .t)))) dss_nil))
  (by exact (dss_cons (by exact (ds_setS 5 sc__law_asked.nd (by exact Av.call A__law_nowhere hr (da_cons (dv 7) (da_cons (dv 8) (da_cons (by exact (de_op (l := .s) op_fdiv od_fdiv (DE.b (dv 2)) (de_int (l := .b)))) da_nil))))))
  (by exact (dss_cons (by exact (ds_setS 6 sc__law_asked.nd (de_ifx (dt_val (de_isi (l' := .b) "list" "list" isTy_list (DE.b (dv 5)) rfl T.b_isinstance rfl T.b_list boot_listG)) (DE.s (de_callTy call_list_of cd_list rfl T.b_list boot_listG (da_cons (dv 5) da_nil))) (dv 5))))
  (by exact (dss_cons (by exact (ds_if (DW.dt (dw_or (dt_not (dt_val (DE.b (by exact Av.callT A__law_refused hr (da_cons (dv 0) (da_cons (dv 5) (da_cons (dv 1) (da_cons (de_int (l := .s)) da_nil)))))))) (dw_or1 (dt_not (dt_val (DE.b (by exact Av.callT A__law_refused hr (da_cons (dv 0) (da_cons (dv 5) (da_cons (dv 1) (da_cons (de_int (l := .s)) da_nil))))))))))) (dss_one (ds_ret (de_bl (l := .t)))) dss_nil))
  (by exact (dss_one (ds_ret (de_and (de_cmp (l := .b) (op_eqA (Room.u200 hr)) od_eqA (DE.b (dv 5)) (DE.b (dv 6))) (de_and (de_cmp (l := .b) (op_eqA (Room.u200 hr)) od_eqA (DE.b (by exact Av.call (AvX.av A_put) hr (da_cons (dv 0) (da_cons (DE.s (de_tup da_nil)) (da_cons (dv 1) da_nil))))) (DE.b (dv 1))) (de_one (de_cmp (l := .t) (op_eqA (Room.u200 hr)) od_eqA (DE.b (by exact Av.call (AvX.av A_part) hr (da_cons (dv 0) (da_cons (DE.s (de_tup da_nil)) da_nil)))) (DE.b (dv 0))))))))))))))))))))))))))))
theorem ok_law {f__law_great : List D → Res D} {f__law_names : List D → Res D} {f__law_too_great : List D → Res D} {f__law_cell_at : List D → Res D} {f__law_with : List D → Res D} {f__law_term : List D → Res D} {f__law_asked : List D → Res D} (T : Gm ct_MOST_LEVELS ct_MOST_PARTS K a_TooGreat a_NoPath a_NoLine a_NoName a_TooLong a_TooMany a_EndError a_NoReason a_NoPair a_NoHead a_NoPaper a_NoStep a_NoRule a_NoText mg) (Fu : Fun K "law" "law" s_law f fd) (A__law_great : Av P w K mg base k "_law_great" ["_law_cell"] true f__law_great) (A__law_names : Av P w K mg base k "_law_names" ["_law_number"] true f__law_names) (A__law_too_great : Av P w K mg base k "_law_too_great" ["_law_term_here", "_law_path_here", "_law_other_here"] false f__law_too_great) (A__law_cell_at : Av P w K mg base k "_law_cell_at" ["_law_script", "_law_k"] false f__law_cell_at) (A__law_with : Av P w K mg base k "_law_with" ["_law_term_here", "_law_path_here", "_law_other_here"] false f__law_with) (A__law_term : Av P w K mg base k "_law_term" ["_law_number", "_law_names_here", "_law_room"] true f__law_term) (A__law_asked : Av P w K mg base k "_law_asked" ["_law_term_here", "_law_other_here", "_law_number"] true f__law_asked) :
    FnOk P w K mg base CX0 (k + 1) f fd ["_law_script"] (spF K true 1 (runF true 13 (g_law f__law_great f__law_names f__law_too_great f__law_cell_at f__law_with f__law_term f__law_asked))) :=
  fn_of_body true Fu sc_law fun cdv A outer s H E hr =>
    (dss_cons (by exact (ds_setS 1 sc_law.nd (DE.s (by exact Av.callT A__law_great hr (da_cons (by exact (by exact Av.call A__law_cell_at hr (da_cons (dv 0) (da_cons (de_int (l := .s)) da_nil)))) da_nil)))))
  (by exact (dss_cons (by exact (ds_setS 2 sc_law.nd (DE.s (by exact Av.callT A__law_names hr (da_cons (dv 1) da_nil)))))
  (by exact (dss_cons (by exact (ds_for PassesOwn.never rfl (di_seq (dv 0)) (dg_name 3 sc_law.nd) (dss_cons (by exact (ds_setS 10 sc_law.nd (DE.s (by exact Av.callT A__law_great hr (da_cons (dv 3) da_nil)))))
    (by exact (dss_cons (by exact (ds_setS 11 sc_law.nd (de_ix (DE.s (by exact Av.callT A__law_term hr (da_cons (dv 10) (da_cons (dv 2) (da_cons (de_int (l := .s)) da_nil))))) (de_int (l := .b)))))
    (by exact (dss_cons (by exact (ds_setS 12 sc_law.nd (de_ix (DE.s (by exact Av.callT A__law_term hr (da_cons (by exact (DE.s (by exact Av.callT A__law_great hr (da_cons (by exact (DE.s (de_opT op_addE od_addE (dv 3) (de_int (l := .s))))) da_nil)))) (da_cons (dv 2) (da_cons (de_int (l := .s)) da_nil))))) (de_int (l := .b)))))
    (by exact (dss_one (ds_if (dt_not (dt_val (DE.b (by exact Av.callT A__law_asked hr (da_cons (dv 11) (da_cons (dv 12) (da_cons (by exact (DE.s (by exact Av.callT A__law_great hr (da_cons (by exact (DE.s (de_opT op_addE od_addE (dv 3) (de_int (l := .s))))) da_nil)))) da_nil))))))) (dss_one (ds_ret (de_bl (l := .t)))) dss_nil))))))))))
  (by exact (dss_cons (by exact (ds_setS 4 sc_law.nd (de_op (l := .s) op_mod od_mod (de_op (l := .b) op_fdiv od_fdiv (DE.b (dv 1)) (de_int (l := .b))) (de_int (l := .b)))))
  (by exact (dss_cons (by exact (ds_setS 5 sc_law.nd (DE.s (de_tup da_nil))))
  (by exact (dss_cons (by exact (ds_for PassesOwn.never rfl (di_range1 rfl T.b_range (da_cons (by exact (DE.b (de_opT op_addE od_addE (de_int (l := .s)) (de_op (l := .s) op_mod od_mod (DE.b (dv 1)) (de_int (l := .b)))))) da_nil)) (dg_name 6 sc_law.nd) (dss_cons (by exact (ds_setS 4 sc_law.nd (DE.s (de_tup (da_cons (by exact (de_ix (dv 2) (de_op (l := .b) op_mod od_mod (de_op (l := .b) op_fdiv od_fdiv (DE.b (dv 1)) (de_int (l := .b))) (de_int (l := .b))))) (da_cons (dv 4) da_nil))))))
    (by exact (dss_one (ds_setS 5 sc_law.nd (DE.s (de_opT op_addE od_addE (dv 5) (DE.s (de_tup (da_cons (de_int (l := .s)) da_nil)))))))))))
  (by exact (dss_cons (by exact (ds_setS 7 sc_law.nd (DE.s (de_tup (da_cons (by exact (de_ix (dv 2) (de_int (l := .b)))) da_nil)))))
  (by exact (dss_cons (by exact (ds_setS 8 sc_law.nd (DE.s (de_opT op_addE od_addE (de_int (l := .s)) (de_op (l := .s) op_mod od_mod (de_op (l := .b) op_fdiv od_fdiv (DE.b (dv 1)) (de_int (l := .b))) (de_int (l := .b)))))))
  (by exact (dss_cons (by exact (ds_for PassesOwn.never rfl (di_range1 rfl T.b_range (da_cons (by exact (de_op (l := .b) op_sub od_sub (DE.b (dv 8)) (de_int (l := .b)))) da_nil)) (dg_name 6 sc_law.nd) (dss_one (ds_setS 7 sc_law.nd (DE.s (de_tup (da_cons (by exact (de_ix (dv 2) (de_int (l := .b)))) (da_cons (dv 7) (da_cons (de_int (l := .s)) da_nil)))))))))
  (by exact (dss_cons (by exact (ds_setS 9 sc_law.nd (by exact Av.call A__law_too_great hr (da_cons (dv 4) (da_cons (dv 5) (da_cons (dv 7) da_nil))))))
  (by exact (dss_cons (by exact (ds_if (dt_cmp op_gt od_gt (DE.b (de_opT op_addE od_addE (de_callB (l' := .s) call_lenA cd_len rfl T.b_len PySem.boot_len (da_cons (DE.b (dv 5)) da_nil)) (dv 8))) (de_int (l := .b))) (dss_one (ds_ret (de_cmp (l := .t) op_isB od_isB (DE.b (dv 9)) (de_bl (l := .b))))) dss_nil))
  (by exact (dss_one (ds_ret (de_cmp (l := .t) (op_eqD (Room.u200 hr)) od_eq (DE.b (dv 9)) (DE.b (by exact Av.call A__law_with hr (da_cons (dv 4) (da_cons (dv 5) (da_cons (dv 7) da_nil))))))))))))))))))))))))))))))
end
end G

set_option Elab.async false
set_option linter.all false
set_option maxRecDepth 100000
set_option maxHeartbeats 4000000
namespace G
open PySem PySem.Spec L2 M
open PyProof.Rows hiding St
/-! ### the program's top -/
theorem all_mk {l : PySem.W.OpenLaw} {w : World} {K : PySem.W.Frag} {h : Heap} {mg : Str → Option Value} {fa p0 p1 p2 p3 p4 p5 p6 p7 p8 p9 p10 p11 p12 p13 p14 p15 p16 p17 p18 p19 p20 p21 p22 p23 p24 : Addr} (KX : K.In h) (G : h.Ns mainGlobals mg) (hfa : mg "law" = some (.ref fa))
    {od0 an0 od1 an1 od2 an2 od3 an3 od4 an4 od5 an5 od6 an6 od7 an7 od8 an8 od9 an9 od10 an10 od11 an11 od12 an12 od13 an13 od14 an14 od15 an15 od16 an16 od17 an17 od18 an18 od19 an19 od20 an20 od21 an21 od22 an22 od23 an23 od24 an24 : Option Addr} {sl0 sl1 sl2 sl3 sl4 sl5 sl6 sl7 sl8 sl9 sl10 sl11 sl12 sl13 sl14 sl15 sl16 sl17 sl18 sl19 sl20 sl21 sl22 sl23 sl24 : Array (Option Value)} {oc0 kV0 dc0 pm0 cd0 ct0 oc1 kV1 dc1 pm1 cd1 ct1 oc2 kV2 dc2 pm2 cd2 ct2 oc3 kV3 dc3 pm3 cd3 ct3 oc4 kV4 dc4 pm4 cd4 ct4 oc5 kV5 dc5 pm5 cd5 ct5 oc6 kV6 dc6 pm6 cd6 ct6 oc7 kV7 dc7 pm7 cd7 ct7 oc8 kV8 dc8 pm8 cd8 ct8 oc9 kV9 dc9 pm9 cd9 ct9 oc10 kV10 dc10 pm10 cd10 ct10 oc11 kV11 dc11 pm11 cd11 ct11 oc12 kV12 dc12 pm12 cd12 ct12 oc13 kV13 dc13 pm13 cd13 ct13 oc14 kV14 dc14 pm14 cd14 ct14 oc15 kV15 dc15 pm15 cd15 ct15 oc16 kV16 dc16 pm16 cd16 ct16 oc17 kV17 dc17 pm17 cd17 ct17 oc18 kV18 dc18 pm18 cd18 ct18 oc19 kV19 dc19 pm19 cd19 ct19 oc20 kV20 dc20 pm20 cd20 ct20 oc21 kV21 dc21 pm21 cd21 ct21 oc22 kV22 dc22 pm22 cd22 ct22 oc23 kV23 dc23 pm23 cd23 ct23 oc24 kV24 dc24 pm24 cd24 ct24 : Value} {ct_MOST_LEVELS ct_MOST_PARTS : Tok} {a_TooGreat a_NoPath a_NoLine a_NoName a_TooLong a_TooMany a_EndError a_NoReason a_NoPair a_NoHead a_NoPaper a_NoStep a_NoRule a_NoText : Addr}
    (a0 : PySem.W.nsIn K mainGlobals "_law_great" = some (some (.ref p0))) (l0 : K.lookup p0 = some ⟨oc0, od0, .func (PySem.W.fnOf "_law_great" "_law_great" (defArgs s__law_great) (defBody s__law_great) (defScope s__law_great) .none kV0 dc0 pm0 an0 cd0 ct0), sl0⟩) (c0 : PySem.W.codeIn K cd0 "_law_great" = true) (k0 : PySem.W.keepIn K (.ref p0) = true)
    (a1 : PySem.W.nsIn K mainGlobals "_law_names" = some (some (.ref p1))) (l1 : K.lookup p1 = some ⟨oc1, od1, .func (PySem.W.fnOf "_law_names" "_law_names" (defArgs s__law_names) (defBody s__law_names) (defScope s__law_names) .none kV1 dc1 pm1 an1 cd1 ct1), sl1⟩) (c1 : PySem.W.codeIn K cd1 "_law_names" = true) (k1 : PySem.W.keepIn K (.ref p1) = true)
    (a2 : PySem.W.nsIn K mainGlobals "places" = some (some (.ref p2))) (l2 : K.lookup p2 = some ⟨oc2, od2, .func (PySem.W.fnOf "places" "places" (defArgs s_places) (defBody s_places) (defScope s_places) .none kV2 dc2 pm2 an2 cd2 ct2), sl2⟩) (c2 : PySem.W.codeIn K cd2 "places" = true) (k2 : PySem.W.keepIn K (.ref p2) = true)
    (a3 : PySem.W.nsIn K mainGlobals "is_whole" = some (some (.ref p3))) (l3 : K.lookup p3 = some ⟨oc3, od3, .func (PySem.W.fnOf "is_whole" "is_whole" (defArgs s_is_whole) (defBody s_is_whole) (defScope s_is_whole) .none kV3 dc3 pm3 an3 cd3 ct3), sl3⟩) (c3 : PySem.W.codeIn K cd3 "is_whole" = true) (k3 : PySem.W.keepIn K (.ref p3) = true)
    (a4 : PySem.W.nsIn K mainGlobals "place_there" = some (some (.ref p4))) (l4 : K.lookup p4 = some ⟨oc4, od4, .func (PySem.W.fnOf "place_there" "place_there" (defArgs s_place_there) (defBody s_place_there) (defScope s_place_there) .none kV4 dc4 pm4 an4 cd4 ct4), sl4⟩) (c4 : PySem.W.codeIn K cd4 "place_there" = true) (k4 : PySem.W.keepIn K (.ref p4) = true)
    (a5 : PySem.W.nsIn K mainGlobals "part_there" = some (some (.ref p5))) (l5 : K.lookup p5 = some ⟨oc5, od5, .func (PySem.W.fnOf "part_there" "part_there" (defArgs s_part_there) (defBody s_part_there) (defScope s_part_there) .none kV5 dc5 pm5 an5 cd5 ct5), sl5⟩) (c5 : PySem.W.codeIn K cd5 "part_there" = true) (k5 : PySem.W.keepIn K (.ref p5) = true)
    (a6 : PySem.W.nsIn K mainGlobals "level_below" = some (some (.ref p6))) (l6 : K.lookup p6 = some ⟨oc6, od6, .func (PySem.W.fnOf "level_below" "level_below" (defArgs s_level_below) (defBody s_level_below) (defScope s_level_below) .none kV6 dc6 pm6 an6 cd6 ct6), sl6⟩) (c6 : PySem.W.codeIn K cd6 "level_below" = true) (k6 : PySem.W.keepIn K (.ref p6) = true)
    (a7 : PySem.W.nsIn K mainGlobals "is_great" = some (some (.ref p7))) (l7 : K.lookup p7 = some ⟨oc7, od7, .func (PySem.W.fnOf "is_great" "is_great" (defArgs s_is_great) (defBody s_is_great) (defScope s_is_great) .none kV7 dc7 pm7 an7 cd7 ct7), sl7⟩) (c7 : PySem.W.codeIn K cd7 "is_great" = true) (k7 : PySem.W.keepIn K (.ref p7) = true)
    (a8 : PySem.W.nsIn K mainGlobals "bounded" = some (some (.ref p8))) (l8 : K.lookup p8 = some ⟨oc8, od8, .func (PySem.W.fnOf "bounded" "bounded" (defArgs s_bounded) (defBody s_bounded) (defScope s_bounded) .none kV8 dc8 pm8 an8 cd8 ct8), sl8⟩) (c8 : PySem.W.codeIn K cd8 "bounded" = true) (k8 : PySem.W.keepIn K (.ref p8) = true)
    (a9 : PySem.W.nsIn K mainGlobals "put_there" = some (some (.ref p9))) (l9 : K.lookup p9 = some ⟨oc9, od9, .func (PySem.W.fnOf "put_there" "put_there" (defArgs s_put_there) (defBody s_put_there) (defScope s_put_there) .none kV9 dc9 pm9 an9 cd9 ct9), sl9⟩) (c9 : PySem.W.codeIn K cd9 "put_there" = true) (k9 : PySem.W.keepIn K (.ref p9) = true)
    (a10 : PySem.W.nsIn K mainGlobals "put" = some (some (.ref p10))) (l10 : K.lookup p10 = some ⟨oc10, od10, .func (PySem.W.fnOf "put" "put" (defArgs s_put) (defBody s_put) (defScope s_put) .none kV10 dc10 pm10 an10 cd10 ct10), sl10⟩) (c10 : PySem.W.codeIn K cd10 "put" = true) (k10 : PySem.W.keepIn K (.ref p10) = true)
    (a11 : PySem.W.nsIn K mainGlobals "_law_too_great" = some (some (.ref p11))) (l11 : K.lookup p11 = some ⟨oc11, od11, .func (PySem.W.fnOf "_law_too_great" "_law_too_great" (defArgs s__law_too_great) (defBody s__law_too_great) (defScope s__law_too_great) .none kV11 dc11 pm11 an11 cd11 ct11), sl11⟩) (c11 : PySem.W.codeIn K cd11 "_law_too_great" = true) (k11 : PySem.W.keepIn K (.ref p11) = true)
    (a12 : PySem.W.nsIn K mainGlobals "_law_cell_at" = some (some (.ref p12))) (l12 : K.lookup p12 = some ⟨oc12, od12, .func (PySem.W.fnOf "_law_cell_at" "_law_cell_at" (defArgs s__law_cell_at) (defBody s__law_cell_at) (defScope s__law_cell_at) .none kV12 dc12 pm12 an12 cd12 ct12), sl12⟩) (c12 : PySem.W.codeIn K cd12 "_law_cell_at" = true) (k12 : PySem.W.keepIn K (.ref p12) = true)
    (a13 : PySem.W.nsIn K mainGlobals "_law_with" = some (some (.ref p13))) (l13 : K.lookup p13 = some ⟨oc13, od13, .func (PySem.W.fnOf "_law_with" "_law_with" (defArgs s__law_with) (defBody s__law_with) (defScope s__law_with) .none kV13 dc13 pm13 an13 cd13 ct13), sl13⟩) (c13 : PySem.W.codeIn K cd13 "_law_with" = true) (k13 : PySem.W.keepIn K (.ref p13) = true)
    (a14 : PySem.W.nsIn K mainGlobals "_law_term" = some (some (.ref p14))) (l14 : K.lookup p14 = some ⟨oc14, od14, .func (PySem.W.fnOf "_law_term" "_law_term" (defArgs s__law_term) (defBody s__law_term) (defScope s__law_term) .none kV14 dc14 pm14 an14 cd14 ct14), sl14⟩) (c14 : PySem.W.codeIn K cd14 "_law_term" = true) (k14 : PySem.W.keepIn K (.ref p14) = true)
    (a15 : PySem.W.nsIn K mainGlobals "_law_parts" = some (some (.ref p15))) (l15 : K.lookup p15 = some ⟨oc15, od15, .func (PySem.W.fnOf "_law_parts" "_law_parts" (defArgs s__law_parts) (defBody s__law_parts) (defScope s__law_parts) .none kV15 dc15 pm15 an15 cd15 ct15), sl15⟩) (c15 : PySem.W.codeIn K cd15 "_law_parts" = true) (k15 : PySem.W.keepIn K (.ref p15) = true)
    (a16 : PySem.W.nsIn K mainGlobals "paths" = some (some (.ref p16))) (l16 : K.lookup p16 = some ⟨oc16, od16, .func (PySem.W.fnOf "paths" "paths" (defArgs s_paths) (defBody s_paths) (defScope s_paths) .none kV16 dc16 pm16 an16 cd16 ct16), sl16⟩) (c16 : PySem.W.codeIn K cd16 "paths" = true) (k16 : PySem.W.keepIn K (.ref p16) = true)
    (a17 : PySem.W.nsIn K mainGlobals "_law_nowhere" = some (some (.ref p17))) (l17 : K.lookup p17 = some ⟨oc17, od17, .func (PySem.W.fnOf "_law_nowhere" "_law_nowhere" (defArgs s__law_nowhere) (defBody s__law_nowhere) (defScope s__law_nowhere) .none kV17 dc17 pm17 an17 cd17 ct17), sl17⟩) (c17 : PySem.W.codeIn K cd17 "_law_nowhere" = true) (k17 : PySem.W.keepIn K (.ref p17) = true)
    (a18 : PySem.W.nsIn K mainGlobals "part" = some (some (.ref p18))) (l18 : K.lookup p18 = some ⟨oc18, od18, .func (PySem.W.fnOf "part" "part" (defArgs s_part) (defBody s_part) (defScope s_part) .none kV18 dc18 pm18 an18 cd18 ct18), sl18⟩) (c18 : PySem.W.codeIn K cd18 "part" = true) (k18 : PySem.W.keepIn K (.ref p18) = true)
    (a19 : PySem.W.nsIn K mainGlobals "_law_other" = some (some (.ref p19))) (l19 : K.lookup p19 = some ⟨oc19, od19, .func (PySem.W.fnOf "_law_other" "_law_other" (defArgs s__law_other) (defBody s__law_other) (defScope s__law_other) .none kV19 dc19 pm19 an19 cd19 ct19), sl19⟩) (c19 : PySem.W.codeIn K cd19 "_law_other" = true) (k19 : PySem.W.keepIn K (.ref p19) = true)
    (a20 : PySem.W.nsIn K mainGlobals "_law_refused" = some (some (.ref p20))) (l20 : K.lookup p20 = some ⟨oc20, od20, .func (PySem.W.fnOf "_law_refused" "_law_refused" (defArgs s__law_refused) (defBody s__law_refused) (defScope s__law_refused) .none kV20 dc20 pm20 an20 cd20 ct20), sl20⟩) (c20 : PySem.W.codeIn K cd20 "_law_refused" = true) (k20 : PySem.W.keepIn K (.ref p20) = true)
    (a21 : PySem.W.nsIn K mainGlobals "_law_whole" = some (some (.ref p21))) (l21 : K.lookup p21 = some ⟨oc21, od21, .func (PySem.W.fnOf "_law_whole" "_law_whole" (defArgs s__law_whole) (defBody s__law_whole) (defScope s__law_whole) .none kV21 dc21 pm21 an21 cd21 ct21), sl21⟩) (c21 : PySem.W.codeIn K cd21 "_law_whole" = true) (k21 : PySem.W.keepIn K (.ref p21) = true)
    (a22 : PySem.W.nsIn K mainGlobals "_law_path" = some (some (.ref p22))) (l22 : K.lookup p22 = some ⟨oc22, od22, .func (PySem.W.fnOf "_law_path" "_law_path" (defArgs s__law_path) (defBody s__law_path) (defScope s__law_path) .none kV22 dc22 pm22 an22 cd22 ct22), sl22⟩) (c22 : PySem.W.codeIn K cd22 "_law_path" = true) (k22 : PySem.W.keepIn K (.ref p22) = true)
    (a23 : PySem.W.nsIn K mainGlobals "_law_asked" = some (some (.ref p23))) (l23 : K.lookup p23 = some ⟨oc23, od23, .func (PySem.W.fnOf "_law_asked" "_law_asked" (defArgs s__law_asked) (defBody s__law_asked) (defScope s__law_asked) .none kV23 dc23 pm23 an23 cd23 ct23), sl23⟩) (c23 : PySem.W.codeIn K cd23 "_law_asked" = true) (k23 : PySem.W.keepIn K (.ref p23) = true)
    (a24 : PySem.W.nsIn K mainGlobals "law" = some (some (.ref p24))) (l24 : K.lookup p24 = some ⟨oc24, od24, .func (PySem.W.fnOf "law" "law" (defArgs s_law) (defBody s_law) (defScope s_law) .none kV24 dc24 pm24 an24 cd24 ct24), sl24⟩) (c24 : PySem.W.codeIn K cd24 "law" = true) (k24 : PySem.W.keepIn K (.ref p24) = true)
    (z0 : PySem.W.nsIn K mainGlobals "isinstance" = some none)
    (z1 : PySem.W.nsIn K mainGlobals "bool" = some none)
    (z2 : PySem.W.nsIn K mainGlobals "int" = some none)
    (z3 : PySem.W.nsIn K mainGlobals "tuple" = some none)
    (z4 : PySem.W.nsIn K mainGlobals "list" = some none)
    (z5 : PySem.W.nsIn K mainGlobals "ValueError" = some none)
    (z6 : PySem.W.nsIn K mainGlobals "range" = some none)
    (z7 : PySem.W.nsIn K mainGlobals "len" = some none)
    (z8 : PySem.W.nsIn K mainGlobals "enumerate" = some none)
    (z9 : PySem.W.nsIn K mainGlobals "sorted" = some none)
    (z10 : PySem.W.nsIn K mainGlobals "all" = some none)
    (y_MOST_LEVELS : PySem.W.nsIn K mainGlobals "MOST_LEVELS" = some (some (.int 60 ct_MOST_LEVELS)))
    (y_MOST_PARTS : PySem.W.nsIn K mainGlobals "MOST_PARTS" = some (some (.int 1000 ct_MOST_PARTS)))
    (e_TooGreat : PySem.W.nsIn K mainGlobals "TooGreat" = some (some (.ref a_TooGreat)))
    (e_NoPath : PySem.W.nsIn K mainGlobals "NoPath" = some (some (.ref a_NoPath)))
    (e_NoLine : PySem.W.nsIn K mainGlobals "NoLine" = some (some (.ref a_NoLine)))
    (e_NoName : PySem.W.nsIn K mainGlobals "NoName" = some (some (.ref a_NoName)))
    (e_TooLong : PySem.W.nsIn K mainGlobals "TooLong" = some (some (.ref a_TooLong)))
    (e_TooMany : PySem.W.nsIn K mainGlobals "TooMany" = some (some (.ref a_TooMany)))
    (e_EndError : PySem.W.nsIn K mainGlobals "EndError" = some (some (.ref a_EndError)))
    (e_NoReason : PySem.W.nsIn K mainGlobals "NoReason" = some (some (.ref a_NoReason)))
    (e_NoPair : PySem.W.nsIn K mainGlobals "NoPair" = some (some (.ref a_NoPair)))
    (e_NoHead : PySem.W.nsIn K mainGlobals "NoHead" = some (some (.ref a_NoHead)))
    (e_NoPaper : PySem.W.nsIn K mainGlobals "NoPaper" = some (some (.ref a_NoPaper)))
    (e_NoStep : PySem.W.nsIn K mainGlobals "NoStep" = some (some (.ref a_NoStep)))
    (e_NoRule : PySem.W.nsIn K mainGlobals "NoRule" = some (some (.ref a_NoRule)))
    (e_NoText : PySem.W.nsIn K mainGlobals "NoText" = some (some (.ref a_NoText)))
    (q_TooGreat : PySem.W.excIn K a_TooGreat [.type "ValueError", .type "Exception", .type "BaseException", .type "object"] "ValueError.__new__" = true)
    (q_NoPath : PySem.W.excIn K a_NoPath [.type "ValueError", .type "Exception", .type "BaseException", .type "object"] "ValueError.__new__" = true)
    (x_TooGreat_TooGreat : PySem.W.exmOne K (.ref a_TooGreat) (.ref a_TooGreat) = some true)
    (x_EndError_TooGreat : PySem.W.exmOne K (.ref a_TooGreat) (.ref a_EndError) = some true)
    (x_EndError_NoPath : PySem.W.exmOne K (.ref a_NoPath) (.ref a_EndError) = some true)
    (i_ValueError_TooGreat : PySem.W.kitOne K (.ref a_TooGreat) (.type "ValueError") = some true)
    (i_ValueError_NoPath : PySem.W.kitOne K (.ref a_NoPath) (.type "ValueError") = some true)
    (w_TooGreat : ExcC K a_TooGreat)
    (w_NoPath : ExcC K a_NoPath)
    (y_NoPath_TooGreat : PySem.W.kitOne K (.ref a_TooGreat) (.ref a_NoPath) = some false)
    (y_NoPath_NoPath : PySem.W.kitOne K (.ref a_NoPath) (.ref a_NoPath) = some true)
    (y_EndError_TooGreat : PySem.W.kitOne K (.ref a_TooGreat) (.ref a_EndError) = some true)
    (y_EndError_NoPath : PySem.W.kitOne K (.ref a_NoPath) (.ref a_EndError) = some true)
    (yt_0_TooGreat : PySem.W.kitAny K (.ref a_TooGreat) (List.map Value.ref [a_TooMany, a_TooGreat, a_TooLong, a_NoName, a_NoLine]) = some true)
    (yt_0_NoPath : PySem.W.kitAny K (.ref a_NoPath) (List.map Value.ref [a_TooMany, a_TooGreat, a_TooLong, a_NoName, a_NoLine]) = some false)
    (yt_1_TooGreat : PySem.W.kitAny K (.ref a_TooGreat) (List.map Value.ref [a_NoText, a_NoRule, a_NoStep, a_NoPaper, a_NoHead, a_NoPair, a_NoReason]) = some false)
    (yt_1_NoPath : PySem.W.kitAny K (.ref a_NoPath) (List.map Value.ref [a_NoText, a_NoRule, a_NoStep, a_NoPaper, a_NoHead, a_NoPair, a_NoReason]) = some false)
    : ∃ fd : FuncData, (∀ (s : Shared) (v : Value), BindsTo s fd ⟨[v], []⟩ [("_law_script", v)]) ∧ ∀ base : Heap, K.In base → base.Ns mainGlobals mg → FnOk l.prog w K mg base CX0 101 fa fd ["_law_script"] (spF K true 1 F_law) := by
  have e := hfa.symm.trans (PySem.W.mg_of KX G a24)
  cases e
  have T : Gm ct_MOST_LEVELS ct_MOST_PARTS K a_TooGreat a_NoPath a_NoLine a_NoName a_TooLong a_TooMany a_EndError a_NoReason a_NoPair a_NoHead a_NoPaper a_NoStep a_NoRule a_NoText mg := ⟨PySem.W.mg_none_of KX G z0, PySem.W.mg_none_of KX G z1, PySem.W.mg_none_of KX G z2, PySem.W.mg_none_of KX G z3, PySem.W.mg_none_of KX G z4, PySem.W.mg_none_of KX G z5, PySem.W.mg_none_of KX G z6, PySem.W.mg_none_of KX G z7, PySem.W.mg_none_of KX G z8, PySem.W.mg_none_of KX G z9, PySem.W.mg_none_of KX G z10, PySem.W.mg_of KX G y_MOST_LEVELS, PySem.W.mg_of KX G y_MOST_PARTS, PySem.W.mg_of KX G e_TooGreat, PySem.W.mg_of KX G e_NoPath, PySem.W.mg_of KX G e_NoLine, PySem.W.mg_of KX G e_NoName, PySem.W.mg_of KX G e_TooLong, PySem.W.mg_of KX G e_TooMany, PySem.W.mg_of KX G e_EndError, PySem.W.mg_of KX G e_NoReason, PySem.W.mg_of KX G e_NoPair, PySem.W.mg_of KX G e_NoHead, PySem.W.mg_of KX G e_NoPaper, PySem.W.mg_of KX G e_NoStep, PySem.W.mg_of KX G e_NoRule, PySem.W.mg_of KX G e_NoText, e_TooGreat, q_TooGreat, e_NoPath, q_NoPath, (fun c hc C hC => by
      simp only [List.contains_cons, List.contains_nil, Bool.or_false, beq_iff_eq, Bool.or_eq_true] at hc
      rcases hc with rfl
      · have e := hC.symm.trans e_TooGreat
        cases e
        exact x_TooGreat_TooGreat), (fun c hc C hC => by
      simp only [List.contains_cons, List.contains_nil, Bool.or_false, beq_iff_eq, Bool.or_eq_true] at hc
      rcases hc with rfl | rfl
      · have e := hC.symm.trans e_TooGreat
        cases e
        exact x_EndError_TooGreat
      · have e := hC.symm.trans e_NoPath
        cases e
        exact x_EndError_NoPath), (fun c hc C hC => by
      simp only [List.contains_cons, List.contains_nil, Bool.or_false, beq_iff_eq, Bool.or_eq_true] at hc
      rcases hc with rfl | rfl
      · have e := hC.symm.trans e_TooGreat
        cases e
        exact i_ValueError_TooGreat
      · have e := hC.symm.trans e_NoPath
        cases e
        exact i_ValueError_NoPath), (fun c b hc C hC => by
      by_cases h_TooGreat : c = "TooGreat"
      · subst h_TooGreat; rw [lookup_hd] at hc; cases hc; have e := hC.symm.trans e_TooGreat; cases e; exact ⟨w_TooGreat, y_NoPath_TooGreat⟩
      rw [lookup_tl h_TooGreat] at hc
      by_cases h_NoPath : c = "NoPath"
      · subst h_NoPath; rw [lookup_hd] at hc; cases hc; have e := hC.symm.trans e_NoPath; cases e; exact ⟨w_NoPath, y_NoPath_NoPath⟩
      rw [lookup_tl h_NoPath] at hc
      cases hc), (fun c b hc C hC => by
      by_cases h_TooGreat : c = "TooGreat"
      · subst h_TooGreat; rw [lookup_hd] at hc; cases hc; have e := hC.symm.trans e_TooGreat; cases e; exact ⟨w_TooGreat, y_EndError_TooGreat⟩
      rw [lookup_tl h_TooGreat] at hc
      by_cases h_NoPath : c = "NoPath"
      · subst h_NoPath; rw [lookup_hd] at hc; cases hc; have e := hC.symm.trans e_NoPath; cases e; exact ⟨w_NoPath, y_EndError_NoPath⟩
      rw [lookup_tl h_NoPath] at hc
      cases hc), (fun c b hc C hC => by
      by_cases h_TooGreat : c = "TooGreat"
      · subst h_TooGreat; rw [lookup_hd] at hc; cases hc; have e := hC.symm.trans e_TooGreat; cases e; exact ⟨w_TooGreat, yt_0_TooGreat⟩
      rw [lookup_tl h_TooGreat] at hc
      by_cases h_NoPath : c = "NoPath"
      · subst h_NoPath; rw [lookup_hd] at hc; cases hc; have e := hC.symm.trans e_NoPath; cases e; exact ⟨w_NoPath, yt_0_NoPath⟩
      rw [lookup_tl h_NoPath] at hc
      cases hc), (fun c b hc C hC => by
      by_cases h_TooGreat : c = "TooGreat"
      · subst h_TooGreat; rw [lookup_hd] at hc; cases hc; have e := hC.symm.trans e_TooGreat; cases e; exact ⟨w_TooGreat, yt_1_TooGreat⟩
      rw [lookup_tl h_TooGreat] at hc
      by_cases h_NoPath : c = "NoPath"
      · subst h_NoPath; rw [lookup_hd] at hc; cases hc; have e := hC.symm.trans e_NoPath; cases e; exact ⟨w_NoPath, yt_1_NoPath⟩
      rw [lookup_tl h_NoPath] at hc
      cases hc)⟩
  have U0 := fun_mk (st := s__law_great) l0 c0 k0
  have b0 := U0.binds (ps := ["_law_cell"]) fun _ _ _ _ _ _ us hl => match us, hl with | [_], _ => rfl
  have U1 := fun_mk (st := s__law_names) l1 c1 k1
  have b1 := U1.binds (ps := ["_law_number"]) fun _ _ _ _ _ _ us hl => match us, hl with | [_], _ => rfl
  have U2 := fun_mk (st := s_places) l2 c2 k2
  have b2 := U2.binds (ps := ["term"]) fun _ _ _ _ _ _ us hl => match us, hl with | [_], _ => rfl
  have U3 := fun_mk (st := s_is_whole) l3 c3 k3
  have b3 := U3.binds (ps := ["thing"]) fun _ _ _ _ _ _ us hl => match us, hl with | [_], _ => rfl
  have U4 := fun_mk (st := s_place_there) l4 c4 k4
  have b4 := U4.binds (ps := ["term", "number"]) fun _ _ _ _ _ _ us hl => match us, hl with | [_, _], _ => rfl
  have U5 := fun_mk (st := s_part_there) l5 c5 k5
  have b5 := U5.binds (ps := ["term", "path"]) fun _ _ _ _ _ _ us hl => match us, hl with | [_, _], _ => rfl
  have U6 := fun_mk (st := s_level_below) l6 c6 k6
  have b6 := U6.binds (ps := ["row"]) fun _ _ _ _ _ _ us hl => match us, hl with | [_], _ => rfl
  have U7 := fun_mk (st := s_is_great) l7 c7 k7
  have b7 := U7.binds (ps := ["thing"]) fun _ _ _ _ _ _ us hl => match us, hl with | [_], _ => rfl
  have U8 := fun_mk (st := s_bounded) l8 c8 k8
  have b8 := U8.binds (ps := ["term"]) fun _ _ _ _ _ _ us hl => match us, hl with | [_], _ => rfl
  have U9 := fun_mk (st := s_put_there) l9 c9 k9
  have b9 := U9.binds (ps := ["term", "path", "other"]) fun _ _ _ _ _ _ us hl => match us, hl with | [_, _, _], _ => rfl
  have U10 := fun_mk (st := s_put) l10 c10 k10
  have b10 := U10.binds (ps := ["term", "path", "other"]) fun _ _ _ _ _ _ us hl => match us, hl with | [_, _, _], _ => rfl
  have U11 := fun_mk (st := s__law_too_great) l11 c11 k11
  have b11 := U11.binds (ps := ["_law_term_here", "_law_path_here", "_law_other_here"]) fun _ _ _ _ _ _ us hl => match us, hl with | [_, _, _], _ => rfl
  have U12 := fun_mk (st := s__law_cell_at) l12 c12 k12
  have b12 := U12.binds (ps := ["_law_script", "_law_k"]) fun _ _ _ _ _ _ us hl => match us, hl with | [_, _], _ => rfl
  have U13 := fun_mk (st := s__law_with) l13 c13 k13
  have b13 := U13.binds (ps := ["_law_term_here", "_law_path_here", "_law_other_here"]) fun _ _ _ _ _ _ us hl => match us, hl with | [_, _, _], _ => rfl
  have U14 := fun_mk (st := s__law_term) l14 c14 k14
  have b14 := U14.binds (ps := ["_law_number", "_law_names_here", "_law_room"]) fun _ _ _ _ _ _ us hl => match us, hl with | [_, _, _], _ => rfl
  have U15 := fun_mk (st := s__law_parts) l15 c15 k15
  have b15 := U15.binds (ps := ["_law_term_here"]) fun _ _ _ _ _ _ us hl => match us, hl with | [_], _ => rfl
  have U16 := fun_mk (st := s_paths) l16 c16 k16
  have b16 := U16.binds (ps := ["term"]) fun _ _ _ _ _ _ us hl => match us, hl with | [_], _ => rfl
  have U17 := fun_mk (st := s__law_nowhere) l17 c17 k17
  have b17 := U17.binds (ps := ["_law_path_here", "_law_some", "_law_number"]) fun _ _ _ _ _ _ us hl => match us, hl with | [_, _, _], _ => rfl
  have U18 := fun_mk (st := s_part) l18 c18 k18
  have b18 := U18.binds (ps := ["term", "path"]) fun _ _ _ _ _ _ us hl => match us, hl with | [_, _], _ => rfl
  have U19 := fun_mk (st := s__law_other) l19 c19 k19
  have b19 := U19.binds (ps := ["_law_error"]) fun _ _ _ _ _ _ us hl => match us, hl with | [_], _ => rfl
  have U20 := fun_mk (st := s__law_refused) l20 c20 k20
  have b20 := U20.binds (ps := ["_law_term_here", "_law_path_here", "_law_other_here", "_law_deed"]) fun _ _ _ _ _ _ us hl => match us, hl with | [_, _, _, _], _ => rfl
  have U21 := fun_mk (st := s__law_whole) l21 c21 k21
  have b21 := U21.binds (ps := ["_law_thing"]) fun _ _ _ _ _ _ us hl => match us, hl with | [_], _ => rfl
  have U22 := fun_mk (st := s__law_path) l22 c22 k22
  have b22 := U22.binds (ps := ["_law_found"]) fun _ _ _ _ _ _ us hl => match us, hl with | [_], _ => rfl
  have U23 := fun_mk (st := s__law_asked) l23 c23 k23
  have b23 := U23.binds (ps := ["_law_term_here", "_law_other_here", "_law_number"]) fun _ _ _ _ _ _ us hl => match us, hl with | [_, _, _], _ => rfl
  have U24 := fun_mk (st := s_law) l24 c24 k24
  have b24 := U24.binds (ps := ["_law_script"]) fun _ _ _ _ _ _ us hl => match us, hl with | [_], _ => rfl
  refine ⟨PySem.W.fnOf "law" "law" (defArgs s_law) (defBody s_law) (defScope s_law) .none kV24 dc24 pm24 an24 cd24 ct24, fun s v => .of_eq rfl, fun base _ _ => ?_⟩
  have V0 : Av l.prog w K mg base 1 "_law_great" ["_law_cell"] true F__law_great := ok__law_great (k := 0) T U0 (PySem.W.mg_of KX G a0) b0 
  have V1 : Av l.prog w K mg base 1 "_law_names" ["_law_number"] true F__law_names := ok__law_names (k := 0) T U1 (PySem.W.mg_of KX G a1) b1 
  have V2 : Av l.prog w K mg base 1 "places" ["term"] true F_places := ok_places (k := 0) T U2 (PySem.W.mg_of KX G a2) b2 
  have V3 : Av l.prog w K mg base 1 "is_whole" ["thing"] true F_is_whole := ok_is_whole (k := 0) T U3 (PySem.W.mg_of KX G a3) b3 
  have V4 : AvX l.prog w K mg base 2 "place_there" ["term", "number"] false F_place_there := ok_place_there (k := 1) T U4 (PySem.W.mg_of KX G a4) b4 (V2.mono (by decide)) (V3.mono (by decide))
  have V5 : AvX l.prog w K mg base 3 "part_there" ["term", "path"] false F_part_there := ok_part_there (k := 2) T U5 (PySem.W.mg_of KX G a5) b5 (V4.mono (by decide))
  have V6 : Av l.prog w K mg base 2 "level_below" ["row"] true F_level_below := ok_level_below (k := 1) T U6 (PySem.W.mg_of KX G a6) b6 (V2.mono (by decide))
  have V7 : Av l.prog w K mg base 3 "is_great" ["thing"] true F_is_great := ok_is_great (k := 2) T U7 (PySem.W.mg_of KX G a7) b7 (V6.mono (by decide))
  have V8 : AvX l.prog w K mg base 4 "bounded" ["term"] false F_bounded := ok_bounded (k := 3) T U8 (PySem.W.mg_of KX G a8) b8 (V7.mono (by decide))
  have V9 : ∀ n, Av l.prog w K mg base (0 + n) "put_there" ["term", "path", "other"] false (F_put_there n) := by
    intro n
    induction n with
    | zero => exact av_zero false U9 (PySem.W.mg_of KX G a9) b9
    | succ n ih => exact ok_put_there (k := 0 + n) T U9 (PySem.W.mg_of KX G a9) b9 ih
  have V10 : AvX l.prog w K mg base 65 "put" ["term", "path", "other"] false F_put := ok_put (k := 64) T U10 (PySem.W.mg_of KX G a10) b10 (V5.mono (by decide)) (V8.mono (by decide)) ((V9 64).mono (by decide))
  have V11 : Av l.prog w K mg base 66 "_law_too_great" ["_law_term_here", "_law_path_here", "_law_other_here"] false F__law_too_great := ok__law_too_great (k := 65) T U11 (PySem.W.mg_of KX G a11) b11 (V10.mono (by decide))
  have V12 : Av l.prog w K mg base 1 "_law_cell_at" ["_law_script", "_law_k"] false F__law_cell_at := ok__law_cell_at (k := 0) T U12 (PySem.W.mg_of KX G a12) b12 
  have V13 : ∀ n, Av l.prog w K mg base (0 + n) "_law_with" ["_law_term_here", "_law_path_here", "_law_other_here"] false (F__law_with n) := by
    intro n
    induction n with
    | zero => exact av_zero false U13 (PySem.W.mg_of KX G a13) b13
    | succ n ih => exact ok__law_with (k := 0 + n) T U13 (PySem.W.mg_of KX G a13) b13 ih
  have V14 : ∀ n, Av l.prog w K mg base (0 + n) "_law_term" ["_law_number", "_law_names_here", "_law_room"] true (F__law_term n) := by
    intro n
    induction n with
    | zero => exact av_zero true U14 (PySem.W.mg_of KX G a14) b14
    | succ n ih => exact ok__law_term (k := 0 + n) T U14 (PySem.W.mg_of KX G a14) b14 ih
  have V15 : ∀ n, Av l.prog w K mg base (0 + n) "_law_parts" ["_law_term_here"] true (F__law_parts n) := by
    intro n
    induction n with
    | zero => exact av_zero true U15 (PySem.W.mg_of KX G a15) b15
    | succ n ih => exact ok__law_parts (k := 0 + n) T U15 (PySem.W.mg_of KX G a15) b15 ih
  have V16 : ∀ n, Av l.prog w K mg base (1 + n) "paths" ["term"] true (F_paths n) := by
    intro n
    induction n with
    | zero => exact av_zero true U16 (PySem.W.mg_of KX G a16) b16
    | succ n ih => exact ok_paths (k := 1 + n) T U16 (PySem.W.mg_of KX G a16) b16 (V2.mono (by omega)) ih
  have V17 : Av l.prog w K mg base 1 "_law_nowhere" ["_law_path_here", "_law_some", "_law_number"] false F__law_nowhere := ok__law_nowhere (k := 0) T U17 (PySem.W.mg_of KX G a17) b17 
  have V18 : AvX l.prog w K mg base 5 "part" ["term", "path"] false F_part := ok_part (k := 4) T U18 (PySem.W.mg_of KX G a18) b18 (V8.mono (by decide)) (V5.mono (by decide))
  have V19 : Av l.prog w K mg base 1 "_law_other" ["_law_error"] true F__law_other := ok__law_other (k := 0) T U19 (PySem.W.mg_of KX G a19) b19 
  have V20 : Av l.prog w K mg base 66 "_law_refused" ["_law_term_here", "_law_path_here", "_law_other_here", "_law_deed"] true F__law_refused := ok__law_refused (k := 65) T U20 (PySem.W.mg_of KX G a20) b20 (V18.mono (by decide)) (V10.mono (by decide)) (V19.mono (by decide))
  have V21 : Av l.prog w K mg base 1 "_law_whole" ["_law_thing"] true F__law_whole := ok__law_whole (k := 0) T U21 (PySem.W.mg_of KX G a21) b21 
  have V22 : Av l.prog w K mg base 2 "_law_path" ["_law_found"] true F__law_path := ok__law_path (k := 1) T U22 (PySem.W.mg_of KX G a22) b22 (V21.mono (by decide))
  have V23 : Av l.prog w K mg base 67 "_law_asked" ["_law_term_here", "_law_other_here", "_law_number"] true F__law_asked := ok__law_asked (k := 66) T U23 (PySem.W.mg_of KX G a23) b23 ((V15 6).mono (by decide)) ((V16 6).mono (by decide)) (V17.mono (by decide)) (V18.mono (by decide)) (V10.mono (by decide)) ((V13 64).mono (by decide)) (V20.mono (by decide)) (V22.mono (by decide))
  exact ok_law (k := 100) T U24 (V0.mono (by decide)) (V1.mono (by decide)) (V11.mono (by decide)) (V12.mono (by decide)) ((V13 64).mono (by decide)) ((V14 100).mono (by decide)) (V23.mono (by decide))
end G

set_option Elab.async false
set_option linter.all false
set_option maxRecDepth 100000
set_option maxHeartbeats 4000000
namespace G
open PySem PySem.Spec L2 M
open Builtin.Int (intBits)
def abc : Str := "abcdefghijklmnopqrstuvwxyz"
theorem cut1 (x : D) (r : List D) : cutD (x :: r) (some 1) none = r := by
  have h1 : HT.sIx (x :: r).length 0 (some 1) = 1 := by
    have := HT.sIx_nat (x :: r).length 0 1
    simp only [List.length_cons] at this ⊢
    exact this.trans (by omega)
  unfold cutD
  rw [h1, HT.sIx_none]
  simp
theorem places1 {d : D} (h : noScr d = true) : F_places [d] = .ok (.tup (kids d)) := by
  cases d with
  | tup ds =>
    cases ds with
    | nil => rfl
    | cons x r =>
      show Res.ok (D.tup (cutD (x :: r) (some 1) none)) = _
      rw [cut1]; rfl
  | _ => first | rfl | cases h
theorem level_below1 {row : List D} (h : fines row = true) (hl : row.length ≤ 1000) : F_level_below [.lst row] = .ok (.lst (below row)) := by
  have key := forD_fold (body := turnD (gN 2) (extendO 1 (callF 1 F_places (cons1 (rdS 2) nil1)))) (fun (a : List D × Slot) => [.shr (.lst row), .own (.lst a.1), a.2]) (fun a d => (a.1 ++ kids d, .shr d)) (fun ds a => fines ds = true ∧ a.1.length + (below ds).length ≤ 10000) (fun d ds a ⟨h1, h2⟩ => by
    simp only [fines, Bool.and_eq_true] at h1
    have e : below (d :: ds) = kids d ++ below ds := rfl
    rw [e, List.length_append] at h2
    refine ⟨?_, h1.2, by simp only [List.length_append]; omega⟩
    show extendO 1 (callF 1 F_places (cons1 (rdS 2) nil1)) [.shr (.lst row), .own (.lst a.1), .shr d] = _
    show (Res.ok a.1 >>= fun ds => F_places [d] >>= _) = _
    rw [places1 (fine_scr h1.1)]
    exact must_pos (c := a.1.length + (kids d).length ≤ sizeLine) (Nat.le_trans (by omega : _ ≤ 10000) (by decide))) row ([], .un) ⟨h, by have := below_len h; simp only [List.length_nil]; omega⟩
  have hfold : ∀ (ds : List D) (a : List D × Slot), (ds.foldl (fun (a : List D × Slot) d => (a.1 ++ kids d, Slot.shr d)) a).1 = a.1 ++ below ds := by
    intro ds
    induction ds with
    | nil => intro a; simp [below]
    | cons d ds ih => intro a; rw [List.foldl_cons, ih]; simp [below]
  have e1 : g_level_below F_places (startE 3 [.lst row]) = .ok (.rt true (.lst (below row))) := by
    unfold g_level_below
    have h1 : startE 3 [.lst row] = [.shr (.lst row), .un, .un] := rfl
    rw [h1]
    show (forD (turnD (gN 2) (extendO 1 (callF 1 F_places (cons1 (rdS 2) nil1)))) row [.shr (.lst row), .own (.lst []), .un] >>= _) = _
    rw [key]
    show Res.ok (Out.rt true (D.lst (row.foldl (fun (a : List D × Slot) d => (a.1 ++ kids d, Slot.shr d)) ([], .un)).1)) = _
    rw [hfold]; simp
  exact ev_run e1
def greatG : Sl → Res Out := (seqO (setOs 2 (two (rdS 2) (cI 1) (augI fun i j => i + j)))
    (seqO (setOs 3 (two (rdS 3) (app (cons1 (rdS 1) nil1) lenD) (augI fun i j => i + j)))
    (seqO (ifO (orB (asB (two (rdS 2) (cI 60) gtI)) (asB (two (rdS 3) (cI 1000) gtI))) (retO (cB true)) nxO)
    (setOs 1 (callF 1 F_level_below (cons1 (rdS 1) nil1))))))
theorem great_step {d : D} {row : List D} {dp ct : Nat} (h : fines row = true) : greatG [.shr d, .shr (.lst row), .shr (.int dp), .shr (.int ct)] = if 60 < dp + 1 ∨ 1000 < ct + row.length then .ok (.rt true (.bl true)) else .ok (.nx [.shr d, .shr (.lst (below row)), .shr (.int ((dp + 1 : Nat) : Int)), .shr (.int ((ct + row.length : Nat) : Int))]) := by
  have e0 : greatG [.shr d, .shr (.lst row), .shr (.int dp), .shr (.int ct)] = ((if decide ((60 : Int) < (dp : Int) + 1) = true then Res.ok true else Res.ok (decide ((1000 : Int) < (ct : Int) + row.length))) >>= fun b => (if b = true then Res.ok (Out.rt true (.bl true)) else Res.ok (.nx [.shr d, .shr (.lst row), .shr (.int ((dp : Int) + 1)), .shr (.int ((ct : Int) + row.length))]))) >>= outK (setOs 1 (callF 1 F_level_below (cons1 (rdS 1) nil1))) := by
    unfold greatG
    rw [ev_seq, ev_setOs]
    show (seqO _ _) _ = _
    rw [ev_seq]; rfl
  rw [e0]
  by_cases h1 : 60 < dp + 1
  · rw [if_pos (by simp; omega), if_pos (.inl h1)]; rfl
  · rw [if_neg (by simp; omega)]
    by_cases h2 : 1000 < ct + row.length
    · rw [if_pos (.inr h2)]
      have : decide ((1000 : Int) < (ct : Int) + row.length) = true := by simp; omega
      rw [this]; rfl
    · rw [if_neg (by omega)]
      have : decide ((1000 : Int) < (ct : Int) + row.length) = false := by simp; omega
      rw [this]
      show (F_level_below [.lst row] >>= _) = _
      rw [level_below1 h (by omega)]
      show Res.ok (Out.nx [.shr d, .shr (.lst (below row)), .shr (.int ((dp : Int) + 1)), .shr (.int ((ct : Int) + row.length))]) = _
      simp
theorem great_loop (d : D) : ∀ (n : Nat) (row : List D) (dp ct : Nat), fines row = true → dp ≤ 60 → ct ≤ 1000 → 62 ≤ dp + n →
    ((60 < dp + hgts row ∨ 1000 < ct + nums row) → whileD n (truF (rdS 1)) greatG [.shr d, .shr (.lst row), .shr (.int dp), .shr (.int ct)] = .ok (.rt true (.bl true))) ∧
    (¬ (60 < dp + hgts row ∨ 1000 < ct + nums row) → ∃ env, whileD n (truF (rdS 1)) greatG [.shr d, .shr (.lst row), .shr (.int dp), .shr (.int ct)] = .ok (.nx env))
  | 0, _, dp, ct, _, h1, _, h2 => by omega
  | n + 1, row, dp, ct, hf, h1, h2, h3 => by
    cases row with
    | nil =>
      simp only [hgts, nums]
      exact ⟨fun h => by omega, fun _ => ⟨_, whileD_end rfl⟩⟩
    | cons x r =>
      have hs := great_step (d := d) (dp := dp) (ct := ct) hf
      have hb := hgts_below (x :: r) (by simp)
      have hn := nums_below (x :: r)
      by_cases hg : 60 < dp + 1 ∨ 1000 < ct + (x :: r).length
      · rw [if_pos hg] at hs
        exact ⟨fun _ => whileD_rt rfl hs, fun h => absurd (show 60 < dp + hgts (x :: r) ∨ 1000 < ct + nums (x :: r) by omega) h⟩
      · rw [if_neg hg] at hs
        have ih := great_loop d n (below (x :: r)) (dp + 1) (ct + (x :: r).length) (fines_below hf) (by omega) (by omega) (by omega)
        rw [whileD_go rfl hs, hb, hn]
        constructor
        · intro h; exact ih.1 (by omega)
        · intro h; exact ih.2 (by omega)
def isGr (d : D) : Bool := decide (60 < hgt d ∨ 1000 < num d)
theorem great1 {d : D} (h : fine d = true) : F_is_great [d] = .ok (.bl (isGr d)) := by
  have hl := great_loop d 2000 [d] 0 0 (by simp [fines, h]) (by omega) (by omega) (by omega)
  have e1 : hgts [d] = hgt d := by simp [hgts]
  have e2 : nums [d] = num d := by simp [nums]
  rw [e1, e2] at hl
  simp only [Nat.zero_add] at hl
  have e0 : g_is_great F_level_below (startE 4 [d]) = (whileD 2000 (truF (rdS 1)) greatG [.shr d, .shr (.lst [d]), .shr (.int ((0 : Nat) : Int)), .shr (.int ((0 : Nat) : Int))] >>= outK (retO (cB false))) := by
    unfold g_is_great
    rw [ev_seq]
    show (seqO _ _) _ = _
    rw [ev_seq]
    rfl
  by_cases hg : 60 < hgt d ∨ 1000 < num d
  · have : isGr d = true := by simp [isGr, hg]
    rw [this]
    refine ev_run (o := .rt true (.bl true)) ?_
    rw [e0, hl.1 hg]; rfl
  · have : isGr d = false := by simp [isGr]; omega
    rw [this]
    obtain ⟨env, he⟩ := hl.2 hg
    refine ev_run (o := .rt true (.bl false)) ?_
    rw [e0, he]; rfl
theorem great_makes {c : Int} (h : intBits c ≤ 2 ^ 20 + 1) : ∃ m : Int, F__law_great [.int c] = .ok (.int m) := by
  have e0 : startE 1 [.int c] = [.shr (.int c)] := rfl
  obtain ⟨m, hm, _⟩ : NumR (two (two (two (two (rdS 0) (cI 11) addD) (two (cI 7) (cI 61) powI) mulI) (two (cI 11) (cI 63) powI) mulI) (two (cI 13) (cI 9) powI) mulI) [.shr (.int c)] (max (2 ^ 20 + 1) 5 + 1 + (3 * 61 + 1) + (4 * 63 + 1) + (4 * 9 + 1)) :=
    num_mul (num_mul (num_mul (num_add (num_rd rfl h) (num_c (by decide))) (num_pow (k := 61) (by decide) (by decide) (by decide)) (by decide)) (num_pow (k := 63) (by decide) (by decide) (by decide)) (by decide)) (num_pow (k := 9) (by decide) (by decide) (by decide)) (by decide)
  have ht : two (cI 10) (cI 60) powI [.shr (.int c)] = .ok (.int (10 ^ 60)) := two_ok rfl rfl (pow_ok ⟨by decide, by decide, by decide⟩)
  have hb : intBits ((10 : Int) ^ 60) ≤ 4 * 60 + 1 := intBits_pow_le (by decide) 60
  have hp : (0 : Int) < 10 ^ 60 := Int.pow_pos (by decide)
  refine ⟨_, run_t (d := (.int (m % (10 ^ 60 * 10 ^ 60)))) ?_⟩
  rw [e0]
  exact retO_ok (two_ok hm (two_ok ht ht (mul_ok (show intBits _ + intBits _ ≤ _ by omega))) (mod_ok (Int.mul_pos hp hp)))
theorem cell_makes (ds : List Int) : ∃ c : Int, F__law_cell_at [.scr (ds.map D.int), .int 0] = .ok (.int c) ∧ (c = 0 ∨ c ∈ ds) := by
  cases ds with
  | nil => exact ⟨0, rfl, .inl rfl⟩
  | cons c r =>
    refine ⟨c, ?_, .inr (by simp)⟩
    refine run_f (d := (.int c)) ?_
    have e0 : startE 2 [.scr ((c :: r).map D.int), .int 0] = [.shr (.scr ((c :: r).map D.int)), .shr (.int 0)] := rfl
    rw [e0]
    have ht : asB (two (rdS 1) (app (cons1 (rdS 0) nil1) lenD) ltI) [.shr (.scr ((c :: r).map D.int)), .shr (.int 0)] = .ok true := by
      refine asB_ok (two_ok rfl (app_ok (cons_ok rfl rfl) rfl) ?_)
      show Res.ok (D.bl (decide ((0 : Int) < (((c :: r).map D.int).length : Nat)))) = _
      simp
    refine seq_rt ((if_t ht).trans (retS_ok (two_ok rfl rfl ?_)))
    have := M.atI_nat (xs := (c :: r).map D.int) (k := 0)
    simp only [ixD]
    rw [show ((0 : Int)) = ((0 : Nat) : Int) from rfl, this]; rfl
def Five (d : D) : Prop := ∃ xs : List D, d = .lst xs ∧ xs.length = 5 ∧ ∀ x ∈ xs, ∃ z : Str, x = .str z ∧ z.length ≤ 20
theorem abc_len : abc.length = 26 := by decide
theorem names_makes (m : Int) : ∃ d, F__law_names [.int m] = .ok d ∧ Five d := by
  have hs : 1 ≤ 1 + m % 8 ∧ 1 + m % 8 ≤ 8 := by omega
  have e0 : startE 8 [.int m] = [.shr (.int m), .un, .un, .un, .un, .un, .un, .un] := rfl
  generalize hsz : 1 + m % 8 = sz at hs
  -- the first loop
  obtain ⟨env1, l1, n1, f1, u1, rfl, hf1⟩ := forD_inv (body := turnD (gN 4) (seqO (setOs 0 (two (rdS 0) (cI 26) divI)) (setOs 3 (two (rdS 3) (two (rdS 1) (two (rdS 0) (cI 26) modI) ixD) addD))))
    (fun ds env => ∃ (n : Int) (f : Str) (u : Slot), env = [.shr (.int n), .shr (.str abc), .shr (.int sz), .shr (.str f), u, .un, .un, .un] ∧ f.length + ds.length = sz.toNat)
    (by
      rintro d ds env ⟨n, f, u, rfl, hl⟩
      obtain ⟨c, hc⟩ := ixS (z := abc) (i := n / 26 % 26) (by omega) (by rw [abc_len]; omega)
      simp only [List.length_cons] at hl
      have hlen : (f ++ (⟨#[c]⟩ : Str)).length = f.length + 1 := strLen_append _ _
      refine ⟨[.shr (.int (n / 26)), .shr (.str abc), .shr (.int sz), .shr (.str (f ++ (⟨#[c]⟩ : Str))), .shr d, .un, .un, .un], ?_, _, _, _, rfl, by rw [hlen]; omega⟩
      rw [turn_ok (env' := [.shr (.int n), .shr (.str abc), .shr (.int sz), .shr (.str f), .shr d, .un, .un, .un]) rfl]
      rw [seq_nx (env' := [.shr (.int (n / 26)), .shr (.str abc), .shr (.int sz), .shr (.str f), .shr d, .un, .un, .un]) rfl]
      refine (setOs_ok (two_ok rfl (two_ok rfl rfl hc) (must_pos (c := f.length + (⟨#[c]⟩ : Str).length ≤ sizeLine) (Nat.le_trans (show f.length + 1 ≤ 8 by omega) (by decide))))).trans rfl)
    (intsD 0 sz.toNat) [.shr (.int m), .shr (.str abc), .shr (.int sz), .shr (.str ""), .un, .un, .un, .un] ⟨m, "", .un, rfl, by rw [intsD_len, show ("" : Str).length = 0 by decide, Nat.zero_add]⟩
  simp only [List.length_nil] at hf1
  have hat : 0 ≤ n1 / 26 % sz ∧ n1 / 26 % sz < sz := ⟨Int.emod_nonneg _ (by omega), Int.emod_lt_of_pos _ (by omega)⟩
  generalize hq : n1 / 26 % sz = at1 at hat
  obtain ⟨c1, hc1⟩ := ixS (z := f1) (i := at1) hat.1 (by omega)
  -- the second loop
  obtain ⟨env2, l2, xs, k2, s2, rfl, _, hx, hxs⟩ := forD_inv (body := turnD (gN 4) (seqO (setOs 7 (two (rdS 1) (two (two (smF (rdS 1) (cons1 (two (rdS 3) (rdS 5) ixD) nil1) findD) (two (cI 7) (rdS 4) mulI) addD) (cI 26) modI) ixD))
    (appendO 6 (two (two (slice3 (rdS 3) noneI (someI (rdS 5)) slD) (rdS 7) addD) (slice3 (rdS 3) (someI (two (rdS 5) (cI 1) addD)) noneI slD) addD))))
    (fun ds env => ∃ (xs : List D) (k s : Slot), env = [.shr (.int n1), .shr (.str abc), .shr (.int sz), .shr (.str f1), k, .shr (.int at1), .own (.lst xs), s] ∧ (∀ d ∈ ds, ∃ k : Int, d = .int k ∧ 0 ≤ k ∧ k < 0 + (4 : Nat)) ∧ xs.length + ds.length = 4 ∧ ∀ x ∈ xs, ∃ z : Str, x = .str z ∧ z.length ≤ 20)
    (by
      rintro d ds env ⟨xs, k, s, rfl, hd, hl, hx⟩
      obtain ⟨j, rfl, hj0, hj1⟩ := hd d (by simp)
      have hm : MulC 7 j := by
        have : j = 0 ∨ j = 1 ∨ j = 2 ∨ j = 3 := by omega
        rcases this with rfl | rfl | rfl | rfl <;> decide
      obtain ⟨c, hc⟩ := ixS (z := abc) (i := (Txt.find abc (⟨#[c1]⟩ : Str) + 7 * j) % 26) (by omega) (by rw [abc_len]; omega)
      simp only [List.length_cons] at hl
      have hA := cutS_len f1 none (some at1)
      have hB := cutS_len f1 (some (at1 + 1)) none
      have h1 : (cutS f1 none (some at1) ++ (⟨#[c]⟩ : Str)).length = (cutS f1 none (some at1)).length + 1 := strLen_append _ _
      have h2 : ((cutS f1 none (some at1) ++ (⟨#[c]⟩ : Str)) ++ cutS f1 (some (at1 + 1)) none).length = (cutS f1 none (some at1) ++ (⟨#[c]⟩ : Str)).length + (cutS f1 (some (at1 + 1)) none).length := strLen_append _ _
      have hbig : 20 ≤ sizeLine := by decide
      refine ⟨[.shr (.int n1), .shr (.str abc), .shr (.int sz), .shr (.str f1), .shr (.int j), .shr (.int at1), .own (.lst (xs ++ [.str ((cutS f1 none (some at1) ++ (⟨#[c]⟩ : Str)) ++ cutS f1 (some (at1 + 1)) none)])), .shr (.str ⟨#[c]⟩)], ?_, _, _, _, rfl, fun e he => hd e (by simp [he]), by simp only [List.length_append, List.length_cons, List.length_nil]; omega, ?_⟩
      · rw [turn_ok (env' := [.shr (.int n1), .shr (.str abc), .shr (.int sz), .shr (.str f1), .shr (.int j), .shr (.int at1), .own (.lst xs), s]) rfl]
        rw [seq_nx (env' := [.shr (.int n1), .shr (.str abc), .shr (.int sz), .shr (.str f1), .shr (.int j), .shr (.int at1), .own (.lst xs), .shr (.str ⟨#[c]⟩)]) (setOs_ok (two_ok rfl (two_ok (two_ok (sm_ok rfl (cons_ok (two_ok rfl rfl hc1) rfl) rfl) (two_ok rfl rfl (mul_ok hm)) rfl) rfl rfl) hc))]
        exact (append_ok (ds := xs) rfl (two_ok (two_ok (slice_ok rfl rfl (someI_ok rfl) rfl) rfl (must_pos (c := (cutS f1 none (some at1)).length + (⟨#[c]⟩ : Str).length ≤ sizeLine) (Nat.le_trans (show _ + 1 ≤ 20 by omega) hbig))) (slice_ok rfl (someI_ok (two_ok rfl rfl rfl)) rfl rfl) (must_pos (c := _ + _ ≤ sizeLine) (by omega))) (by omega)).trans rfl
      · intro x hx'
        rcases List.mem_append.mp hx' with h | h
        · exact hx x h
        · simp only [List.mem_cons, List.not_mem_nil, or_false] at h
          exact ⟨_, h, by omega⟩)
    (intsD 0 4) [.shr (.int n1), .shr (.str abc), .shr (.int sz), .shr (.str f1), u1, .shr (.int at1), .own (.lst []), .un] ⟨[], u1, .un, rfl, fun d hd => mem_intsD hd, rfl, fun _ h => by cases h⟩
  simp only [List.length_nil, Nat.add_zero] at hx
  have hbig : 20 ≤ sizeLine := by decide
  -- the last name
  have hlast : ∃ w : Str, w.length ≤ 20 ∧ ifO (asB (two (rdS 2) (cI 8) ltI)) (appendO 6 (two (rdS 3) (cS "a") addD)) (appendO 6 (slice3 (rdS 3) noneI (someI (cI 7)) slD)) [.shr (.int n1), .shr (.str abc), .shr (.int sz), .shr (.str f1), k2, .shr (.int at1), .own (.lst xs), s2] = .ok (.nx [.shr (.int n1), .shr (.str abc), .shr (.int sz), .shr (.str f1), k2, .shr (.int at1), .own (.lst (xs ++ [.str w])), s2]) := by
    have ht : asB (two (rdS 2) (cI 8) ltI) [.shr (.int n1), .shr (.str abc), .shr (.int sz), .shr (.str f1), k2, .shr (.int at1), .own (.lst xs), s2] = .ok (decide (sz < 8)) := asB_ok (two_ok rfl rfl rfl)
    have hla : (f1 ++ ("a" : Str)).length = f1.length + 1 := strLen_append _ _
    have hlb := cutS_len f1 none (some 7)
    by_cases h8 : sz < 8
    · refine ⟨f1 ++ ("a" : Str), by omega, ?_⟩
      rw [if_t (by rw [ht, decide_eq_true h8])]
      exact (append_ok (ds := xs) rfl (two_ok rfl rfl (must_pos (c := f1.length + ("a" : Str).length ≤ sizeLine) (Nat.le_trans (show f1.length + 1 ≤ 20 by omega) hbig))) (by omega)).trans rfl
    · refine ⟨cutS f1 none (some 7), by omega, ?_⟩
      rw [if_f (by rw [ht, decide_eq_false h8])]
      exact (append_ok (ds := xs) rfl (slice_ok rfl rfl (someI_ok rfl) rfl) (by omega)).trans rfl
  obtain ⟨w, hw, hlast⟩ := hlast
  refine ⟨.lst (xs ++ [D.str w]), ?_, xs ++ [D.str w], rfl, by simp [hx], ?_⟩
  · refine run_t ?_
    rw [e0]
    unfold g__law_names
    rw [seq_nx (env' := [.shr (.int m), .shr (.str abc), .un, .un, .un, .un, .un, .un]) rfl]
    rw [seq_nx (env' := [.shr (.int m), .shr (.str abc), .shr (.int sz), .un, .un, .un, .un, .un]) (by rw [← hsz]; rfl)]
    rw [seq_nx (env' := [.shr (.int m), .shr (.str abc), .shr (.int sz), .shr (.str ""), .un, .un, .un, .un]) rfl]
    rw [seq_nx ((for_ok (ds := intsD 0 sz.toNat) (by
      show must _ _ = _
      exact must_pos (by omega))).trans l1)]
    rw [seq_nx (env' := [.shr (.int n1), .shr (.str abc), .shr (.int sz), .shr (.str f1), u1, .shr (.int at1), .un, .un]) (by rw [← hq]; exact (setOs_ok (two_ok (two_ok rfl rfl rfl) rfl (mod_ok (by omega)))).trans rfl)]
    rw [seq_nx (env' := [.shr (.int n1), .shr (.str abc), .shr (.int sz), .shr (.str f1), u1, .shr (.int at1), .own (.lst []), .un]) rfl]
    rw [seq_nx ((for_ok (ds := intsD 0 4) rfl).trans l2)]
    rw [seq_nx hlast]
    rfl
  · intro x hx'
    rcases List.mem_append.mp hx' with h | h
    · exact hxs x h
    · simp only [List.mem_cons, List.not_mem_nil, or_false] at h
      exact ⟨_, h, hw⟩
theorem big1 : 20000 ≤ sizeLine := by decide
theorem small_of {k : Nat} (h : k ≤ 20000) : k ≤ sizeLine := Nat.le_trans h big1
def isT : D → Bool
  | .tup _ => true
  | _ => false
theorem cut0 (x : D) (r : List D) : cutD (x :: r) none (some 1) = [x] := by
  unfold cutD
  rw [HT.sIx_none, show (some (1 : Int)) = some ((1 : Nat) : Int) from rfl, HT.sIx_nat]
  simp only [List.drop_zero, Nat.sub_zero, List.length_cons]
  rw [show min 1 (r.length + 1) = 1 by omega]; rfl
def Fiv (ns : List Str) (d : D) : Prop := d = .lst (ns.map .str) ∧ ns.length = 5 ∧ ∀ z ∈ ns, z.length ≤ 20
theorem five_fiv {d : D} (h : Five d) : ∃ ns, Fiv ns d := by
  obtain ⟨xs, rfl, hl, hx⟩ := h
  have key : ∀ xs : List D, (∀ x ∈ xs, ∃ z : Str, x = .str z ∧ z.length ≤ 20) → ∃ ns : List Str, xs = ns.map .str ∧ ∀ z ∈ ns, z.length ≤ 20 := fun xs => by
    induction xs with
    | nil => intro _; exact ⟨[], rfl, fun _ h => by cases h⟩
    | cons x r ih =>
      intro h
      obtain ⟨z, rfl, hz⟩ := h _ (List.mem_cons_self ..)
      obtain ⟨ns, rfl, hn⟩ := ih fun y hy => h y (by simp [hy])
      refine ⟨z :: ns, rfl, fun y hy => ?_⟩
      rcases List.mem_cons.mp hy with e | e
      · rw [e]; exact hz
      · exact hn y e
  obtain ⟨ns, rfl, hn⟩ := key xs hx
  exact ⟨ns, rfl, by simpa using hl, hn⟩
section
variable {ns : List Str}
theorem fiv_ix {ns : List Str} {d : D} (h : Fiv ns d) (i : Int) (h0 : 0 ≤ i) (h1 : i < 5) : ∃ z : Str, ixD d (.int i) = .ok (.str z) ∧ z ∈ ns := by
  obtain ⟨rfl, hl, _⟩ := h
  obtain ⟨x, hix, hm⟩ := ixL (ds := ns.map .str) h0 (by rw [List.length_map]; omega)
  obtain ⟨z, hz, rfl⟩ := List.mem_map.mp hm
  exact ⟨z, hix, hz⟩
theorem isi_tk {t : D} (h : tk ns t = true) : isiD "tuple" t = .ok (.bl (isT t)) := by
  rcases tk_cases h with ⟨i, rfl⟩ | ⟨z, ts, rfl, _⟩ <;> rfl
theorem noScr_tk {t : D} (h : tk ns t = true) : noScr t = true := fine_scr (fine_tk t h)
end
end G

set_option Elab.async false
set_option linter.all false
set_option maxRecDepth 100000
set_option maxHeartbeats 4000000
namespace G
open PySem PySem.Spec L2 M
open Builtin.Int (intBits)
section
variable {ns : List Str}
def Good (ns : List Str) (r : Nat) (t : D) : Prop := tk ns t = true ∧ hgt t ≤ r ∧ 2 * num t + 1 ≤ 3 ^ r
theorem pow3 {r : Nat} (h : 1 ≤ r) : 3 ≤ 3 ^ r := by
  have : 3 ^ 1 ≤ 3 ^ r := Nat.pow_le_pow_right (by decide) h
  omega
theorem pow3s {r : Nat} (h : 1 ≤ r) : 3 ^ r = 3 * 3 ^ (r - 1) := by
  cases r with
  | zero => omega
  | succ q => rw [Nat.add_sub_cancel, Nat.pow_succ]; omega
theorem nums_good {q : Nat} : ∀ {ps : List D}, (∀ p ∈ ps, 2 * num p + 1 ≤ q) → 2 * nums ps + ps.length ≤ ps.length * q
  | [], _ => by simp [nums]
  | d :: r, h => by
    have a1 := h d (by simp)
    have a2 := nums_good (ps := r) fun t ht => h t (by simp [ht])
    simp only [nums, List.length_cons, Nat.succ_mul]; omega
theorem term_makes {nm : D} (hn : Fiv ns nm) : ∀ (n r : Nat) (m : Int), 1 ≤ r → r ≤ n → ∃ (t : D) (m' : Int), F__law_term n [.int m, nm, .int r] = .ok (.tup [t, .int m']) ∧ Good ns r t
  | 0, r, m, h1, h2 => by omega
  | n + 1, r, m, h1, h2 => by
    have hbig : 20 ≤ sizeLine := by decide
    have h3r := pow3 h1
    have e0 : startE 9 [.int m, nm, .int r] = [.shr (.int m), .shr nm, .shr (.int r), .un, .un, .un, .un, .un, .un] := rfl
    generalize hkd : m % 6 = kd
    generalize hm2 : m / 6 = m2
    have t1 : orB (asB (two (rdS 3) (cI 0) eqR)) (andB (asB (two (rdS 2) (cI 1) eqR)) (asB (two (rdS 3) (cI 4) ltI))) [.shr (.int m2), .shr nm, .shr (.int r), .shr (.int kd), .un, .un, .un, .un, .un] = .ok ((kd == 0) || (((r : Int) == 1) && decide (kd < 4))) :=
      or_ok (asB_ok (two_ok rfl rfl eqR_int)) (and_ok (asB_ok (two_ok rfl rfl eqR_int)) (asB_ok (two_ok rfl rfl rfl)))
    have t2 : orB (asB (two (rdS 3) (cI 1) eqR)) (asB (two (rdS 2) (cI 1) eqR)) [.shr (.int m2), .shr nm, .shr (.int r), .shr (.int kd), .un, .un, .un, .un, .un] = .ok ((kd == 1) || ((r : Int) == 1)) :=
      or_ok (asB_ok (two_ok rfl rfl eqR_int)) (asB_ok (two_ok rfl rfl eqR_int))
    obtain ⟨z, hz, hzn⟩ := fiv_ix hn (m2 % 5) (by omega) (by omega)
    have start : ∀ g : Sl → Res Out, seqO (setOs 3 (two (rdS 0) (cI 6) modI)) (seqO (setOs 0 (two (rdS 0) (cI 6) divI)) g) (startE 9 [.int m, nm, .int r]) = g [.shr (.int m2), .shr nm, .shr (.int r), .shr (.int kd), .un, .un, .un, .un, .un] := by
      intro g
      rw [e0, seq_nx (env' := [.shr (.int m), .shr nm, .shr (.int r), .shr (.int kd), .un, .un, .un, .un, .un]) (by rw [← hkd]; rfl)]
      rw [seq_nx (env' := [.shr (.int m2), .shr nm, .shr (.int r), .shr (.int kd), .un, .un, .un, .un, .un]) (by rw [← hm2]; rfl)]
    by_cases hb1 : ((kd == 0) || (((r : Int) == 1) && decide (kd < 4))) = true
    · obtain ⟨d, hd, hmem⟩ := ixL (ds := [.int 0, .int 1, .int 2, .int (m2 / 4 % 1000)]) (i := m2 % 4) (by omega) (by simp only [List.length_cons, List.length_nil]; omega)
      have hint : ∃ i : Int, d = .int i := by
        simp only [List.mem_cons, List.not_mem_nil, or_false] at hmem
        rcases hmem with rfl | rfl | rfl | rfl <;> exact ⟨_, rfl⟩
      obtain ⟨i, rfl⟩ := hint
      refine ⟨.int i, m2 / 4000, run_t (d := (.tup [.int i, .int (m2 / 4000)])) ?_, rfl, by simp [hgt]; omega, by simp [num]; omega⟩
      show g__law_term (F__law_term n) _ = _
      unfold g__law_term
      rw [start]
      exact seq_rt ((if_t (by rw [t1, hb1])).trans (retO_ok (tup_ok (cons_ok (two_ok (lst_ok (cons_ok rfl (cons_ok rfl (cons_ok rfl (cons_ok (two_ok (two_ok rfl rfl rfl) rfl rfl) rfl)))) (Nat.le_trans (show 4 ≤ 20 by decide) hbig)) (two_ok rfl rfl rfl) hd) (cons_ok (two_ok rfl rfl rfl) rfl)) (Nat.le_trans (show 2 ≤ 20 by decide) hbig))))
    · have hb1 : ((kd == 0) || (((r : Int) == 1) && decide (kd < 4))) = false := by simpa using hb1
      by_cases hb2 : ((kd == 1) || ((r : Int) == 1)) = true
      · refine ⟨.tup [.str z], m2 / 5, run_t (d := (.tup [.tup [.str z], .int (m2 / 5)])) ?_, tk_nd hzn (by simp) (fun _ h => by cases h), by simp [hgt, hgts]; omega, by simp [num, nums]; omega⟩
        show g__law_term (F__law_term n) _ = _
        unfold g__law_term
        rw [start, seq_nx ((if_f (by rw [t1, hb1])).trans rfl)]
        exact seq_rt ((if_t (by rw [t2, hb2])).trans (retO_ok (tup_ok (cons_ok (tup_ok (cons_ok (two_ok rfl (two_ok rfl rfl rfl) hz) rfl) (Nat.le_trans (show 1 ≤ 20 by decide) hbig)) (cons_ok (two_ok rfl rfl rfl) rfl)) (Nat.le_trans (show 2 ≤ 20 by decide) hbig))))
      · have hb2 : ((kd == 1) || ((r : Int) == 1)) = false := by simpa using hb2
        have hr : 2 ≤ r := by
          simp only [Bool.or_eq_false_iff, beq_eq_false_iff_ne] at hb2
          omega
        have hr1 : ((r : Int) - 1) = ((r - 1 : Nat) : Int) := by omega
        generalize hct : 1 + m2 / 5 % 3 = ct
        have hct3 : 1 ≤ ct ∧ ct ≤ 3 := by omega
        obtain ⟨env1, l1, n1, ps, k1, p1, rfl, hl1, hps⟩ := forD_inv (body := turnD (gN 7) (seqO (asgO (callF 3 (F__law_term n) (cons1 (rdS 0) (cons1 (rdS 1) (cons1 (two (rdS 2) (cI 1) subI) nil1)))) (g2 (gN 8) (gN 0))) (appendO 6 (rdS 8))))
          (fun ds env => ∃ (n' : Int) (ps : List D) (k p : Slot), env = [.shr (.int n'), .shr nm, .shr (.int r), .shr (.int kd), .shr (.str z), .shr (.int ct), .own (.lst ps), k, p] ∧ ps.length + ds.length ≤ 3 ∧ ∀ p ∈ ps, Good ns (r - 1) p)
          (by
            rintro d ds env ⟨n', ps, k, p, rfl, hl, hps⟩
            obtain ⟨t, m', ht, hg⟩ := term_makes hn n (r - 1) n' (by omega) (by omega)
            simp only [List.length_cons] at hl
            refine ⟨[.shr (.int m'), .shr nm, .shr (.int r), .shr (.int kd), .shr (.str z), .shr (.int ct), .own (.lst (ps ++ [t])), .shr d, .shr t], ?_, _, _, _, _, rfl, by simp only [List.length_append, List.length_cons, List.length_nil]; omega, ?_⟩
            · rw [turn_ok (env' := [.shr (.int n'), .shr nm, .shr (.int r), .shr (.int kd), .shr (.str z), .shr (.int ct), .own (.lst ps), .shr d, p]) rfl]
              have hc : callF 3 (F__law_term n) (cons1 (rdS 0) (cons1 (rdS 1) (cons1 (two (rdS 2) (cI 1) subI) nil1))) [.shr (.int n'), .shr nm, .shr (.int r), .shr (.int kd), .shr (.str z), .shr (.int ct), .own (.lst ps), .shr d, p] = .ok (.tup [t, .int m']) :=
                call_ok (ds := [.int n', nm, .int ((r : Int) - 1)]) (cons_ok rfl (cons_ok rfl (cons_ok (two_ok rfl rfl rfl) rfl))) rfl (by rw [hr1]; exact ht)
              rw [seq_nx (env' := [.shr (.int m'), .shr nm, .shr (.int r), .shr (.int kd), .shr (.str z), .shr (.int ct), .own (.lst ps), .shr d, .shr t]) (by
                show (callF 3 _ _ _ >>= _) = _
                rw [hc]; rfl)]
              exact (append_ok (ds := ps) rfl rfl (by omega)).trans rfl
            · intro q hq
              rcases List.mem_append.mp hq with h | h
              · exact hps q h
              · simp only [List.mem_cons, List.not_mem_nil, or_false] at h
                subst h; exact hg)
          (intsD 0 ct.toNat) [.shr (.int (m2 / 15)), .shr nm, .shr (.int r), .shr (.int kd), .shr (.str z), .shr (.int ct), .own (.lst []), .un, .un] ⟨_, [], .un, .un, rfl, by rw [intsD_len]; simp only [List.length_nil]; omega, fun _ h => by cases h⟩
        simp only [List.length_nil, Nat.add_zero] at hl1
        have himm : D.imm (.tup (.str z :: ps)) = true := by
          show (true && D.imms ps) = true
          rw [Bool.true_and]
          exact imms_iff.mpr fun d hd => imm_tk d (hps d hd).1
        refine ⟨.tup (.str z :: ps), n1, run_t (d := (.tup [.tup (.str z :: ps), .int n1])) ?_, ?_, ?_, ?_⟩
        · show g__law_term (F__law_term n) _ = _
          unfold g__law_term
          rw [start, seq_nx ((if_f (by rw [t1, hb1])).trans rfl), seq_nx ((if_f (by rw [t2, hb2])).trans rfl)]
          rw [seq_nx (env' := [.shr (.int m2), .shr nm, .shr (.int r), .shr (.int kd), .shr (.str z), .un, .un, .un, .un]) ((setOs_ok (two_ok rfl (two_ok rfl rfl rfl) hz)).trans rfl)]
          rw [seq_nx (env' := [.shr (.int m2), .shr nm, .shr (.int r), .shr (.int kd), .shr (.str z), .shr (.int ct), .un, .un, .un]) (by rw [← hct]; rfl)]
          rw [seq_nx (env' := [.shr (.int (m2 / 15)), .shr nm, .shr (.int r), .shr (.int kd), .shr (.str z), .shr (.int ct), .un, .un, .un]) rfl]
          rw [seq_nx (env' := [.shr (.int (m2 / 15)), .shr nm, .shr (.int r), .shr (.int kd), .shr (.str z), .shr (.int ct), .own (.lst []), .un, .un]) rfl]
          rw [seq_nx ((for_ok (ds := intsD 0 ct.toNat) (by
            show must _ _ = _
            exact must_pos (by omega))).trans l1)]
          refine retO_ok (tup_ok (cons_ok (chk_ok (app_ok (cons_ok (two_ok (lst_ok (cons_ok rfl rfl) (Nat.le_trans (show 1 ≤ 20 by decide) hbig)) rfl (must_pos (c := [D.str z].length + ps.length ≤ sizeLine) (by simp only [List.length_cons, List.length_nil]; omega))) rfl) rfl) himm) (cons_ok rfl rfl)) (Nat.le_trans (show 2 ≤ 20 by decide) hbig))
        · exact tk_nd hzn (by omega) fun d hd => (hps d hd).1
        · simp only [hgt]
          have := M.hgts_le (ds := ps) (k := r - 1) fun d hd => (hps d hd).2.1
          omega
        · simp only [num]
          have hq := nums_good (ps := ps) (q := 3 ^ (r - 1)) fun p hp => (hps p hp).2.2
          have e3 : 3 ^ r = 3 * 3 ^ (r - 1) := pow3s h1
          have hq1 : 1 ≤ 3 ^ (r - 1) := Nat.one_le_pow _ _ (by decide)
          rw [e3]
          generalize 3 ^ (r - 1) = q at hq hq1
          have h5 : ps.length = 0 ∨ ps.length = 1 ∨ ps.length = 2 ∨ ps.length = 3 := by omega
          rcases h5 with e | e | e | e <;> rw [e] at hq <;> omega
theorem hgt_tup (z : Str) (ts : List D) : hgt (.tup (.str z :: ts)) = 1 + hgts ts := by rw [hgt_eq]; rfl
theorem num_tup (z : Str) (ts : List D) : num (.tup (.str z :: ts)) = 1 + nums ts := by rw [num_eq]; rfl
theorem eqb_tk : ∀ t, tk ns t = true → D.eqb t = true ∧ D.dep t ≤ hgt t := tk_ind1 (fun i => by simp [D.eqb, D.dep]) fun z ts _ hl h => by
  have h1 : D.eqbs ts = true := eqbs_of fun t ht => ((h t ht).2).1
  have h2 : D.deps ts ≤ hgts ts := deps_le fun t ht => Nat.le_trans ((h t ht).2).2 (hgts_mem ht)
  rw [hgt_tup]
  refine ⟨by simp [D.eqb, D.eqbs, h1], ?_⟩
  simp only [D.dep, D.deps]; omega
theorem eqD_tk : ∀ t, tk ns t = true → eqD t t = true := tk_ind1 (fun i => by simp [eqD]) fun z ts _ hl h => by
  simp only [eqD, eqDs, beq_self_eq_true, Bool.true_and]
  exact eqDs_self fun t ht => (h t ht).2
theorem eqR_tk {t : D} (h : tk ns t = true) (hh : hgt t ≤ 100) : eqR t t = .ok (.bl true) := by
  obtain ⟨h1, h2⟩ := eqb_tk t h
  have : eqR t t = .ok (.bl (eqD t t)) := must_pos (c := EqC t t) (.inl ⟨h1, h1, by omega⟩)
  rw [this, eqD_tk t h]
/-! ### the filling's look -/
theorem bounded1 {d : D} (h : fine d = true) : F_bounded [d] = if isGr d = true then .exc "TooGreat" else .ok d := by
  have hg := great1 h
  have ht : asB (callF 1 F_is_great (cons1 (rdS 0) nil1)) [.shr d] = .ok (isGr d) := asB_ok (call_ok (cons_ok rfl rfl) rfl hg)
  have e : g_bounded F_is_great (startE 1 [d]) = if isGr d = true then .exc "TooGreat" else .ok (.rt false d) := by
    show seqO (ifX (asB (callF 1 F_is_great (cons1 (rdS 0) nil1))) (raiseO "TooGreat") (calmO nxO)) (calmO (retS (rdS 0))) [.shr d] = _
    have hx : ifX (asB (callF 1 F_is_great (cons1 (rdS 0) nil1))) (raiseO "TooGreat") (calmO nxO) [.shr d] = if isGr d = true then .exc "TooGreat" else .ok (.nx [.shr d]) := by
      unfold ifX; rw [ht]; rfl
    show (ifX _ _ _ _ >>= _) = _
    rw [hx]
    cases isGr d <;> rfl
  show runX false 1 (g_bounded F_is_great) [d] = _
  unfold runX
  rw [e]
  cases isGr d <;> rfl
theorem toB_t {f g : Sl → Res D} {env : Sl} {d : D} (h1 : f env = .ok (.bl true)) (h2 : g env = .ok d) : toB f g true env = .ok d := by
  rw [ev_toB, h1]; exact h2
theorem not_ok {f : Sl → Res D} {env : Sl} {b : Bool} (h : f env = .ok (.bl b)) : notF f env = .ok (.bl (!b)) := by
  show (f env >>= notD) = _
  rw [h]; rfl
theorem nobool {t : D} (h : tk ns t = true) : isiD "bool" t = .ok (.bl false) := by
  rcases tk_cases h with ⟨i, rfl⟩ | ⟨z, r, rfl, _⟩ <;> rfl
end
end G

set_option Elab.async false
set_option linter.all false
set_option maxRecDepth 100000
set_option maxHeartbeats 4000000
namespace G
open PySem PySem.Spec L2 M
section
variable {ns : List Str}
/-! ### the parts of a term by their paths -/
mutual
def prs : D → List (List Int × D)
  | .tup (x :: r) => ([], .tup (x :: r)) :: prss 0 r
  | d => [([], d)]
def prss (k : Nat) : List D → List (List Int × D)
  | [] => []
  | d :: r => (prs d).map (fun p => ((k : Int) :: p.1, p.2)) ++ prss (k + 1) r
end
def pathD (p : List Int) : D := .tup (p.map .int)
def pr2 (p : List Int × D) : D := .tup [pathD p.1, p.2]
theorem prs_tup (x : D) (r : List D) : prs (.tup (x :: r)) = ([], .tup (x :: r)) :: prss 0 r := by simp [prs]
theorem prs_int (i : Int) : prs (.int i) = [([], .int i)] := by simp [prs]
theorem prss_cons (k : Nat) (d : D) (r : List D) : prss k (d :: r) = (prs d).map (fun p => ((k : Int) :: p.1, p.2)) ++ prss (k + 1) r := by simp [prss]
theorem prss_nil (k : Nat) : prss k [] = [] := by simp [prss]
mutual
theorem prs_len : ∀ d : D, (prs d).length = num d
  | .tup (x :: r) => by rw [prs_tup, List.length_cons, prss_len 0 r]; simp [num]; omega
  | .tup [] => by simp [prs, num]
  | .non => by simp [prs, num]
  | .bl _ => by simp [prs, num]
  | .int _ => by simp [prs, num]
  | .str _ => by simp [prs, num]
  | .lst _ => by simp [prs, num]
  | .scr _ => by simp [prs, num]
  | .dic _ _ => by simp [prs, num]
  | .dit _ _ => by simp [prs, num]
  | .exn _ => by simp [prs, num]
theorem prss_len : ∀ (k : Nat) (ds : List D), (prss k ds).length = nums ds
  | k, [] => by simp [prss, nums]
  | k, d :: r => by rw [prss_cons, List.length_append, List.length_map, prs_len d, prss_len (k + 1) r]; simp [nums]
end
theorem prss_mem : ∀ {ds : List D} {k : Nat} {q : List Int × D}, q ∈ prss k ds → ∃ (j : Nat) (u : D) (p : List Int × D), ds[j]? = some u ∧ p ∈ prs u ∧ q = (((k + j : Nat) : Int) :: p.1, p.2)
  | [], k, q, h => by rw [prss_nil] at h; cases h
  | d :: r, k, q, h => by
    rw [prss_cons] at h
    rcases List.mem_append.mp h with h | h
    · obtain ⟨p, hp, rfl⟩ := List.mem_map.mp h
      exact ⟨0, d, p, rfl, hp, rfl⟩
    · obtain ⟨j, u, p, h1, h2, rfl⟩ := prss_mem h
      exact ⟨j + 1, u, p, by simpa using h1, h2, by simp only [Prod.mk.injEq, List.cons.injEq, and_true]; omega⟩
theorem mem_get {ds : List D} {j : Nat} {u : D} (h : ds[j]? = some u) : u ∈ ds := List.mem_of_getElem? h
theorem prs_path : ∀ t, tk ns t = true → ∀ p ∈ prs t, p.1.length + 1 ≤ hgt t ∧ (∀ i ∈ p.1, 0 ≤ i) ∧ tk ns p.2 = true := tk_ind1 (fun i p hp => by
    rw [prs_int] at hp
    simp only [List.mem_cons, List.not_mem_nil, or_false] at hp
    subst hp
    exact ⟨by simp [hgt], (fun _ h => by cases h), rfl⟩) fun z ts hz hl h p hp => by
  rw [prs_tup] at hp
  rcases List.mem_cons.mp hp with rfl | hp
  · exact ⟨by rw [hgt_tup]; simp, (fun _ h => by cases h), tk_nd hz hl fun t ht => (h t ht).1⟩
  · obtain ⟨j, u, q, h1, h2, rfl⟩ := prss_mem hp
    have hu := mem_get h1
    obtain ⟨a1, a2, a3⟩ := (h u hu).2 q h2
    have := hgts_mem hu
    refine ⟨by rw [hgt_tup, List.length_cons]; omega, fun i hi => ?_, a3⟩
    rcases List.mem_cons.mp hi with rfl | hi
    · omega
    · exact a2 i hi
theorem ltJ_nil (a : Int) (x : List Int) : ltJ [] (a :: x) = true := rfl
theorem ltJ_cons (a : Int) (x y : List Int) : ltJ (a :: x) (a :: y) = ltJ x y := by simp [ltJ]
theorem ltJ_lt {a b : Int} (h : a < b) (x y : List Int) : ltJ (a :: x) (b :: y) = true := by
  have : a ≠ b := by omega
  simp [ltJ, this, h]
theorem prss_rise : ∀ (ds : List D) (k : Nat), (∀ u ∈ ds, Rise ((prs u).map (·.1))) → Rise ((prss k ds).map (·.1))
  | [], k, _ => by rw [prss_nil]; exact List.Pairwise.nil
  | d :: r, k, h => by
    rw [prss_cons, List.map_append]
    refine List.pairwise_append.mpr ⟨?_, prss_rise r (k + 1) fun u hu => h u (by simp [hu]), fun x hx y hy => ?_⟩
    · have := h d (by simp)
      rw [List.map_map, List.pairwise_map]
      have e := List.pairwise_map.mp (show List.Pairwise _ ((prs d).map (·.1)) from this)
      exact e.imp fun {a b} hab => (ltJ_cons (k : Int) a.1 b.1).trans hab
    · obtain ⟨p, hp, rfl⟩ := List.mem_map.mp hx
      obtain ⟨q, hq, rfl⟩ := List.mem_map.mp hp
      obtain ⟨p', hp', rfl⟩ := List.mem_map.mp hy
      obtain ⟨j, u, q', _, _, rfl⟩ := prss_mem hp'
      exact ltJ_lt (by omega) _ _
theorem prs_rise : ∀ t, tk ns t = true → Rise ((prs t).map (·.1)) := tk_ind1 (fun i => by rw [prs_int]; exact List.pairwise_singleton _ _) fun z ts hz hl h => by
  rw [prs_tup, List.map_cons]
  refine List.pairwise_cons.mpr ⟨fun y hy => ?_, prss_rise ts 0 fun u hu => (h u hu).2⟩
  obtain ⟨p', hp', rfl⟩ := List.mem_map.mp hy
  obtain ⟨j, u, q', _, _, rfl⟩ := prss_mem hp'
  rfl
theorem prs_head : ∀ t, tk ns t = true → ∃ l, prs t = ([], t) :: l := tk_ind1 (fun i => ⟨_, prs_int i⟩) fun z ts hz hl h => ⟨_, prs_tup _ _⟩
theorem ixT {l : List D} {k : Nat} {x : D} (h : l[k]? = some x) : ixD (.tup l) (.int (k : Int)) = .ok x := by
  simp only [ixD]
  rw [M.atI_nat, h]
theorem ixLn {l : List D} {k : Nat} {x : D} (h : l[k]? = some x) : ixD (.lst l) (.int (k : Int)) = .ok x := by
  simp only [ixD]
  rw [M.atI_nat, h]
theorem nums_mem : ∀ {ds : List D} {d : D}, d ∈ ds → num d ≤ nums ds
  | x :: r, d, h => by
    simp only [nums]
    rcases List.mem_cons.mp h with rfl | h
    · omega
    · have := nums_mem h; omega
/-! ### the law's own list of parts -/
def partB : Sl → Res Out := appendO 1 (tupF (cons1 (two (tupF (cons1 (two (rdS 2) (cI 1) subI) nil1)) (rdS 3) addD) (cons1 (rdS 4) nil1)))
theorem parts_in (t : Slot) (k : Nat) : ∀ (L : List (List Int × D)) (acc : List D) (u v : Slot), (∀ p ∈ L, p.1.length ≤ 100) → acc.length + L.length ≤ 2000 →
    ∃ u' v', forD (turnD (g2 (gN 3) (gN 4)) partB) (L.map pr2) [t, .own (.lst acc), .shr (.int ((k : Int) + 1)), u, v] = .ok (.nx [t, .own (.lst (acc ++ (L.map fun p => ((k : Int) :: p.1, p.2)).map pr2)), .shr (.int ((k : Int) + 1)), u', v'])
  | [], acc, u, v, _, _ => ⟨u, v, by simp [forD]⟩
  | p :: L, acc, u, v, h, hl => by
    simp only [List.length_cons] at hl
    have hstep : turnD (g2 (gN 3) (gN 4)) partB (pr2 p) [t, .own (.lst acc), .shr (.int ((k : Int) + 1)), u, v] = .ok (.nx [t, .own (.lst (acc ++ [pr2 ((k : Int) :: p.1, p.2)])), .shr (.int ((k : Int) + 1)), .shr (pathD p.1), .shr p.2]) := by
      rw [turn_ok (env' := [t, .own (.lst acc), .shr (.int ((k : Int) + 1)), .shr (pathD p.1), .shr p.2]) rfl]
      have hp := h p (by simp)
      refine (append_ok (ds := acc) (d := pr2 ((k : Int) :: p.1, p.2)) rfl (tup_ok (cons_ok (two_ok (z := pathD ((k : Int) :: p.1)) (tup_ok (cons_ok (two_ok rfl rfl rfl) rfl) (small_of (by simp))) rfl ?_) (cons_ok rfl rfl)) (small_of (by simp))) (Nat.lt_of_lt_of_le (show acc.length < 20000 by omega) big1)).trans rfl
      refine (add_tup rfl (small_of (by simp; omega))).trans ?_
      have : ((k : Int) + 1 - 1) = (k : Int) := by omega
      show Res.ok (D.tup (D.int ((k : Int) + 1 - 1) :: p.1.map .int)) = _
      rw [this]; rfl
    obtain ⟨u', v', hr⟩ := parts_in t k L (acc ++ [pr2 ((k : Int) :: p.1, p.2)]) (.shr (pathD p.1)) (.shr p.2) (fun q hq => h q (by simp [hq])) (by simp; omega)
    refine ⟨u', v', ?_⟩
    rw [List.map_cons, forD_go hstep, hr]
    simp
def partO (n : Nat) : Sl → Res Out := forO (itF (callF 1 (F__law_parts n) (cons1 (two (rdS 0) (rdS 2) ixD) nil1))) (g2 (gN 3) (gN 4)) partB
theorem parts_out {n : Nat} {z : Str} {ts : List D} (ih : ∀ u ∈ ts, F__law_parts n [u] = .ok (.lst ((prs u).map pr2)) ∧ ∀ p ∈ prs u, p.1.length ≤ 100) :
    ∀ (r pre : List D) (acc : List D) (u v w : Slot), ts = pre ++ r → acc.length + nums r ≤ 2000 →
    ∃ u' v' w', forD (turnD (gN 2) (partO n)) (intsD ((pre.length : Int) + 1) r.length) [.shr (.tup (.str z :: ts)), .own (.lst acc), u, v, w] = .ok (.nx [.shr (.tup (.str z :: ts)), .own (.lst (acc ++ (prss pre.length r).map pr2)), u', v', w'])
  | [], pre, acc, u, v, w, _, _ => ⟨u, v, w, by rw [prss_nil]; simp [forD, intsD_zero]⟩
  | d :: r, pre, acc, u, v, w, e, hl => by
    simp only [nums] at hl
    have hd : d ∈ ts := by rw [e]; simp
    obtain ⟨h1, h2⟩ := ih d hd
    have hx : ixD (.tup (.str z :: ts)) (.int ((pre.length : Int) + 1)) = .ok d := by
      have : ((pre.length : Int) + 1) = ((pre.length + 1 : Nat) : Int) := by omega
      rw [this]
      exact ixT (by rw [e]; simp)
    have hlen := prs_len d
    obtain ⟨v', w', hin⟩ := parts_in (.shr (.tup (.str z :: ts))) pre.length (prs d) acc v w h2 (by rw [hlen]; omega)
    have hstep : turnD (gN 2) (partO n) (.int ((pre.length : Int) + 1)) [.shr (.tup (.str z :: ts)), .own (.lst acc), u, v, w] = .ok (.nx [.shr (.tup (.str z :: ts)), .own (.lst (acc ++ ((prs d).map fun p => ((pre.length : Int) :: p.1, p.2)).map pr2)), .shr (.int ((pre.length : Int) + 1)), v', w']) := by
      rw [turn_ok (env' := [.shr (.tup (.str z :: ts)), .own (.lst acc), .shr (.int ((pre.length : Int) + 1)), v, w]) rfl]
      exact (for_ok (itF_ok (call_ok (cons_ok (two_ok rfl rfl hx) rfl) rfl h1) rfl)).trans hin
    obtain ⟨u', v2, w2, hr⟩ := parts_out ih r (pre ++ [d]) (acc ++ ((prs d).map fun p => ((pre.length : Int) :: p.1, p.2)).map pr2) (.shr (.int ((pre.length : Int) + 1))) v' w' (by simp [e]) (by simp [hlen]; omega)
    refine ⟨u', v2, w2, ?_⟩
    rw [List.length_cons, intsD_succ, forD_go hstep]
    have e2 : (((pre ++ [d]).length : Nat) : Int) + 1 = (pre.length : Int) + 1 + 1 := by simp
    rw [e2] at hr
    rw [hr, prss_cons]
    have e3 : (pre ++ [d]).length = pre.length + 1 := by simp
    rw [e3]
    simp
theorem parts1 : ∀ (n : Nat) (t : D), tk ns t = true → hgt t ≤ n → hgt t ≤ 100 → num t ≤ 1000 → F__law_parts n [t] = .ok (.lst ((prs t).map pr2))
  | 0, t, _, h, _, _ => by have := hgt_pos t; omega
  | n + 1, t, ht, h1, h2, h3 => by
    refine run_t ?_
    show g__law_parts (F__law_parts n) [.shr t, .un, .un, .un, .un] = _
    unfold g__law_parts
    have s1 : setO 1 (lstF (cons1 (tupF (cons1 (tupF nil1) (cons1 (rdS 0) nil1))) nil1)) [.shr t, .un, .un, .un, .un] = .ok (.nx [.shr t, .own (.lst [pr2 ([], t)]), .un, .un, .un]) := (setO_ok (lst_ok (cons_ok (tup_ok (cons_ok (tup_ok rfl (small_of (by simp))) (cons_ok rfl rfl)) (small_of (by simp))) rfl) (small_of (by simp)))).trans rfl
    refine (seq_nx s1).trans ?_
    rcases tk_cases ht with ⟨i, rfl⟩ | ⟨z, ts, rfl, hz, hl, hts⟩
    · refine (seq_nx ((if_f rfl).trans rfl)).trans ?_
      rw [prs_int]; rfl
    · rw [hgt_tup] at h1 h2
      rw [num_tup] at h3
      have ih : ∀ u ∈ ts, F__law_parts n [u] = .ok (.lst ((prs u).map pr2)) ∧ ∀ p ∈ prs u, p.1.length ≤ 100 := fun u hu => by
        have a1 := hgts_mem hu
        have a2 := nums_mem hu
        exact ⟨parts1 n u (hts u hu) (by omega) (by omega) (by omega), fun p hp => by have := (prs_path u (hts u hu) p hp).1; omega⟩
      obtain ⟨u', v', w', hr⟩ := parts_out (z := z) ih ts [] [pr2 ([], .tup (.str z :: ts))] .un .un .un rfl (by simp; omega)
      have hrg : rng2F (cons1 (cI 1) (cons1 (app (cons1 (rdS 0) nil1) lenD) nil1)) [.shr (.tup (.str z :: ts)), .own (.lst [pr2 ([], .tup (.str z :: ts))]), .un, .un, .un] = .ok (intsD 1 ts.length) := by
        refine (rng2_ok (i := 1) (j := ((ts.length + 1 : Nat) : Int)) (cons_ok rfl (cons_ok (app_ok (cons_ok rfl rfl) (by simp [lenD])) rfl)) ⟨by decide, by omega, by omega⟩).trans ?_
        congr 2; omega
      refine (seq_nx ((if_t rfl).trans ((for_ok hrg).trans hr))).trans ?_
      rw [prs_tup]; rfl
end
end G

set_option Elab.async false
set_option linter.all false
set_option maxRecDepth 100000
set_option maxHeartbeats 4000000
namespace G
open PySem PySem.Spec L2 M
section
variable {ns : List Str}
/-! ### paths -/
def ptD (p : List Int × D) : D := pathD p.1
def consD (k : Int) : D → D
  | .tup xs => .tup (.int k :: xs)
  | d => d
def pathB (n : Nat) : Sl → Res Out := extendO 1 (compO false 1 [2] (itF (callF 1 (F_paths n) (cons1 (rdS 3) nil1))) (gN 0) trueB (two (tupF (cons1 (rdS 1) nil1)) (rdS 0) addD))
theorem extend_l {i : Nat} {f : Sl → Res D} {env : Sl} {ds es : List D} (h1 : ownL i env = .ok ds) (h2 : f env = .ok (.lst es)) (h3 : ds.length + es.length ≤ sizeLine) : extendO i f env = .ok (.nx (env.set i (.own (.lst (ds ++ es))))) := by
  unfold extendO
  rw [h1, ev_ok, h2, ev_ok]
  exact must_pos h3
theorem paths_loop {n : Nat} {t : Slot} : ∀ (r : List D) (k : Nat) (acc : List D) (u v : Slot), (∀ d ∈ r, F_paths n [d] = .ok (.lst ((prs d).map ptD)) ∧ ∀ p ∈ prs d, p.1.length ≤ 100) → acc.length + nums r ≤ 2000 →
    ∃ u' v', forD (turnD (g2 (gN 2) (gN 3)) (pathB n)) (pairsFrom k r) [t, .own (.lst acc), u, v] = .ok (.nx [t, .own (.lst (acc ++ (prss k r).map ptD)), u', v'])
  | [], k, acc, u, v, _, _ => ⟨u, v, by rw [prss_nil]; simp [pairsFrom, forD]⟩
  | d :: r, k, acc, u, v, ih, hl => by
    simp only [nums] at hl
    obtain ⟨h1, h2⟩ := ih d (by simp)
    have hlen := prs_len d
    have hc : compO false 1 [2] (itF (callF 1 (F_paths n) (cons1 (rdS 3) nil1))) (gN 0) trueB (two (tupF (cons1 (rdS 1) nil1)) (rdS 0) addD) [t, .own (.lst acc), .shr (.int (k : Int)), .shr d] = .ok (.lst (((prs d).map ptD).map (consD k))) :=
      comp1 (c := .shr (.int (k : Int))) rfl (consD k) (fun d => ∃ p : List Int, d = pathD p ∧ p.length ≤ 100) (itF_ok (call_ok (cons_ok rfl rfl) rfl h1) rfl) (fun e he => by
        obtain ⟨p, hp, rfl⟩ := List.mem_map.mp he
        exact ⟨p.1, rfl, h2 p hp⟩) (small_of (by simp [hlen]; omega)) (fun e acc ⟨p, he, hp⟩ => by
        subst he
        exact two_ok (tup_ok (cons_ok rfl rfl) (small_of (by simp))) rfl (add_tup rfl (small_of (by simp; omega))))
    have hstep : turnD (g2 (gN 2) (gN 3)) (pathB n) (.tup [.int (k : Int), d]) [t, .own (.lst acc), u, v] = .ok (.nx [t, .own (.lst (acc ++ ((prs d).map ptD).map (consD k))), .shr (.int (k : Int)), .shr d]) := by
      rw [turn_ok (env' := [t, .own (.lst acc), .shr (.int (k : Int)), .shr d]) rfl]
      exact (extend_l (ds := acc) rfl hc (small_of (by simp [hlen]; omega))).trans rfl
    obtain ⟨u', v', hr⟩ := paths_loop r (k + 1) (acc ++ ((prs d).map ptD).map (consD k)) (.shr (.int (k : Int))) (.shr d) (fun e he => ih e (by simp [he])) (by simp [hlen]; omega)
    refine ⟨u', v', ?_⟩
    show forD _ (.tup [.int (k : Int), d] :: pairsFrom (k + 1) r) _ = _
    rw [forD_go hstep, hr, prss_cons]
    simp [List.map_map]
    exact fun a b _ => rfl
theorem paths1 : ∀ (n : Nat) (t : D), tk ns t = true → hgt t ≤ n → hgt t ≤ 100 → num t ≤ 1000 → F_paths n [t] = .ok (.lst ((prs t).map ptD))
  | 0, t, _, h, _, _ => by have := hgt_pos t; omega
  | n + 1, t, ht, h1, h2, h3 => by
    refine run_t ?_
    show g_paths F_places (F_paths n) [.shr t, .un, .un, .un] = _
    unfold g_paths
    have s1 : setO 1 (lstF (cons1 (tupF nil1) nil1)) [.shr t, .un, .un, .un] = .ok (.nx [.shr t, .own (.lst [pathD []]), .un, .un]) := (setO_ok (lst_ok (cons_ok (tup_ok rfl (small_of (by simp))) rfl) (small_of (by simp)))).trans rfl
    refine (seq_nx s1).trans ?_
    have en : enumT (callF 1 F_places (cons1 (rdS 0) nil1)) [.shr t, .own (.lst [pathD []]), .un, .un] = .ok (pairsFrom 0 (kids t)) := by
      show (callF 1 _ _ _ >>= _) = _
      have hcl : callF 1 F_places (cons1 (rdS 0) nil1) [.shr t, .own (.lst [pathD []]), .un, .un] = .ok (.tup (kids t)) := call_ok (ds := [t]) (cons_ok rfl rfl) rfl (places1 (fine_scr (fine_tk t ht)))
      rw [hcl]; rfl
    have ih : ∀ u ∈ kids t, F_paths n [u] = .ok (.lst ((prs u).map ptD)) ∧ ∀ p ∈ prs u, p.1.length ≤ 100 := fun u hu => by
      have hku : tk ns u = true := by
        rcases tk_cases ht with ⟨i, rfl⟩ | ⟨z, ts, rfl, hz, hl, hts⟩
        · cases hu
        · exact hts u hu
      have a1 := hgts_mem hu
      have a2 := nums_mem hu
      rw [hgt_eq] at h1 h2
      rw [num_eq] at h3
      exact ⟨paths1 n u hku (by omega) (by omega) (by omega), fun p hp => by have := (prs_path u hku p hp).1; omega⟩
    obtain ⟨u', v', hr⟩ := paths_loop (t := .shr t) (kids t) 0 [pathD []] .un .un ih (by rw [num_eq] at h3; simp; omega)
    refine (seq_nx ((for_ok en).trans hr)).trans ?_
    rcases tk_cases ht with ⟨i, rfl⟩ | ⟨z, ts, rfl, hz, hl, hts⟩
    · rw [prs_int]; rfl
    · rw [prs_tup]; rfl
theorem intsT_ints : ∀ p : List Int, intsT (p.map .int) = some p
  | [] => rfl
  | i :: p => by simp [intsT, intsT_ints p]
theorem rowsD_paths : ∀ L : List (List Int × D), rowsD (L.map ptD) = some (L.map (·.1))
  | [] => rfl
  | p :: L => by simp [rowsD, ptD, pathD, intsT_ints, rowsD_paths L]
theorem sorted1 {t : D} (ht : tk ns t = true) (hn : num t < 64) : sortedUp [.lst ((prs t).map ptD)] = .ok (.lst ((prs t).map ptD)) := by
  obtain ⟨l, hl⟩ := prs_head t ht
  have hr := prs_rise t ht
  have hlen := prs_len t
  have hrow := rowsD_paths (prs t)
  rw [hl] at hr hrow
  simp only [List.map_cons] at hr hrow
  rw [hl] at hlen
  unfold sortedUp
  rw [hl]
  simp only [List.map_cons]
  rw [hrow]
  exact must_pos ⟨hr, by simp at hlen ⊢; omega⟩
/-! ### a path's way -/
def stepD (d : D) : D → Option D
  | .int i => if 0 ≤ i then (kids d)[i.toNat]? else none
  | _ => none
def goD : D → List D → Option D
  | d, [] => some d
  | d, x :: r => match stepD d x with
    | some e => goD e r
    | none => none
def orNo (o : Option D) : Res D := match o with
  | some e => .ok e
  | none => .exc "NoPath"
def isI : D → Bool | .int _ => true | _ => false
theorem whole1 {x : D} (h : noScr x = true) : F_is_whole [x] = .ok (.bl (isI x)) := by
  cases x <;> first | rfl | cases h
theorem seqX_nx {g1 g2 : Sl → Res Out} {env env' : Sl} (h : g1 env = .ok (.nx env')) : seqO (calmO g1) g2 env = g2 env' := by
  refine seq_nx ?_
  show nx1 (g1 env) = _
  rw [h]; rfl
theorem calm_rt {g : Sl → Res Out} {env : Sl} {fr : Bool} {d : D} (h : g env = .ok (.rt fr d)) : calmO g env = .ok (.rt fr d) := by
  show nx1 (g env) = _
  rw [h]; rfl
theorem seq_exc {g1 g2 : Sl → Res Out} {env : Sl} {c : Str} (h : g1 env = .exc c) : seqO g1 g2 env = .exc c := by
  show (g1 env >>= _) = _
  rw [h]; rfl
theorem ifX_ok {t : Sl → Res Bool} {g1 g2 : Sl → Res Out} {env : Sl} {b : Bool} (h : t env = .ok b) : ifX t g1 g2 env = if b = true then g1 env else g2 env := by
  unfold ifX; rw [h]
theorem place_there1 {d x : D} (hd : noScr d = true) (hx : noScr x = true) : F_place_there [d, x] = orNo (stepD d x) := by
  have hs1 : setOs 2 (callF 1 F_places (cons1 (rdS 0) nil1)) [.shr d, .shr x, .un] = .ok (.nx [.shr d, .shr x, .shr (.tup (kids d))]) := (setOs_ok (call_ok (cons_ok rfl rfl) rfl (places1 hd))).trans rfl
  have hw : notB (asB (callF 1 F_is_whole (cons1 (rdS 1) nil1))) [.shr d, .shr x, .shr (.tup (kids d))] = .ok (!isI x) := notB_ok (asB_ok (call_ok (cons_ok rfl rfl) rfl (whole1 hx)))
  have main : g_place_there F_places F_is_whole [.shr d, .shr x, .un] = match stepD d x with | some e => .ok (.rt false e) | none => .exc "NoPath" := by
    unfold g_place_there
    rw [seqX_nx hs1]
    cases hi : isI x with
    | false =>
      have ht : orB (notB (asB (callF 1 F_is_whole (cons1 (rdS 1) nil1)))) (notB (asB (chain (cI 0) (rdS 1) (app (cons1 (rdS 2) nil1) lenD) leI ltI))) [.shr d, .shr x, .shr (.tup (kids d))] = .ok true := by
        rw [ev_orB, hw, hi]; rfl
      have hn : stepD d x = none := by cases x <;> first | rfl | cases hi
      rw [hn, seq_exc ((ifX_ok ht).trans rfl)]
    | true =>
      obtain ⟨i, rfl⟩ : ∃ i, x = .int i := by cases x <;> first | exact ⟨_, rfl⟩ | cases hi
      have hch : notB (asB (chain (cI 0) (rdS 1) (app (cons1 (rdS 2) nil1) lenD) leI ltI)) [.shr d, .shr (.int i), .shr (.tup (kids d))] = .ok (!(decide (0 ≤ i) && decide (i < ((kids d).length : Int)))) := by
        refine notB_ok (asB_ok ?_)
        show (Res.ok (D.bl (decide (0 ≤ i))) >>= chK (.ok (.int ((kids d).length : Int))) ltI (.int i)) = _
        cases decide (0 ≤ i) <;> rfl
      have ht := or_ok hw hch
      by_cases h0 : 0 ≤ i ∧ i < ((kids d).length : Int)
      · have hlt : i.toNat < (kids d).length := by omega
        have e1 : stepD d (.int i) = some (kids d)[i.toNat] := by
          simp only [stepD]
          rw [if_pos h0.1, List.getElem?_eq_getElem hlt]
        have e2 : ((!isI (.int i)) || !(decide (0 ≤ i) && decide (i < ((kids d).length : Int)))) = false := by simp [isI, h0]
        rw [e2] at ht
        rw [e1, seq_nx ((ifX_ok ht).trans rfl)]
        refine calm_rt (retS_ok (two_ok rfl rfl ?_))
        have e3 : i = ((i.toNat : Nat) : Int) := by omega
        have e4 := ixT (List.getElem?_eq_getElem hlt)
        rw [← e3] at e4
        exact e4
      · have e1 : stepD d (.int i) = none := by
          simp only [stepD]
          by_cases h1 : 0 ≤ i
          · rw [if_pos h1, List.getElem?_eq_none (by omega)]
          · rw [if_neg h1]
        have e2 : ((!isI (.int i)) || !(decide (0 ≤ i) && decide (i < ((kids d).length : Int)))) = true := by
          simp only [isI, Bool.not_true, Bool.false_or, Bool.not_eq_true', Bool.and_eq_false_iff, decide_eq_false_iff_not]
          omega
        rw [e2] at ht
        rw [e1, seq_exc ((ifX_ok ht).trans rfl)]
  show runX false 3 (g_place_there F_places F_is_whole) [d, x] = _
  unfold runX
  rw [show startE 3 [d, x] = [.shr d, .shr x, .un] from rfl, main]
  cases stepD d x <;> rfl
theorem step_fine {d x e : D} (h : fine d = true) (hs : stepD d x = some e) : fine e = true := by
  unfold stepD at hs
  split at hs
  · split at hs
    · exact fines_mem (fine_kids h).1 (List.mem_of_getElem? hs)
    · cases hs
  · cases hs
theorem forD_exc {body : D → Sl → Res Out} {d : D} {ds : List D} {env : Sl} {c : Str} (h : body d env = .exc c) : forD body (d :: ds) env = .exc c := by
  simp only [forD]; rw [h]; rfl
def goB : Sl → Res Out := setOs 2 (callX 2 F_place_there (cons1 (rdS 2) (cons1 (rdS 3) nil1)))
theorem go_loop (t p : Slot) : ∀ (xs : List D) (d : D) (u : Slot), fine d = true → (∀ x ∈ xs, noScr x = true) → match goD d xs with
    | some e => ∃ u', forD (turnX (gN 3) goB) xs [t, p, .shr d, u] = .ok (.nx [t, p, .shr e, u'])
    | none => forD (turnX (gN 3) goB) xs [t, p, .shr d, u] = .exc "NoPath"
  | [], d, u, _, _ => ⟨u, rfl⟩
  | x :: r, d, u, hd, hx => by
    have hp := place_there1 (fine_scr hd) (hx x (by simp))
    have hb : turnX (gN 3) goB x [t, p, .shr d, u] = (orNo (stepD d x) >>= fun e => .ok (.nx [t, p, .shr e, .shr x])) := by
      show goB [t, p, .shr d, .shr x] = _
      unfold goB
      have hc : callX 2 F_place_there (cons1 (rdS 2) (cons1 (rdS 3) nil1)) [t, p, .shr d, .shr x] = orNo (stepD d x) := by
        unfold callX
        rw [show cons1 (rdS 2) (cons1 (rdS 3) nil1) [t, p, .shr d, .shr x] = .ok [d, x] from rfl]
        exact hp
      rw [ev_setOs, hc]; rfl
    simp only [goD]
    cases hs : stepD d x with
    | none =>
      rw [hs] at hb
      exact forD_exc hb
    | some e =>
      rw [hs] at hb
      have ih := go_loop t p r e (.shr x) (step_fine hd hs) fun y hy => hx y (by simp [hy])
      dsimp only
      have hg : ∀ w, forD (turnX (gN 3) goB) (x :: r) w = forD (turnX (gN 3) goB) (x :: r) w := fun _ => rfl
      rw [forD_go (show turnX (gN 3) goB x [t, p, .shr d, u] = .ok (.nx [t, p, .shr e, .shr x]) from hb)]
      exact ih
theorem part_there1 {d : D} {xs : List D} (hd : fine d = true) (hx : ∀ x ∈ xs, noScr x = true) : F_part_there [d, .tup xs] = orNo (goD d xs) := by
  have hl := go_loop (.shr d) (.shr (.tup xs)) xs d .un hd hx
  have main : g_part_there F_place_there [.shr d, .shr (.tup xs), .un, .un] = match goD d xs with | some e => .ok (.rt false e) | none => .exc "NoPath" := by
    unfold g_part_there
    rw [seq_nx ((ifX_ok (b := false) rfl).trans rfl)]
    rw [seqX_nx (env' := [.shr d, .shr (.tup xs), .shr d, .un]) rfl]
    show seqO (forX (itF (rdS 1)) (gN 3) goB) _ _ = _
    have hf : forX (itF (rdS 1)) (gN 3) goB [.shr d, .shr (.tup xs), .shr d, .un] = forD (turnX (gN 3) goB) xs [.shr d, .shr (.tup xs), .shr d, .un] := rfl
    cases hg : goD d xs with
    | none =>
      rw [hg] at hl
      exact seq_exc (hf.trans hl)
    | some e =>
      rw [hg] at hl
      obtain ⟨u', hl⟩ := hl
      rw [seq_nx (hf.trans hl)]
      rfl
  show runX false 4 (g_part_there F_place_there) [d, .tup xs] = _
  unfold runX
  rw [show startE 4 [d, .tup xs] = [.shr d, .shr (.tup xs), .un, .un] from rfl, main]
  cases goD d xs <;> rfl
end
end G

set_option Elab.async false
set_option linter.all false
set_option maxRecDepth 100000
set_option maxHeartbeats 4000000
namespace G
open PySem PySem.Spec L2 M
section
variable {ns : List Str}
/-! ### part, put: as part_there and put_there tell -/
theorem runX_exc' {fr : Bool} {n : Nat} {g : Sl → Res Out} {ds : List D} {c : Str} (h : g (startE n ds) = .exc c) : runX fr n g ds = .exc c := by
  unfold runX; rw [h]
theorem runX_f {n : Nat} {g : Sl → Res Out} {ds : List D} {d : D} (h : g (startE n ds) = .ok (.rt false d)) : runX false n g ds = .ok d := by
  unfold runX; rw [h]; rfl
theorem callX_eq {n : Nat} {F : List D → Res D} {g : Sl → Res (List D)} {env : Sl} {ds : List D} (h : g env = .ok ds) (hn : ds.length = n) : callX n F g env = F ds := by
  unfold callX; rw [h]; exact must_pos hn
theorem cx2 {F : List D → Res D} {t o : D} {r : Sl} : callX 2 F (cons1 (rdS 0) (cons1 (rdS 1) nil1)) (.shr t :: .shr o :: r) = F [t, o] := callX_eq (ds := [t, o]) rfl rfl
theorem part_no {t o : D} (h : F_part_there [t, o] = .exc "NoPath") : F_part [t, o] = .exc "NoPath" := by
  refine runX_exc' ?_
  show (callY F_bounded (callX 2 F_part_there (cons1 (rdS 0) (cons1 (rdS 1) nil1))) [.shr t, .shr o] >>= _) = _
  have hc : callY F_bounded (callX 2 F_part_there (cons1 (rdS 0) (cons1 (rdS 1) nil1))) [.shr t, .shr o] = .exc "NoPath" := by
    unfold callY
    rw [cx2, h]; rfl
  rw [hc]; rfl
theorem part_yes {t o e : D} (h : F_part_there [t, o] = .ok e) (he : fine e = true) (hg : isGr e = false) : F_part [t, o] = .ok e := by
  refine runX_f ?_
  show (callY F_bounded (callX 2 F_part_there (cons1 (rdS 0) (cons1 (rdS 1) nil1))) [.shr t, .shr o] >>= _) = _
  have hc : callY F_bounded (callX 2 F_part_there (cons1 (rdS 0) (cons1 (rdS 1) nil1))) [.shr t, .shr o] = .ok e := by
    unfold callY
    rw [cx2, h, ev_ok, bounded1 he, hg]; rfl
  rw [hc]; rfl
theorem put_no {t o x : D} (h : F_part_there [t, o] = .exc "NoPath") : F_put [t, o, x] = .exc "NoPath" := by
  refine runX_exc' ?_
  show seqO _ _ [.shr t, .shr o, .shr x] = _
  refine seq_exc ?_
  show (callX 2 F_part_there _ _ >>= _) = _
  rw [cx2, h]; rfl
theorem put_yes {t o x e y : D} (h : F_part_there [t, o] = .ok e) (hp : F_put_there 64 [t, o, x] = .ok y) (hy : fine y = true) : F_put [t, o, x] = if isGr y = true then .exc "TooGreat" else .ok y := by
  have h1 : dropO (callX 2 F_part_there (cons1 (rdS 0) (cons1 (rdS 1) nil1))) [.shr t, .shr o, .shr x] = .ok (.nx [.shr t, .shr o, .shr x]) := by
    show (callX 2 F_part_there _ _ >>= _) = _
    rw [cx2, h]; rfl
  have hc : callX 1 F_bounded (cons1 (callF 3 (F_put_there 64) (cons1 (rdS 0) (cons1 (rdS 1) (cons1 (rdS 2) nil1)))) nil1) [.shr t, .shr o, .shr x] = if isGr y = true then .exc "TooGreat" else .ok y :=
    (callX_eq (ds := [y]) (cons_ok (call_ok (ds := [t, o, x]) (cons_ok rfl (cons_ok rfl (cons_ok rfl rfl))) rfl hp) rfl) rfl).trans (bounded1 hy)
  have main : g_put F_part_there F_bounded (F_put_there 64) (startE 3 [t, o, x]) = if isGr y = true then .exc "TooGreat" else .ok (.rt false y) := by
    show seqO _ _ [.shr t, .shr o, .shr x] = _
    refine (seq_nx h1).trans ?_
    show (callX 1 _ _ _ >>= _) = _
    rw [hc]
    cases isGr y <;> rfl
  show runX false 3 _ _ = _
  unfold runX
  rw [main]
  cases isGr y <;> rfl
/-! ### a term with another one at a path -/
def putAt (o : D) : List Int → D → D
  | [], _ => o
  | i :: p, .tup (h :: ts) => .tup (h :: ts.set i.toNat (putAt o p (ts.getD i.toNat (.int 0))))
  | _ :: _, d => d
theorem putAt_tup (o : D) (i : Int) (p : List Int) (h : D) (ts : List D) : putAt o (i :: p) (.tup (h :: ts)) = .tup (h :: ts.set i.toNat (putAt o p (ts.getD i.toNat (.int 0)))) := by simp [putAt]
theorem way_cons {t e : D} {i : Int} {p : List Int} (ht : tk ns t = true) (h : goD t ((i :: p).map .int) = some e) :
    ∃ z ts u, t = .tup (.str z :: ts) ∧ z ∈ ns ∧ ts.length ≤ 9 ∧ (∀ u ∈ ts, tk ns u = true) ∧ 0 ≤ i ∧ ts[i.toNat]? = some u ∧ goD u (p.map .int) = some e := by
  simp only [List.map_cons, goD] at h
  cases hs : stepD t (.int i) with
  | none => rw [hs] at h; cases h
  | some u =>
    rw [hs] at h
    simp only [stepD] at hs
    split at hs
    · rename_i h0
      rcases tk_cases ht with ⟨j, rfl⟩ | ⟨z, ts, rfl, hz, hl, hts⟩
      · cases hs
      · exact ⟨z, ts, u, rfl, hz, hl, hts, h0, hs, h⟩
    · cases hs
theorem tk_putAt {o : D} (ho : tk ns o = true) : ∀ (p : List Int) (t : D), tk ns t = true → tk ns (putAt o p t) = true
  | [], t, _ => by simpa [putAt] using ho
  | i :: p, t, ht => by
    rcases tk_cases ht with ⟨j, rfl⟩ | ⟨z, ts, rfl, hz, hl, hts⟩
    · simpa [putAt] using ht
    · rw [putAt_tup]
      refine tk_nd hz (by simpa using hl) fun u hu => ?_
      rcases List.mem_or_eq_of_mem_set hu with h | rfl
      · exact hts u h
      · refine tk_putAt ho p _ ?_
        rw [List.getD_eq_getElem?_getD]
        cases h : ts[i.toNat]? with
        | none => rfl
        | some v => exact hts v (List.mem_of_getElem? h)
theorem hgts_set {w : D} : ∀ (ts : List D) (k : Nat), hgts (ts.set k w) ≤ max (hgts ts) (hgt w)
  | [], k => by simp [hgts]
  | d :: r, 0 => by simp only [List.set_cons_zero, hgts]; omega
  | d :: r, k + 1 => by have := hgts_set (w := w) r k; simp only [List.set_cons_succ, hgts]; omega
theorem nums_set {w : D} : ∀ (ts : List D) (k : Nat), nums (ts.set k w) + num (ts.getD k (.int 0)) ≤ nums ts + num w + 1
  | [], k => by simp [nums, num]
  | d :: r, 0 => by simp only [List.set_cons_zero, nums, List.getD_cons_zero]; omega
  | d :: r, k + 1 => by have := nums_set (w := w) r k; simp only [List.set_cons_succ, nums, List.getD_cons_succ]; omega
theorem size_putAt {o : D} : ∀ (p : List Int) (t e : D), tk ns t = true → goD t (p.map .int) = some e → hgt (putAt o p t) ≤ max (hgt t) (p.length + hgt o) ∧ num (putAt o p t) ≤ num t + num o + p.length
  | [], t, e, _, _ => by simp only [putAt, List.length_nil]; omega
  | i :: p, t, e, ht, h => by
    obtain ⟨z, ts, u, rfl, hz, hl, hts, h0, hu, hg⟩ := way_cons ht h
    have hm := List.mem_of_getElem? hu
    obtain ⟨a1, a2⟩ := size_putAt (o := o) p u e (hts u hm) hg
    have e1 : ts.getD i.toNat (.int 0) = u := by rw [List.getD_eq_getElem?_getD, hu]; rfl
    have b1 := hgts_set (w := putAt o p u) ts i.toNat
    have b2 := nums_set (w := putAt o p u) ts i.toNat
    have b3 := hgts_mem hm
    rw [putAt_tup, e1, hgt_tup, num_tup, hgt_tup, num_tup, List.length_cons]
    rw [e1] at b2
    omega
theorem goD_int {i : Int} : goD (.int i) [] = some (.int i) := rfl
theorem prs_go : ∀ t, tk ns t = true → ∀ q ∈ prs t, goD t (q.1.map .int) = some q.2 := tk_ind1 (fun i q hq => by
    rw [prs_int] at hq
    simp only [List.mem_cons, List.not_mem_nil, or_false] at hq
    subst hq; rfl) fun z ts hz hl h q hq => by
  rw [prs_tup] at hq
  rcases List.mem_cons.mp hq with rfl | hq
  · rfl
  · obtain ⟨j, u, p, h1, h2, rfl⟩ := prss_mem hq
    have := (h u (mem_get h1)).2 p h2
    simp only [List.map_cons, goD, stepD]
    rw [if_pos (by omega)]
    have e : (((0 + j : Nat) : Int)).toNat = j := by omega
    rw [e, show (kids (D.tup (D.str z :: ts)))[j]? = some u from h1]
    exact this
/-! ### put_there -/
theorem dep_ints : ∀ p : List Int, D.deps (p.map .int) = 0 ∧ D.eqbs (p.map .int) = true
  | [] => ⟨rfl, rfl⟩
  | i :: p => by simp [D.deps, D.dep, D.eqbs, D.eqb, dep_ints p]
theorem eq_nil (p : List Int) : eqR (pathD p) (.tup []) = .ok (.bl p.isEmpty) := by
  obtain ⟨h1, h2⟩ := dep_ints p
  have hc : EqC (pathD p) (.tup []) := .inl ⟨by simpa [pathD, D.eqb] using h2, rfl, by simp [pathD, D.dep, h1]⟩
  refine (must_pos hc).trans ?_
  cases p <;> rfl
theorem cut_to (l : List D) (k : Nat) : cutD l none (some (k : Int)) = l.take k := by
  unfold cutD
  rw [HT.sIx_none, HT.sIx_nat]
  simp
theorem cut_from (l : List D) (k : Nat) : cutD l (some (k : Int)) none = l.drop k := by
  unfold cutD
  rw [HT.sIx_none, HT.sIx_nat]
  by_cases h : k ≤ l.length
  · rw [Nat.min_eq_left h]; exact List.take_of_length_le (by simp)
  · rw [Nat.min_eq_right (by omega), List.drop_of_length_le (Nat.le_refl _), List.drop_of_length_le (by omega)]; simp
theorem put_there1 {o : D} : ∀ (n : Nat) (p : List Int) (t e : D), p.length < n → tk ns t = true → goD t (p.map .int) = some e → F_put_there n [t, pathD p, o] = .ok (putAt o p t)
  | 0, p, t, e, h, _, _ => by omega
  | n + 1, [], t, e, h, ht, hg => by
    refine run_f ?_
    show g_put_there (F_put_there n) [.shr t, .shr (pathD []), .shr o, .un] = _
    unfold g_put_there
    refine seq_rt ((if_t (asB_ok ((two_ok rfl (tup_ok rfl (small_of (by simp))) (eq_nil [])).trans rfl))).trans (retS_ok ?_))
    simp only [putAt]; rfl
  | n + 1, i :: p, t, e, h, ht, hg => by
    obtain ⟨z, ts, u, rfl, hz, hl, hts, h0, hu, hg2⟩ := way_cons ht hg
    have ih := put_there1 (o := o) n p u e (by simp at h; omega) (hts u (List.mem_of_getElem? hu)) hg2
    obtain ⟨k, rfl⟩ : ∃ k : Nat, i = (k : Int) := ⟨i.toNat, by omega⟩
    simp only [Int.toNat_natCast] at hu
    have e1 : ts.getD k (.int 0) = u := by rw [List.getD_eq_getElem?_getD, hu]; rfl
    have hk : k < ts.length := by
      by_cases z : k < ts.length
      · exact z
      · rw [List.getElem?_eq_none (by omega)] at hu; cases hu
    rw [putAt_tup, Int.toNat_natCast, e1]
    generalize putAt o p u = w at ih
    refine run_t ?_
    show g_put_there (F_put_there n) [.shr (.tup (.str z :: ts)), .shr (pathD ((k : Int) :: p)), .shr o, .un] = _
    unfold g_put_there
    refine (seq_nx ((if_f (asB_ok ((two_ok rfl (tup_ok rfl (small_of (by simp))) (eq_nil ((k : Int) :: p))).trans rfl))).trans rfl)).trans ?_
    refine (seq_nx (env' := [.shr (.tup (.str z :: ts)), .shr (pathD ((k : Int) :: p)), .shr o, .shr (.int ((k + 1 : Nat) : Int))]) ((setOs_ok (two_ok (two_ok rfl rfl ix0) rfl rfl)).trans rfl)).trans ?_
    have c1 : slice3 (rdS 0) noneI (someI (rdS 3)) slD [.shr (.tup (.str z :: ts)), .shr (pathD ((k : Int) :: p)), .shr o, .shr (.int ((k + 1 : Nat) : Int))] = .ok (.tup (.str z :: ts.take k)) := by
      refine (slice_ok rfl rfl (someI_ok rfl) rfl).trans ?_
      rw [cut_to]; rfl
    have c2 : slice3 (rdS 0) (someI (two (rdS 3) (cI 1) addD)) noneI slD [.shr (.tup (.str z :: ts)), .shr (pathD ((k : Int) :: p)), .shr o, .shr (.int ((k + 1 : Nat) : Int))] = .ok (.tup (ts.drop (k + 1))) := by
      refine (slice_ok rfl (someI_ok (j := ((k + 2 : Nat) : Int)) (two_ok rfl rfl rfl)) rfl rfl).trans ?_
      rw [cut_from]; rfl
    have c3 : callF 3 (F_put_there n) (cons1 (two (rdS 0) (rdS 3) ixD) (cons1 (slice3 (rdS 1) (someI (cI 1)) noneI slD) (cons1 (rdS 2) nil1))) [.shr (.tup (.str z :: ts)), .shr (pathD ((k : Int) :: p)), .shr o, .shr (.int ((k + 1 : Nat) : Int))] = .ok w := by
      refine call_ok (ds := [u, pathD p, o]) (cons_ok (two_ok rfl rfl (ixT (by simpa using hu))) (cons_ok ((slice_ok rfl (someI_ok rfl) rfl rfl).trans ?_) (cons_ok rfl rfl))) rfl ih
      rw [show (pathD ((k : Int) :: p)) = .tup (.int (k : Int) :: p.map .int) from rfl] at *
      show Res.ok (D.tup (cutD (.int (k : Int) :: p.map .int) (some 1) none)) = _
      rw [cut1]; rfl
    refine retO_ok ((two_ok (two_ok c1 (tup_ok (cons_ok c3 rfl) (small_of (by simp))) (add_tup rfl (small_of (by simp; omega)))) c2 (add_tup (by simp) (small_of (by simp; omega)))).trans ?_)
    have : ts.set k w = ts.take k ++ w :: ts.drop (k + 1) := by rw [List.set_eq_take_append_cons_drop, if_pos hk]
    rw [this]
    simp
/-! ### the law's own way -/
theorem with1 {o : D} (ho : tk ns o = true) : ∀ (n : Nat) (p : List Int) (t e : D), p.length < n → tk ns t = true → goD t (p.map .int) = some e → F__law_with n [t, pathD p, o] = .ok (putAt o p t)
  | 0, p, t, e, h, _, _ => by omega
  | n + 1, [], t, e, h, ht, hg => by
    refine run_f ?_
    show g__law_with (F__law_with n) [.shr t, .shr (pathD []), .shr o, .un] = _
    unfold g__law_with
    refine seq_rt ((if_t (asB_ok ((two_ok (app_ok (cons_ok rfl rfl) rfl) rfl eqR_int).trans rfl))).trans (retS_ok ?_))
    simp only [putAt]; rfl
  | n + 1, i :: p, t, e, h, ht, hg => by
    have hk2 := tk_putAt ho (i :: p) t ht
    obtain ⟨z, ts, u, rfl, hz, hl, hts, h0, hu, hg2⟩ := way_cons ht hg
    have ih := with1 ho n p u e (by simp at h; omega) (hts u (List.mem_of_getElem? hu)) hg2
    obtain ⟨k, rfl⟩ : ∃ k : Nat, i = (k : Int) := ⟨i.toNat, by omega⟩
    simp only [Int.toNat_natCast] at hu
    have e1 : ts.getD k (.int 0) = u := by rw [List.getD_eq_getElem?_getD, hu]; rfl
    have hk : k < ts.length := by
      by_cases z : k < ts.length
      · exact z
      · rw [List.getElem?_eq_none (by omega)] at hu; cases hu
    rw [putAt_tup, Int.toNat_natCast, e1] at hk2 ⊢
    generalize putAt o p u = w at ih hk2 ⊢
    refine run_t ?_
    show g__law_with (F__law_with n) [.shr (.tup (.str z :: ts)), .shr (pathD ((k : Int) :: p)), .shr o, .un] = _
    unfold g__law_with
    have t1 : asB (two (app (cons1 (rdS 1) nil1) lenD) (cI 0) eqR) [.shr (.tup (.str z :: ts)), .shr (pathD ((k : Int) :: p)), .shr o, .un] = .ok false := by
      refine asB_ok ((two_ok (app_ok (cons_ok rfl rfl) rfl) rfl eqR_int).trans ?_)
      congr 2
    refine (seq_nx ((if_f t1).trans rfl)).trans ?_
    refine (seq_nx (env' := [.shr (.tup (.str z :: ts)), .shr (pathD ((k : Int) :: p)), .shr o, .own (.lst (.str z :: ts))]) ((setO_ok (app_ok (cons_ok rfl rfl) rfl)).trans rfl)).trans ?_
    have a1 : two (two (rdS 1) (cI 0) ixD) (cI 1) addD [.shr (.tup (.str z :: ts)), .shr (pathD ((k : Int) :: p)), .shr o, .own (.lst (.str z :: ts))] = .ok (.int ((k + 1 : Nat) : Int)) := (two_ok (two_ok rfl rfl ix0) rfl rfl).trans rfl
    have c3 : callF 3 (F__law_with n) (cons1 (two (rdB 3) (two (two (rdS 1) (cI 0) ixD) (cI 1) addD) ixD) (cons1 (slice3 (rdS 1) (someI (cI 1)) noneI slD) (cons1 (rdS 2) nil1))) [.shr (.tup (.str z :: ts)), .shr (pathD ((k : Int) :: p)), .shr o, .own (.lst (.str z :: ts))] = .ok w := by
      refine call_ok (ds := [u, pathD p, o]) (cons_ok (two_ok rfl a1 (ixLn (by simpa using hu))) (cons_ok ((slice_ok rfl (someI_ok rfl) rfl rfl).trans ?_) (cons_ok rfl rfl))) rfl ih
      show Res.ok (D.tup (cutD (.int (k : Int) :: p.map .int) (some 1) none)) = _
      rw [cut1]; rfl
    have c4 : setIx 3 (two (two (rdS 1) (cI 0) ixD) (cI 1) addD) (callF 3 (F__law_with n) (cons1 (two (rdB 3) (two (two (rdS 1) (cI 0) ixD) (cI 1) addD) ixD) (cons1 (slice3 (rdS 1) (someI (cI 1)) noneI slD) (cons1 (rdS 2) nil1)))) [.shr (.tup (.str z :: ts)), .shr (pathD ((k : Int) :: p)), .shr o, .own (.lst (.str z :: ts))] = .ok (.nx [.shr (.tup (.str z :: ts)), .shr (pathD ((k : Int) :: p)), .shr o, .own (.lst (.str z :: ts.set k w))]) := by
      unfold setIx
      rw [show ownL 3 [.shr (.tup (.str z :: ts)), .shr (pathD ((k : Int) :: p)), .shr o, .own (.lst (.str z :: ts))] = .ok (.str z :: ts) from rfl, ev_ok, c3, ev_ok, a1, ev_ok]
      have hix : ixN (D.str z :: ts).length ((k + 1 : Nat) : Int) = some (k + 1) := by
        unfold ixN
        rw [if_pos (by omega), if_pos (by simp only [List.length_cons]; omega)]
        congr 1
      dsimp only
      rw [hix]; rfl
    refine (seq_nx c4).trans (retO_ok (chk_ok (app_ok (cons_ok rfl rfl) rfl) (imm_tk _ hk2)))
end
end G

set_option Elab.async false
set_option linter.all false
set_option maxRecDepth 100000
set_option maxHeartbeats 4000000
namespace G
open PySem PySem.Spec L2 M
section
variable {ns : List Str}
/-! ### what leads nowhere -/
structure Odd (t odd : D) : Prop where
  no : F_part_there [t, odd] = .exc "NoPath"
  eq : eqA odd odd = .ok (.bl true)
  ty : noScr odd = true
theorem isy_ok {tab : List (Str × Bool)} {f : Sl → Res D} {env : Sl} {c : Str} {b : Bool} (h : f env = .ok (.exn c)) (hl : tab.lookup c = some b) : isyF tab f env = .ok (.bl b) := by
  unfold isyF
  rw [h, ev_ok]
  unfold isyD
  dsimp only
  rw [hl]
theorem isx_ok {cs : List Str} {f : Sl → Res D} {env : Sl} {c : Str} {d : D} (h : f env = .ok (.exn c)) (hl : isxD cs (.exn c) = .ok d) : isxF cs f env = .ok d := by
  unfold isxF
  rw [h, ev_ok, hl]
theorem other1 : F__law_other [.exn "NoPath"] = .ok (.bl false) := by
  refine run_t ?_
  show g__law_other [.shr (.exn "NoPath")] = _
  unfold g__law_other
  exact (seq_nx ((if_f (asB_ok (isy_ok rfl rfl))).trans rfl)).trans (retO_ok (isy_ok rfl rfl))
theorem refused1 {t odd o : D} (h : F_part_there [t, odd] = .exc "NoPath") {k : Int} (hk : k = 0 ∨ k = 1) : F__law_refused [t, odd, o, .int k] = .ok (.bl true) := by
  refine run_t ?_
  show g__law_refused F_part F_put F__law_other [.shr t, .shr odd, .shr o, .shr (.int k), .un, .un] = _
  unfold g__law_refused
  refine (seq_nx (env' := [.shr t, .shr odd, .shr o, .shr (.int k), .shr .non, .un]) rfl).trans ?_
  have hb : ifX (asB (two (rdS 3) (cI 0) eqR)) (dropO (callX 2 F_part (cons1 (rdS 0) (cons1 (rdS 1) nil1)))) (dropO (callX 3 F_put (cons1 (rdS 0) (cons1 (rdS 1) (cons1 (rdS 2) nil1))))) [.shr t, .shr odd, .shr o, .shr (.int k), .shr .non, .un] = .exc "NoPath" := by
    rw [ifX_ok (b := k == 0) (asB_ok (two_ok rfl rfl eqR_int))]
    rcases hk with rfl | rfl
    · show (callX 2 F_part _ _ >>= _) = _
      rw [cx2, part_no h]; rfl
    · show (callX 3 F_put _ _ >>= _) = _
      have : callX 3 F_put (cons1 (rdS 0) (cons1 (rdS 1) (cons1 (rdS 2) nil1))) [.shr t, .shr odd, .shr o, .shr (.int 1), .shr .non, .un] = F_put [t, odd, o] := callX_eq (ds := [t, odd, o]) rfl rfl
      rw [this, put_no h]; rfl
  have tr : tryO ["TooGreat", "NoPath"] (ifX (asB (two (rdS 3) (cI 0) eqR)) (dropO (callX 2 F_part (cons1 (rdS 0) (cons1 (rdS 1) nil1)))) (dropO (callX 3 F_put (cons1 (rdS 0) (cons1 (rdS 1) (cons1 (rdS 2) nil1)))))) 5 (setOs 4 (rdS 5)) [.shr t, .shr odd, .shr o, .shr (.int k), .shr .non, .un] = .ok (.nx [.shr t, .shr odd, .shr o, .shr (.int k), .shr (.exn "NoPath"), .un]) := by
    unfold tryO
    rw [hb]
    dsimp only
    rw [if_pos (by decide)]
    rfl
  refine (seq_nx tr).trans (retO_ok (toB_t (isy_ok rfl rfl) (toB_t (isx_ok rfl rfl) ?_)))
  exact not_ok (b := false) (call_ok (ds := [.exn "NoPath"]) (cons_ok rfl rfl) rfl other1)
theorem goD_app : ∀ (xs ys : List D) (d e : D), goD d xs = some e → goD d (xs ++ ys) = goD e ys
  | [], ys, d, e, h => by cases h; rfl
  | x :: r, ys, d, e, h => by
    simp only [List.cons_append, goD] at h ⊢
    cases hs : stepD d x with
    | none => rw [hs] at h; cases h
    | some u => rw [hs] at h; exact goD_app r ys u e h
theorem eqA_tup {xs : List D} (h1 : ∀ x ∈ xs, D.eqb x = true ∧ D.dep x ≤ 5 ∧ eqD x x = true) : eqA (.tup xs) (.tup xs) = .ok (.bl true) ∧ eqA (.lst xs) (.lst xs) = .ok (.bl true) := by
  have a1 : D.eqbs xs = true := eqbs_of fun x hx => (h1 x hx).1
  have a2 : D.deps xs ≤ 5 := deps_le fun x hx => (h1 x hx).2.1
  have a3 : eqDs xs xs = true := eqDs_self fun x hx => (h1 x hx).2.2
  constructor
  · refine (must_pos (c := EqC (.tup xs) (.tup xs)) (.inl ⟨by simpa [D.eqb] using a1, by simpa [D.eqb] using a1, by simp [D.dep]; omega⟩)).trans ?_
    simp [eqD, a3]
  · refine (must_pos (c := EqC (.lst xs) (.lst xs)) (.inl ⟨by simpa [D.eqb] using a1, by simpa [D.eqb] using a1, by simp [D.dep]; omega⟩)).trans ?_
    simp [eqD, a3]
def Plain (x : D) : Prop := noScr x = true ∧ D.eqb x = true ∧ D.dep x ≤ 5 ∧ eqD x x = true
theorem plain_int (i : Int) : Plain (.int i) := ⟨rfl, rfl, by simp [D.dep], by simp [eqD]⟩
theorem odd_tup {t : D} {xs : List D} (ht : fine t = true) (hx : ∀ x ∈ xs, Plain x) (hg : goD t xs = none) : Odd t (.tup xs) where
  no := by rw [part_there1 ht fun x h => (hx x h).1, hg]; rfl
  eq := (eqA_tup fun x h => (hx x h).2).1
  ty := rfl
theorem odd_more {t s : D} {p : List Int} {ys : List D} (ht : fine t = true) (hg : goD t (p.map .int) = some s) (hy : ∀ x ∈ ys, Plain x) (hn : goD s ys = none) : Odd t (.tup (p.map .int ++ ys)) :=
  odd_tup ht (fun x hx => by
    rcases List.mem_append.mp hx with h | h
    · obtain ⟨i, _, rfl⟩ := List.mem_map.mp h
      exact plain_int i
    · exact hy x h) (by rw [goD_app _ _ _ _ hg]; exact hn)
theorem no_one {s x : D} {r : List D} (h : stepD s x = none) : goD s (x :: r) = none := by simp only [goD]; rw [h]
theorem step_far {s : D} {i : Int} (h : i < 0 ∨ ((kids s).length : Int) ≤ i) : stepD s (.int i) = none := by
  simp only [stepD]
  split
  · exact List.getElem?_eq_none (by omega)
  · rfl
theorem addE_path (p : List Int) (ys : List D) (hp : p.length ≤ 100) (hy : ys.length ≤ 100) : addE (pathD p) (.tup ys) = .ok (.tup (p.map .int ++ ys)) := by
  cases p with
  | nil => rfl
  | cons i p =>
    show addD (.tup (.int i :: p.map .int)) (.tup ys) = _
    exact add_tup rfl (small_of (by simp at hp ⊢; omega))
theorem nowhere1 {t s : D} {p : List Int} (ht : fine t = true) (hs : tk ns s = true) (hg : goD t (p.map .int) = some s) (hp : p.length ≤ 100) (m : Int) : ∃ odd, F__law_nowhere [pathD p, s, .int m] = .ok odd ∧ Odd t odd := by
  obtain ⟨way, hw⟩ : ∃ w : Int, m % 8 = w := ⟨_, rfl⟩
  have hw8 : 0 ≤ way ∧ way < 8 := by omega
  have hpw : (0 : Int) < 10 ^ 30 := Int.pow_pos (by decide)
  obtain ⟨far, hfar⟩ : ∃ f : Int, m / 8 % 10 ^ 30 = f := ⟨_, rfl⟩
  have hfar0 : 0 ≤ far := by rw [← hfar]; exact Int.emod_nonneg _ (by omega)
  obtain ⟨many, hmany⟩ : ∃ k : Int, ((kids s).length : Int) = k := ⟨_, rfl⟩
  have q1 : ∀ g : Sl → Res Out, seqO (setOs 3 (two (rdS 2) (cI 8) modI)) (seqO (setOs 4 (cI 0)) (seqO (ifO (asB (isiF "tuple" (rdS 1))) (setOs 4 (two (app (cons1 (rdS 1) nil1) lenD) (cI 1) subI)) nxO) (seqO (setOs 5 (two (two (rdS 2) (cI 8) divI) (two (cI 10) (cI 30) powI) modI)) g))) [.shr (pathD p), .shr s, .shr (.int m), .un, .un, .un] = g [.shr (pathD p), .shr s, .shr (.int m), .shr (.int way), .shr (.int many), .shr (.int far)] := by
    intro g
    refine (seq_nx (env' := [.shr (pathD p), .shr s, .shr (.int m), .shr (.int way), .un, .un]) (by rw [← hw]; exact (setOs_ok (two_ok rfl rfl rfl)).trans rfl)).trans ?_
    refine (seq_nx (env' := [.shr (pathD p), .shr s, .shr (.int m), .shr (.int way), .shr (.int 0), .un]) rfl).trans ?_
    refine (seq_nx (env' := [.shr (pathD p), .shr s, .shr (.int m), .shr (.int way), .shr (.int many), .un]) ?_).trans ?_
    · rcases tk_cases hs with ⟨i, rfl⟩ | ⟨z, ts, rfl, hz, hl, hts⟩
      · have : many = 0 := by rw [← hmany]; rfl
        subst this
        exact (if_f rfl).trans rfl
      · have : many = (ts.length : Int) := hmany.symm
        subst this
        refine (if_t rfl).trans ((setOs_ok (d := .int (ts.length : Int)) (two_ok (app_ok (cons_ok rfl rfl) rfl) rfl ?_)).trans rfl)
        show Res.ok (D.int (((D.str z :: ts).length : Int) - 1)) = _
        congr 2
        simp
    · refine (seq_nx (env' := [.shr (pathD p), .shr s, .shr (.int m), .shr (.int way), .shr (.int many), .shr (.int far)]) ?_).trans rfl
      rw [← hfar]
      exact (setOs_ok (two_ok (two_ok rfl rfl rfl) (two_ok rfl rfl (pow_ok ⟨by decide, by decide, by decide⟩)) (mod_ok hpw))).trans rfl
  have tl : asB (two (rdS 3) (cI 3) ltI) [.shr (pathD p), .shr s, .shr (.int m), .shr (.int way), .shr (.int many), .shr (.int far)] = .ok (decide (way < 3)) := asB_ok (two_ok rfl rfl rfl)
  have te : ∀ c : Int, asB (two (rdS 3) (cI c) eqR) [.shr (pathD p), .shr s, .shr (.int m), .shr (.int way), .shr (.int many), .shr (.int far)] = .ok (way == c) := fun c => asB_ok (two_ok rfl rfl eqR_int)
  have fin : ∀ odd fr, g__law_nowhere (startE 6 [pathD p, s, .int m]) = .ok (.rt fr odd) → F__law_nowhere [pathD p, s, .int m] = .ok odd := fun odd fr h => by
    cases fr with
    | true => exact run_t h
    | false => exact run_f h
  have st : startE 6 [pathD p, s, .int m] = [.shr (pathD p), .shr s, .shr (.int m), .un, .un, .un] := rfl
  rw [st] at fin
  unfold g__law_nowhere at fin
  simp only [q1] at fin
  by_cases w3 : way < 3
  · refine ⟨_, fin _ true (seq_rt ((if_t (by rw [tl, decide_eq_true w3])).trans (retO_ok (two_ok rfl (tup_ok (cons_ok rfl rfl) (small_of (by simp))) (addE_path p [.int many] hp (by simp)))))), odd_more ht hg (fun x hx => by
      simp only [List.mem_cons, List.not_mem_nil, or_false] at hx; subst hx; exact plain_int _) (no_one (step_far (.inr (by omega))))⟩
  have f3 : asB (two (rdS 3) (cI 3) ltI) [.shr (pathD p), .shr s, .shr (.int m), .shr (.int way), .shr (.int many), .shr (.int far)] = .ok false := by rw [tl, decide_eq_false w3]
  replace fin := fun odd fr h => fin odd fr ((seq_nx ((if_f f3).trans rfl)).trans h)
  by_cases e3 : way = 3
  · have : (way == 3) = true := by simp [e3]
    refine ⟨_, fin _ true (seq_rt ((if_t (by rw [te, this])).trans (retO_ok (two_ok rfl (tup_ok (cons_ok (two_ok (x := .int (-1)) rfl rfl rfl) rfl) (small_of (by simp))) (addE_path p [.int (-1 - far)] hp (by simp)))))), odd_more ht hg (fun x hx => by
      simp only [List.mem_cons, List.not_mem_nil, or_false] at hx; subst hx; exact plain_int _) (no_one (step_far (.inl (by omega))))⟩
  have n3 : asB (two (rdS 3) (cI 3) eqR) [.shr (pathD p), .shr s, .shr (.int m), .shr (.int way), .shr (.int many), .shr (.int far)] = .ok false := by rw [te]; congr 1; simp [e3]
  replace fin := fun odd fr h => fin odd fr ((seq_nx ((if_f n3).trans rfl)).trans h)
  by_cases e4 : way = 4
  · have : (way == 4) = true := by simp [e4]
    refine ⟨_, fin _ true (seq_rt ((if_t (by rw [te, this])).trans (retO_ok (two_ok rfl (tup_ok (cons_ok (two_ok rfl rfl rfl) (cons_ok rfl rfl)) (small_of (by simp))) (addE_path p [.int (many + far), .int 0] hp (by simp)))))), odd_more ht hg (fun x hx => by
      simp only [List.mem_cons, List.not_mem_nil, or_false] at hx; rcases hx with rfl | rfl <;> exact plain_int _) (no_one (step_far (.inr (by omega))))⟩
  have n4 : asB (two (rdS 3) (cI 4) eqR) [.shr (pathD p), .shr s, .shr (.int m), .shr (.int way), .shr (.int many), .shr (.int far)] = .ok false := by rw [te]; congr 1; simp [e4]
  replace fin := fun odd fr h => fin odd fr ((seq_nx ((if_f n4).trans rfl)).trans h)
  by_cases e5 : way = 5
  · have : (way == 5) = true := by simp [e5]
    obtain ⟨x, hx, hm⟩ := ixL (ds := [.bl true, .bl false, .non, .str "0", .tup [.int 0]]) (i := far % 5) (by omega) (by simp only [List.length_cons, List.length_nil]; omega)
    refine ⟨_, fin _ true (seq_rt ((if_t (by rw [te, this])).trans (retO_ok (two_ok rfl (tup_ok (cons_ok (two_ok (lst_ok (cons_ok rfl (cons_ok rfl (cons_ok rfl (cons_ok rfl (cons_ok (tup_ok (cons_ok rfl rfl) (small_of (by simp))) rfl))))) (small_of (by simp))) (two_ok rfl rfl rfl) hx) rfl) (small_of (by simp))) (addE_path p [x] hp (by simp)))))), odd_more ht hg (fun y hy => ?_) (no_one ?_)⟩
    · simp only [List.mem_cons, List.not_mem_nil, or_false] at hy
      subst hy
      simp only [List.mem_cons, List.not_mem_nil, or_false] at hm
      rcases hm with rfl | rfl | rfl | rfl | rfl <;> exact ⟨rfl, rfl, by simp [D.dep, D.deps], by simp [eqD, eqDs]⟩
    · simp only [List.mem_cons, List.not_mem_nil, or_false] at hm
      rcases hm with rfl | rfl | rfl | rfl | rfl <;> rfl
  have n5 : asB (two (rdS 3) (cI 5) eqR) [.shr (pathD p), .shr s, .shr (.int m), .shr (.int way), .shr (.int many), .shr (.int far)] = .ok false := by rw [te]; congr 1; simp [e5]
  replace fin := fun odd fr h => fin odd fr ((seq_nx ((if_f n5).trans rfl)).trans h)
  by_cases e6 : way = 6
  · have : (way == 6) = true := by simp [e6]
    refine ⟨.lst (p.map .int), fin _ true (seq_rt ((if_t (by rw [te, this])).trans (retO_ok (app_ok (cons_ok rfl rfl) rfl)))), rfl, (eqA_tup fun x hx => ?_).2, rfl⟩
    obtain ⟨i, _, rfl⟩ := List.mem_map.mp hx
    exact (plain_int i).2
  have n6 : asB (two (rdS 3) (cI 6) eqR) [.shr (pathD p), .shr s, .shr (.int m), .shr (.int way), .shr (.int many), .shr (.int far)] = .ok false := by rw [te]; congr 1; simp [e6]
  replace fin := fun odd fr h => fin odd fr ((seq_nx ((if_f n6).trans rfl)).trans h)
  obtain ⟨x, hx, hm⟩ := ixL (ds := [.non, .str "", .int 0, .bl true, .str "0", .dic [] [], .int (-1)]) (i := far % 7) (by omega) (by simp only [List.length_cons, List.length_nil]; omega)
  refine ⟨x, fin _ false (retS_ok (two_ok (lst_ok (cons_ok rfl (cons_ok rfl (cons_ok rfl (cons_ok rfl (cons_ok rfl (cons_ok rfl (cons_ok rfl rfl))))))) (small_of (by simp))) (two_ok rfl rfl rfl) hx)), ?_⟩
  simp only [List.mem_cons, List.not_mem_nil, or_false] at hm
  rcases hm with rfl | rfl | rfl | rfl | rfl | rfl | rfl <;> exact ⟨rfl, rfl, rfl⟩
end
end G

set_option Elab.async false
set_option linter.all false
set_option maxRecDepth 100000
set_option maxHeartbeats 4000000
namespace G
open PySem PySem.Spec L2 M
section
variable {ns : List Str}
theorem prs_size : ∀ t, tk ns t = true → ∀ q ∈ prs t, hgt q.2 ≤ hgt t ∧ num q.2 ≤ num t := tk_ind1 (fun i q hq => by
    rw [prs_int] at hq
    simp only [List.mem_cons, List.not_mem_nil, or_false] at hq
    subst hq
    exact ⟨Nat.le_refl _, Nat.le_refl _⟩) fun z ts hz hl h q hq => by
  rw [prs_tup] at hq
  rcases List.mem_cons.mp hq with rfl | hq
  · exact ⟨Nat.le_refl _, Nat.le_refl _⟩
  · obtain ⟨j, u, p, h1, h2, rfl⟩ := prss_mem hq
    have hu := mem_get h1
    obtain ⟨a1, a2⟩ := (h u hu).2 p h2
    have b1 := hgts_mem hu
    have b2 := nums_mem hu
    rw [hgt_tup, num_tup]
    exact ⟨by show hgt p.2 ≤ _; omega, by show num p.2 ≤ _; omega⟩
theorem lwhole1 (i : Int) : F__law_whole [.int i] = .ok (.bl true) := rfl
theorem path1 (p : List Int) : F__law_path [pathD p] = .ok (.bl true) := by
  obtain ⟨env1, l1, u1, rfl, _⟩ := forD_inv (body := turnD (gN 1) (ifO (notB (asB (callF 1 F__law_whole (cons1 (rdS 1) nil1)))) (retO (cB false)) nxO))
    (fun ds env => ∃ u : Slot, env = [.shr (pathD p), u] ∧ ∀ d ∈ ds, ∃ i : Int, d = .int i)
    (by
      rintro d ds env ⟨u, rfl, hd⟩
      obtain ⟨i, rfl⟩ := hd d (by simp)
      refine ⟨[.shr (pathD p), .shr (.int i)], ?_, _, rfl, fun e he => hd e (by simp [he])⟩
      rw [turn_ok (env' := [.shr (pathD p), .shr (.int i)]) rfl]
      exact (if_f (notB_ok (b := true) (asB_ok (call_ok (ds := [.int i]) (cons_ok rfl rfl) rfl (lwhole1 i))))).trans rfl)
    (p.map .int) [.shr (pathD p), .un] ⟨.un, rfl, fun d hd => by obtain ⟨i, _, rfl⟩ := List.mem_map.mp hd; exact ⟨i, rfl⟩⟩
  refine run_t ?_
  show g__law_path F__law_whole [.shr (pathD p), .un] = _
  unfold g__law_path
  refine (seq_nx ((if_f rfl).trans rfl)).trans ?_
  refine (seq_nx ((for_ok (ds := p.map .int) rfl).trans l1)).trans rfl
theorem comp_pairs : ∀ (L : List (List Int × D)) (acc : List D) (u v : Slot), acc.length + L.length ≤ 2000 → ∃ u' v', compD 2 (g2 (gN 0) (gN 1)) trueB (rdS 0) (L.map pr2) [u, v, .own (.lst acc)] = .ok [u', v', .own (.lst (acc ++ L.map ptD))]
  | [], acc, u, v, _ => ⟨u, v, by simp [compD]⟩
  | p :: L, acc, u, v, hl => by
    simp only [List.length_cons] at hl
    obtain ⟨u', v', hr⟩ := comp_pairs L (acc ++ [ptD p]) (.shr (pathD p.1)) (.shr p.2) (by simp; omega)
    refine ⟨u', v', ?_⟩
    have h1 : compD 2 (g2 (gN 0) (gN 1)) trueB (rdS 0) ((p :: L).map pr2) [u, v, .own (.lst acc)] = compD 2 (g2 (gN 0) (gN 1)) trueB (rdS 0) (L.map pr2) [.shr (pathD p.1), .shr p.2, .own (.lst (acc ++ [ptD p]))] := by
      show must (acc.length < sizeLine) _ = _
      exact must_pos (Nat.lt_of_lt_of_le (show acc.length < 20000 by omega) big1)
    rw [h1, hr]; simp
theorem comp2 {fi : Sl → Res (List D)} {env : Sl} {L : List (List Int × D)} (hi : fi env = .ok (L.map pr2)) (hl : L.length ≤ 2000) : compO false 2 [] fi (g2 (gN 0) (gN 1)) trueB (rdS 0) env = .ok (.lst (L.map ptD)) := by
  obtain ⟨u', v', hr⟩ := comp_pairs L [] .un .un (by simpa using hl)
  show (fi env >>= _) = _
  rw [hi]
  show (compD 2 (g2 (gN 0) (gN 1)) trueB (rdS 0) (L.map pr2) [.un, .un, .own (.lst [])] >>= _) = _
  rw [hr]; rfl
theorem ne_tk {t : D} (h : tk ns t = true) (hh : hgt t ≤ 100) : neR t t = .ok (.bl false) := by
  obtain ⟨h1, h2⟩ := eqb_tk t h
  refine (must_pos (c := EqC t t) (.inl ⟨h1, h1, by omega⟩)).trans ?_
  rw [eqD_tk t h]; rfl
theorem eqA_tk {t : D} (h : tk ns t = true) (hh : hgt t ≤ 100) : eqA t t = .ok (.bl true) := by
  have e : eqA t t = eqR t t := by
    rcases tk_cases h with ⟨i, rfl⟩ | ⟨z, ts, rfl, _⟩ <;> rfl
  rw [e]; exact eqR_tk h hh
theorem ne_paths (L : List (List Int × D)) : neR (.lst (L.map ptD)) (.lst (L.map ptD)) = .ok (.bl false) :=
  (cmp_same (eqbs_map (fun p => by simpa [ptD, pathD, D.eqb] using (dep_ints p.1).2) L) (Nat.le_trans (deps_map (k := 1) (fun p => by simp [ptD, pathD, D.dep, (dep_ints p.1).1]) L) (by decide))).2
theorem notGr {d : D} (h1 : hgt d ≤ 60) (h2 : num d ≤ 1000) : isGr d = false := by
  unfold isGr
  simp only [decide_eq_false_iff_not]
  omega
theorem noscr_path {p : List Int} : ∀ x ∈ p.map D.int, noScr x = true := fun x hx => by
  obtain ⟨i, _, rfl⟩ := List.mem_map.mp hx
  rfl
theorem nxp {F : List D → Res D} {ds : List D} {d : D} (h : F ds = .ok d) : (fun ds => nx1 (F ds)) ds = .ok d := by
  show nx1 (F ds) = _
  rw [h]; rfl
theorem asked1 {t o : D} (ht : Good ns 4 t) (ho : Good ns 4 o) (m : Int) : F__law_asked [t, o, .int m] = .ok (.bl true) := by
  obtain ⟨t1, t2, t3⟩ := ht
  obtain ⟨o1, o2, o3⟩ := ho
  have e81 : (3 : Nat) ^ 4 = 81 := by decide
  rw [e81] at t3 o3
  have hP := parts1 6 t t1 (by omega) (by omega) (by omega)
  have hA := paths1 6 t t1 (by omega) (by omega) (by omega)
  have hS := sorted1 t1 (by omega)
  have hlen := prs_len t
  have hft := fine_tk t t1
  generalize hL : prs t = L at hP hA hS hlen
  have hq : ∀ q ∈ L, q.1.length ≤ 4 ∧ goD t (q.1.map .int) = some q.2 ∧ tk ns q.2 = true ∧ hgt q.2 ≤ 4 ∧ num q.2 ≤ 40 := fun q h => by
    rw [← hL] at h
    obtain ⟨a1, _, a3⟩ := prs_path t t1 q h
    obtain ⟨b1, b2⟩ := prs_size t t1 q h
    exact ⟨by omega, prs_go t t1 q h, a3, by omega, by omega⟩
  have hL0 : 0 < L.length := by rw [hlen]; exact num_pos t
  have hL40 : L.length ≤ 40 := by omega
  refine run_t ?_
  show g__law_asked (F__law_parts 6) (F_paths 6) F__law_nowhere F_part F_put (F__law_with 64) F__law_refused F__law_path [.shr t, .shr o, .shr (.int m), .un, .un, .un, .un, .un, .un, .un] = _
  unfold g__law_asked
  refine (seq_nx (env' := [.shr t, .shr o, .shr (.int m), .shr (.lst (L.map pr2)), .un, .un, .un, .un, .un, .un]) ((setOs_ok (call_ok (ds := [t]) (cons_ok rfl rfl) rfl hP)).trans rfl)).trans ?_
  refine (seq_nx (env' := [.shr t, .shr o, .shr (.int m), .shr (.lst (L.map pr2)), .shr (.lst (L.map ptD)), .un, .un, .un, .un, .un]) ((setOs_ok (call_ok (ds := [t]) (cons_ok rfl rfl) rfl hA)).trans rfl)).trans ?_
  have x1 : orB (notB (asB (isiF "list" (rdS 4)))) (notB (asB (app (cons1 (compO false 1 [] (itF (rdS 4)) (gN 0) trueB (callF 1 F__law_path (cons1 (rdS 0) nil1))) nil1) allD))) [.shr t, .shr o, .shr (.int m), .shr (.lst (L.map pr2)), .shr (.lst (L.map ptD)), .un, .un, .un, .un, .un] = .ok false := by
    refine or_ok (b := false) (b2 := false) (notB_ok (b := true) (asB_ok rfl)) (notB_ok (b := true) (asB_ok (app_ok (cons_ok (comp0 (fun _ => .bl true) (fun d => ∃ p : List Int, d = pathD p) rfl (fun d hd => ?_) (small_of (by simp; omega)) fun d acc ⟨p, e⟩ => ?_) rfl) (all_true (L.map ptD)))))
    · obtain ⟨q, _, rfl⟩ := List.mem_map.mp hd
      exact ⟨q.1, rfl⟩
    · subst e
      exact call_ok (ds := [pathD p]) (cons_ok rfl rfl) rfl (path1 p)
  refine (seq_nx ((if_f x1).trans rfl)).trans ?_
  have x2 : asB (two (rdS 4) (app (cons1 (compO false 2 [] (itF (rdS 3)) (g2 (gN 0) (gN 1)) trueB (rdS 0)) nil1) sortedUp) neR) [.shr t, .shr o, .shr (.int m), .shr (.lst (L.map pr2)), .shr (.lst (L.map ptD)), .un, .un, .un, .un, .un] = .ok false :=
    asB_ok (two_ok rfl (app_ok (cons_ok (comp2 rfl (by omega)) rfl) hS) (ne_paths L))
  refine (seq_nx ((if_f x2).trans rfl)).trans ?_
  obtain ⟨env1, l1, u7, u8, u9, rfl, _⟩ := forD_inv (body := turnD (g2 (gN 7) (gN 8)) (seqO (setOs 9 (callF 2 (fun ds => nx1 (F_part ds)) (cons1 (rdS 0) (cons1 (rdS 7) nil1))))
    (ifO (orB (asB (two (rdS 9) (rdS 8) neR)) (asB (isiF "bool" (rdS 9)))) (retO (cB false)) nxO)))
    (fun ds env => ∃ u7 u8 u9 : Slot, env = [.shr t, .shr o, .shr (.int m), .shr (.lst (L.map pr2)), .shr (.lst (L.map ptD)), .un, .un, u7, u8, u9] ∧ ∀ d ∈ ds, ∃ q ∈ L, d = pr2 q)
    (by
      rintro d ds env ⟨u7, u8, u9, rfl, hd⟩
      obtain ⟨q, hqL, rfl⟩ := hd d (by simp)
      obtain ⟨a1, a2, a3, a4, a5⟩ := hq q hqL
      have hp : F_part [t, pathD q.1] = .ok q.2 := part_yes (by rw [show pathD q.1 = .tup (q.1.map .int) from rfl, part_there1 hft noscr_path, a2]; rfl) (fine_tk _ a3) (notGr (by omega) (by omega))
      refine ⟨[.shr t, .shr o, .shr (.int m), .shr (.lst (L.map pr2)), .shr (.lst (L.map ptD)), .un, .un, .shr (pathD q.1), .shr q.2, .shr q.2], ?_, _, _, _, rfl, fun e he => hd e (by simp [he])⟩
      rw [turn_ok (env' := [.shr t, .shr o, .shr (.int m), .shr (.lst (L.map pr2)), .shr (.lst (L.map ptD)), .un, .un, .shr (pathD q.1), .shr q.2, u9]) rfl]
      refine (seq_nx (env' := [.shr t, .shr o, .shr (.int m), .shr (.lst (L.map pr2)), .shr (.lst (L.map ptD)), .un, .un, .shr (pathD q.1), .shr q.2, .shr q.2]) ((setOs_ok (call_ok (ds := [t, pathD q.1]) (cons_ok rfl (cons_ok rfl rfl)) rfl (nxp hp))).trans rfl)).trans ?_
      exact (if_f (or_ok (b := false) (b2 := false) (asB_ok (two_ok rfl rfl (ne_tk a3 (by omega)))) (asB_ok (by rw [ev_isiF]; exact nobool a3)))).trans rfl)
    (L.map pr2) [.shr t, .shr o, .shr (.int m), .shr (.lst (L.map pr2)), .shr (.lst (L.map ptD)), .un, .un, .un, .un, .un] ⟨.un, .un, .un, rfl, fun d hd => by
      obtain ⟨q, hq', rfl⟩ := List.mem_map.mp hd
      exact ⟨q, hq', rfl⟩⟩
  refine (seq_nx ((for_ok (ds := L.map pr2) rfl).trans l1)).trans ?_
  obtain ⟨d, hd, hmem⟩ := ixL (ds := L.map pr2) (i := m % (L.length : Int)) (Int.emod_nonneg _ (by omega)) (by simp only [List.length_map]; exact Int.emod_lt_of_pos _ (by omega))
  obtain ⟨q, hqL, rfl⟩ := List.mem_map.mp hmem
  obtain ⟨a1, a2, a3, a4, a5⟩ := hq q hqL
  have x3 : asgO (two (rdS 3) (two (rdS 2) (app (cons1 (rdS 3) nil1) lenD) modI) ixD) (g2 (gN 7) (gN 8)) [.shr t, .shr o, .shr (.int m), .shr (.lst (L.map pr2)), .shr (.lst (L.map ptD)), .un, .un, u7, u8, u9] = .ok (.nx [.shr t, .shr o, .shr (.int m), .shr (.lst (L.map pr2)), .shr (.lst (L.map ptD)), .un, .un, .shr (pathD q.1), .shr q.2, u9]) := by
    have hc : two (rdS 3) (two (rdS 2) (app (cons1 (rdS 3) nil1) lenD) modI) ixD [.shr t, .shr o, .shr (.int m), .shr (.lst (L.map pr2)), .shr (.lst (L.map ptD)), .un, .un, u7, u8, u9] = .ok (pr2 q) := by
      refine two_ok rfl (two_ok rfl (app_ok (d := .int (L.length : Int)) (cons_ok rfl rfl) ?_) (mod_ok (by omega))) hd
      show Res.ok (D.int ((L.map pr2).length : Int)) = _
      simp
    show (two _ _ _ _ >>= _) = _
    rw [hc]; rfl
  refine (seq_nx x3).trans ?_
  have hT : F_part_there [t, pathD q.1] = .ok q.2 := by rw [show pathD q.1 = .tup (q.1.map .int) from rfl, part_there1 hft noscr_path, a2]; rfl
  have yk := tk_putAt o1 q.1 t t1
  obtain ⟨ys1, ys2⟩ := size_putAt (o := o) q.1 t q.2 t1 a2
  have hput : F_put [t, pathD q.1, o] = .ok (putAt o q.1 t) := by
    rw [put_yes hT (put_there1 64 q.1 t q.2 (by omega) t1 a2) (fine_tk _ yk), notGr (by omega) (by omega)]; rfl
  have hwith := with1 o1 64 q.1 t q.2 (by omega) t1 a2
  have x4 : asB (two (callF 3 (fun ds => nx1 (F_put ds)) (cons1 (rdS 0) (cons1 (rdS 7) (cons1 (rdS 1) nil1)))) (callF 3 (F__law_with 64) (cons1 (rdS 0) (cons1 (rdS 7) (cons1 (rdS 1) nil1)))) neR) [.shr t, .shr o, .shr (.int m), .shr (.lst (L.map pr2)), .shr (.lst (L.map ptD)), .un, .un, .shr (pathD q.1), .shr q.2, u9] = .ok false :=
    asB_ok (two_ok (call_ok (ds := [t, pathD q.1, o]) (cons_ok rfl (cons_ok rfl (cons_ok rfl rfl))) rfl (nxp hput)) (call_ok (ds := [t, pathD q.1, o]) (cons_ok rfl (cons_ok rfl (cons_ok rfl rfl))) rfl hwith) (ne_tk yk (by omega)))
  refine (seq_nx ((if_f x4).trans rfl)).trans ?_
  obtain ⟨odd, hodd, ok⟩ := nowhere1 hft a3 a2 (by omega) (m / 64)
  refine (seq_nx (env' := [.shr t, .shr o, .shr (.int m), .shr (.lst (L.map pr2)), .shr (.lst (L.map ptD)), .shr odd, .un, .shr (pathD q.1), .shr q.2, u9]) ((setOs_ok (call_ok (ds := [pathD q.1, q.2, .int (m / 64)]) (cons_ok rfl (cons_ok rfl (cons_ok (two_ok rfl rfl rfl) rfl))) rfl hodd)).trans rfl)).trans ?_
  have x5 : ifD (asB (isiF "list" (rdS 5))) (app (cons1 (rdS 5) nil1) listD) (rdS 5) [.shr t, .shr o, .shr (.int m), .shr (.lst (L.map pr2)), .shr (.lst (L.map ptD)), .shr odd, .un, .shr (pathD q.1), .shr q.2, u9] = .ok odd := by
    have hty := ok.ty
    cases odd <;> first | rfl | cases hty
  refine (seq_nx (env' := [.shr t, .shr o, .shr (.int m), .shr (.lst (L.map pr2)), .shr (.lst (L.map ptD)), .shr odd, .shr odd, .shr (pathD q.1), .shr q.2, u9]) ((setOs_ok x5).trans rfl)).trans ?_
  have r0 : F__law_refused [t, odd, o, .int 0] = .ok (.bl true) := refused1 ok.no (.inl rfl)
  have r1 : F__law_refused [t, odd, o, .int 1] = .ok (.bl true) := refused1 ok.no (.inr rfl)
  have x6 : orB (notB (asB (callF 4 F__law_refused (cons1 (rdS 0) (cons1 (rdS 5) (cons1 (rdS 1) (cons1 (cI 0) nil1))))))) (notB (asB (callF 4 F__law_refused (cons1 (rdS 0) (cons1 (rdS 5) (cons1 (rdS 1) (cons1 (cI 1) nil1))))))) [.shr t, .shr o, .shr (.int m), .shr (.lst (L.map pr2)), .shr (.lst (L.map ptD)), .shr odd, .shr odd, .shr (pathD q.1), .shr q.2, u9] = .ok false :=
    or_ok (b := false) (b2 := false) (notB_ok (b := true) (asB_ok (call_ok (ds := [t, odd, o, .int 0]) (cons_ok rfl (cons_ok rfl (cons_ok rfl (cons_ok rfl rfl)))) rfl r0))) (notB_ok (b := true) (asB_ok (call_ok (ds := [t, odd, o, .int 1]) (cons_ok rfl (cons_ok rfl (cons_ok rfl (cons_ok rfl rfl)))) rfl r1)))
  refine (seq_nx ((if_f x6).trans rfl)).trans ?_
  have hT0 : F_part_there [t, .tup []] = .ok t := by rw [part_there1 hft (fun x hx => by cases hx)]; rfl
  have hput0 : F_put [t, .tup [], o] = .ok o := by
    rw [put_yes hT0 (put_there1 (o := o) 64 [] t t (by simp) t1 rfl) (by simpa [putAt] using fine_tk o o1), show putAt o [] t = o by simp [putAt], notGr (by omega) (by omega)]; rfl
  have hpart0 : F_part [t, .tup []] = .ok t := part_yes hT0 hft (notGr (by omega) (by omega))
  exact retO_ok (toB_t (two_ok rfl rfl ok.eq) (toB_t (two_ok (call_ok (ds := [t, .tup [], o]) (cons_ok rfl (cons_ok (tup_ok rfl (small_of (by simp))) (cons_ok rfl rfl))) rfl (nxp hput0)) rfl (eqA_tk o1 (by omega))) (two_ok (call_ok (ds := [t, .tup []]) (cons_ok rfl (cons_ok (tup_ok rfl (small_of (by simp))) rfl)) rfl (nxp hpart0)) rfl (eqA_tk t1 (by omega)))))
end
end G

set_option Elab.async false
set_option linter.all false
set_option maxRecDepth 100000
set_option maxHeartbeats 4000000
namespace G
open PySem PySem.Spec L2 M
open Builtin.Int (intBits)
section
variable {ns : List Str}
theorem too_great1 {t p o y : D} (h : F_put [t, p, o] = if isGr y = true then .exc "TooGreat" else .ok y) : F__law_too_great [t, p, o] = if isGr y = true then .ok (.bl true) else .ok y := by
  have cx : callX 3 F_put (cons1 (rdS 0) (cons1 (rdS 1) (cons1 (rdS 2) nil1))) [.shr t, .shr p, .shr o, .shr .non, .shr .non, .un] = F_put [t, p, o] := callX_eq (ds := [t, p, o]) rfl rfl
  cases hg : isGr y with
  | true =>
    rw [hg] at h
    have tr : tryO ["TooGreat"] (setOs 4 (callX 3 F_put (cons1 (rdS 0) (cons1 (rdS 1) (cons1 (rdS 2) nil1))))) 5 (setOs 3 (rdS 5)) [.shr t, .shr p, .shr o, .shr .non, .shr .non, .un] = .ok (.nx [.shr t, .shr p, .shr o, .shr (.exn "TooGreat"), .shr .non, .un]) := by
      have hs : setOs 4 (callX 3 F_put (cons1 (rdS 0) (cons1 (rdS 1) (cons1 (rdS 2) nil1)))) [.shr t, .shr p, .shr o, .shr .non, .shr .non, .un] = .exc "TooGreat" := by
        show (callX 3 _ _ _ >>= _) = _
        rw [cx, h]; rfl
      unfold tryO
      rw [hs]
      dsimp only
      rw [if_pos (by decide)]
      rfl
    refine run_t ?_
    show g__law_too_great F_put [.shr t, .shr p, .shr o, .un, .un, .un] = _
    unfold g__law_too_great
    refine (seq_nx (env' := [.shr t, .shr p, .shr o, .shr .non, .un, .un]) rfl).trans ?_
    refine (seq_nx (env' := [.shr t, .shr p, .shr o, .shr .non, .shr .non, .un]) rfl).trans ?_
    refine (seq_nx tr).trans ?_
    exact seq_rt ((if_t (asB_ok (two_ok rfl rfl rfl))).trans (retO_ok (toB_t (isy_ok rfl rfl) (not_ok (b := false) (isy_ok rfl rfl)))))
  | false =>
    rw [hg] at h
    have tr : tryO ["TooGreat"] (setOs 4 (callX 3 F_put (cons1 (rdS 0) (cons1 (rdS 1) (cons1 (rdS 2) nil1))))) 5 (setOs 3 (rdS 5)) [.shr t, .shr p, .shr o, .shr .non, .shr .non, .un] = .ok (.nx [.shr t, .shr p, .shr o, .shr .non, .shr y, .un]) := by
      have hs : setOs 4 (callX 3 F_put (cons1 (rdS 0) (cons1 (rdS 1) (cons1 (rdS 2) nil1)))) [.shr t, .shr p, .shr o, .shr .non, .shr .non, .un] = .ok (.nx [.shr t, .shr p, .shr o, .shr .non, .shr y, .un]) := (setOs_ok (cx.trans (h.trans rfl))).trans rfl
      unfold tryO
      rw [hs]
    refine run_f ?_
    show g__law_too_great F_put [.shr t, .shr p, .shr o, .un, .un, .un] = _
    unfold g__law_too_great
    refine (seq_nx (env' := [.shr t, .shr p, .shr o, .shr .non, .un, .un]) rfl).trans ?_
    refine (seq_nx (env' := [.shr t, .shr p, .shr o, .shr .non, .shr .non, .un]) rfl).trans ?_
    refine (seq_nx tr).trans ?_
    exact (seq_nx ((if_f (asB_ok (two_ok rfl rfl rfl))).trans rfl)).trans rfl
/-! ### the row -/
def rowD (z : Str) (e : D) : Nat → D
  | 0 => e
  | n + 1 => .tup [.str z, rowD z e n]
theorem rowD_tk {z : Str} {e : D} (hz : z ∈ ns) (he : tk ns e = true) : ∀ n, tk ns (rowD z e n) = true
  | 0 => he
  | n + 1 => tk_nd hz (by simp) fun t ht => by
    simp only [List.mem_cons, List.not_mem_nil, or_false] at ht
    rw [ht]; exact rowD_tk hz he n
theorem rowD_size (z : Str) (e : D) : ∀ n, hgt (rowD z e n) = hgt e + n ∧ num (rowD z e n) = num e + n
  | 0 => ⟨rfl, rfl⟩
  | n + 1 => by
    obtain ⟨h1, h2⟩ := rowD_size z e n
    constructor
    · show hgt (.tup [.str z, rowD z e n]) = _
      rw [hgt_tup]
      simp only [hgts]
      omega
    · show num (.tup [.str z, rowD z e n]) = _
      rw [num_tup]
      simp only [nums]
      omega
theorem row_way (z : Str) (e : D) : ∀ n, goD (rowD z e n) ((List.replicate n (0 : Int)).map .int) = some e
  | 0 => rfl
  | n + 1 => by
    rw [List.replicate_succ, List.map_cons]
    exact row_way z e n
theorem row_put (z : Str) (e o : D) : ∀ n, putAt o (List.replicate n (0 : Int)) (rowD z e n) = rowD z o n
  | 0 => by simp [putAt, rowD]
  | n + 1 => by
    rw [List.replicate_succ]
    show putAt o (0 :: List.replicate n 0) (.tup (.str z :: [rowD z e n])) = _
    rw [putAt_tup]
    show D.tup (D.str z :: [putAt o (List.replicate n 0) (rowD z e n)]) = _
    rw [row_put z e o n]; rfl
def endD (z0 z1 : Str) : Nat → D
  | 0 => .tup [.str z0]
  | n + 1 => .tup [.str z1, endD z0 z1 n, .int 5]
theorem endD_ok {z0 z1 : Str} (h0 : z0 ∈ ns) (h1 : z1 ∈ ns) : ∀ n, tk ns (endD z0 z1 n) = true ∧ hgt (endD z0 z1 n) = n + 1 ∧ num (endD z0 z1 n) = 2 * n + 1
  | 0 => ⟨tk_nd h0 (by simp) (fun _ h => by cases h), by simp [endD, hgt, hgts], by simp [endD, num, nums]⟩
  | n + 1 => by
    obtain ⟨a1, a2, a3⟩ := endD_ok h0 h1 n
    refine ⟨tk_nd h1 (by simp) fun t ht => ?_, ?_, ?_⟩
    · simp only [List.mem_cons, List.not_mem_nil, or_false] at ht
      rcases ht with rfl | rfl
      · exact a1
      · rfl
    · show hgt (.tup [.str z1, endD z0 z1 n, .int 5]) = _
      rw [hgt_tup]
      simp only [hgts, hgt]
      omega
    · show num (.tup [.str z1, endD z0 z1 n, .int 5]) = _
      rw [num_tup]
      simp only [nums, num]
      omega
theorem law_true (sc : List Int) (hlen : sc.length ≤ 63) (hb : ∀ i ∈ sc, Builtin.Int.intBits i ≤ 2 ^ 20) : F_law [.scr (sc.map D.int)] = .ok (.bl true) := by
  have hbit : ∀ c : Int, c = 0 ∨ c ∈ sc → intBits c ≤ 2 ^ 20 + 1 := fun c h => by
    rcases h with rfl | h
    · decide
    · have := hb c h; omega
  have hbit1 : ∀ c k : Int, c ∈ sc → intBits k ≤ 2 → intBits (c + k) ≤ 2 ^ 20 + 1 := fun c k h hk => by
    have h2 := intBits_add_le (hb c h) hk
    have : max (2 ^ 20) 2 = 2 ^ 20 := by decide
    omega
  obtain ⟨c, hc, hc2⟩ := cell_makes sc
  obtain ⟨m, hm⟩ := great_makes (hbit c hc2)
  obtain ⟨nm, hnm, h5⟩ := names_makes m
  obtain ⟨ns, hn⟩ := five_fiv h5
  obtain ⟨z0, hz0, n0⟩ := fiv_ix hn 0 (by decide) (by decide)
  obtain ⟨z1, hz1, n1⟩ := fiv_ix hn 1 (by decide) (by decide)
  obtain ⟨z9, hz9, n9⟩ := fiv_ix hn (m / 9 % 5) (by omega) (by omega)
  generalize hS : D.scr (sc.map D.int) = S
  rw [hS] at hc
  have s1 : setOs 1 (callF 1 F__law_great (cons1 (callF 2 F__law_cell_at (cons1 (rdS 0) (cons1 (cI 0) nil1))) nil1)) [.shr S, .un, .un, .un, .un, .un, .un, .un, .un, .un, .un, .un, .un] = .ok (.nx [.shr S, .shr (.int m), .un, .un, .un, .un, .un, .un, .un, .un, .un, .un, .un]) :=
    (setOs_ok (call_ok (cons_ok (call_ok (cons_ok rfl (cons_ok rfl rfl)) rfl hc) rfl) rfl hm)).trans rfl
  have s2 : setOs 2 (callF 1 F__law_names (cons1 (rdS 1) nil1)) [.shr S, .shr (.int m), .un, .un, .un, .un, .un, .un, .un, .un, .un, .un, .un] = .ok (.nx [.shr S, .shr (.int m), .shr nm, .un, .un, .un, .un, .un, .un, .un, .un, .un, .un]) := (setOs_ok (call_ok (cons_ok rfl rfl) rfl hnm)).trans rfl
  obtain ⟨env1, l1, u1, p1, q1, r1, rfl, _⟩ := forD_inv (body := turnD (gN 3) (seqO (setOs 10 (callF 1 F__law_great (cons1 (rdS 3) nil1)))
    (seqO (setOs 11 (two (callF 3 (F__law_term 100) (cons1 (rdS 10) (cons1 (rdS 2) (cons1 (cI 4) nil1)))) (cI 0) ixD))
    (seqO (setOs 12 (two (callF 3 (F__law_term 100) (cons1 (callF 1 F__law_great (cons1 (two (rdS 3) (cI 1) addE) nil1)) (cons1 (rdS 2) (cons1 (cI 4) nil1)))) (cI 0) ixD))
    (ifO (notB (asB (callF 3 F__law_asked (cons1 (rdS 11) (cons1 (rdS 12) (cons1 (callF 1 F__law_great (cons1 (two (rdS 3) (cI 2) addE) nil1)) nil1)))))) (retO (cB false)) nxO)))))
    (fun ds env => ∃ u p q r : Slot, env = [.shr S, .shr (.int m), .shr nm, u, .un, .un, .un, .un, .un, .un, p, q, r] ∧ ∀ d ∈ ds, ∃ i : Int, d = .int i ∧ i ∈ sc)
    (by
      rintro d ds env ⟨u, p, q, r, rfl, hd⟩
      obtain ⟨i, rfl, hi⟩ := hd d (by simp)
      obtain ⟨g, hg⟩ := great_makes (hbit i (.inr hi))
      obtain ⟨g', hg'⟩ := great_makes (hbit1 i 1 hi (by decide))
      obtain ⟨g2, hg2⟩ := great_makes (hbit1 i 2 hi (by decide))
      obtain ⟨t, m', ht, gt⟩ := term_makes hn 100 4 g (by decide) (by decide)
      obtain ⟨o, m2, ho, go⟩ := term_makes hn 100 4 g' (by decide) (by decide)
      have hA := asked1 gt go g2
      refine ⟨[.shr S, .shr (.int m), .shr nm, .shr (.int i), .un, .un, .un, .un, .un, .un, .shr (.int g), .shr t, .shr o], ?_, _, _, _, _, rfl, fun e he => hd e (by simp [he])⟩
      rw [turn_ok (env' := [.shr S, .shr (.int m), .shr nm, .shr (.int i), .un, .un, .un, .un, .un, .un, p, q, r]) rfl]
      refine (seq_nx (env' := [.shr S, .shr (.int m), .shr nm, .shr (.int i), .un, .un, .un, .un, .un, .un, .shr (.int g), q, r]) ((setOs_ok (call_ok (ds := [.int i]) (cons_ok rfl rfl) rfl hg)).trans rfl)).trans ?_
      refine (seq_nx (env' := [.shr S, .shr (.int m), .shr nm, .shr (.int i), .un, .un, .un, .un, .un, .un, .shr (.int g), .shr t, r]) ((setOs_ok (two_ok (call_ok (ds := [.int g, nm, .int ((4 : Nat) : Int)]) (cons_ok rfl (cons_ok rfl (cons_ok rfl rfl))) rfl ht) rfl ix0)).trans rfl)).trans ?_
      refine (seq_nx (env' := [.shr S, .shr (.int m), .shr nm, .shr (.int i), .un, .un, .un, .un, .un, .un, .shr (.int g), .shr t, .shr o]) ((setOs_ok (two_ok (call_ok (ds := [.int g', nm, .int ((4 : Nat) : Int)]) (cons_ok (call_ok (ds := [.int (i + 1)]) (cons_ok (two_ok rfl rfl rfl) rfl) rfl hg') (cons_ok rfl (cons_ok rfl rfl))) rfl ho) rfl ix0)).trans rfl)).trans ?_
      exact (if_f (notB_ok (b := true) (asB_ok (call_ok (ds := [t, o, .int g2]) (cons_ok rfl (cons_ok rfl (cons_ok (call_ok (ds := [.int (i + 2)]) (cons_ok (two_ok rfl rfl rfl) rfl) rfl hg2) rfl))) rfl hA)))).trans rfl)
    (sc.map D.int) [.shr S, .shr (.int m), .shr nm, .un, .un, .un, .un, .un, .un, .un, .un, .un, .un] ⟨.un, .un, .un, .un, rfl, fun d hd => by
      obtain ⟨i, hi, rfl⟩ := List.mem_map.mp hd
      exact ⟨i, rfl, hi⟩⟩
  obtain ⟨e0, he0⟩ : ∃ e : Int, m / 3 % 1000 = e := ⟨_, rfl⟩
  obtain ⟨n, hnn⟩ : ∃ n : Nat, (57 + m % 3 : Int) = (n : Int) := ⟨(57 + m % 3).toNat, by omega⟩
  have hn2 : 57 ≤ n ∧ n ≤ 59 := by omega
  obtain ⟨k, hk⟩ : ∃ k : Nat, (m / 45 % 4 : Int) = (k : Int) := ⟨(m / 45 % 4).toNat, by omega⟩
  have hk2 : k ≤ 3 := by omega
  -- the row and its path
  have rowL : ∀ (j i : Nat) (u : Slot), i + j ≤ 59 → ∃ u', forD (turnD (gN 6) (seqO (setOs 4 (tupF (cons1 (two (rdS 2) (two (two (rdS 1) (cI 9) divI) (cI 5) modI) ixD) (cons1 (rdS 4) nil1)))) (setOs 5 (two (rdS 5) (tupF (cons1 (cI 0) nil1)) addE)))) (intsD (i : Int) j)
      [.shr S, .shr (.int m), .shr nm, u1, .shr (rowD z9 (.int e0) i), .shr (pathD (List.replicate i 0)), u, .un, .un, .un, p1, q1, r1] = .ok (.nx [.shr S, .shr (.int m), .shr nm, u1, .shr (rowD z9 (.int e0) (i + j)), .shr (pathD (List.replicate (i + j) 0)), u', .un, .un, .un, p1, q1, r1]) := by
    intro j
    induction j with
    | zero => exact fun i u _ => ⟨u, rfl⟩
    | succ j ih =>
      intro i u h
      obtain ⟨u', hu'⟩ := ih (i + 1) (.shr (.int (i : Int))) (by omega)
      refine ⟨u', ?_⟩
      rw [intsD_succ]
      have hstep : turnD (gN 6) (seqO (setOs 4 (tupF (cons1 (two (rdS 2) (two (two (rdS 1) (cI 9) divI) (cI 5) modI) ixD) (cons1 (rdS 4) nil1)))) (setOs 5 (two (rdS 5) (tupF (cons1 (cI 0) nil1)) addE))) (.int (i : Int)) [.shr S, .shr (.int m), .shr nm, u1, .shr (rowD z9 (.int e0) i), .shr (pathD (List.replicate i 0)), u, .un, .un, .un, p1, q1, r1] = .ok (.nx [.shr S, .shr (.int m), .shr nm, u1, .shr (rowD z9 (.int e0) (i + 1)), .shr (pathD (List.replicate (i + 1) 0)), .shr (.int (i : Int)), .un, .un, .un, p1, q1, r1]) := by
        rw [turn_ok (env' := [.shr S, .shr (.int m), .shr nm, u1, .shr (rowD z9 (.int e0) i), .shr (pathD (List.replicate i 0)), .shr (.int (i : Int)), .un, .un, .un, p1, q1, r1]) rfl]
        refine (seq_nx (env' := [.shr S, .shr (.int m), .shr nm, u1, .shr (rowD z9 (.int e0) (i + 1)), .shr (pathD (List.replicate i 0)), .shr (.int (i : Int)), .un, .un, .un, p1, q1, r1]) ((setOs_ok (tup_ok (cons_ok (two_ok rfl (two_ok (two_ok rfl rfl rfl) rfl rfl) hz9) (cons_ok rfl rfl)) (small_of (by simp)))).trans rfl)).trans ?_
        refine (setOs_ok (d := pathD (List.replicate (i + 1) 0)) (two_ok rfl (tup_ok (cons_ok rfl rfl) (small_of (by simp))) ((addE_path _ _ (by simp; omega) (by simp)).trans ?_))).trans rfl
        rw [List.replicate_succ']
        simp [pathD]
      rw [forD_go hstep]
      have e1 : ((i : Int) + 1) = ((i + 1 : Nat) : Int) := by omega
      have e2 : i + (j + 1) = i + 1 + j := by omega
      rw [e1, e2]; exact hu'
  obtain ⟨u6, rowH⟩ := rowL n 0 .un (by omega)
  rw [Nat.zero_add] at rowH
  -- the end
  have endL : ∀ (j i : Nat) (u : Slot), ∃ u', forD (turnD (gN 6) (setOs 7 (tupF (cons1 (two (rdS 2) (cI 1) ixD) (cons1 (rdS 7) (cons1 (cI 5) nil1)))))) (intsD (i : Int) j)
      [.shr S, .shr (.int m), .shr nm, u1, .shr (rowD z9 (.int e0) n), .shr (pathD (List.replicate n 0)), u, .shr (endD z0 z1 i), .shr (.int (1 + (k : Int))), .un, p1, q1, r1] = .ok (.nx [.shr S, .shr (.int m), .shr nm, u1, .shr (rowD z9 (.int e0) n), .shr (pathD (List.replicate n 0)), u', .shr (endD z0 z1 (i + j)), .shr (.int (1 + (k : Int))), .un, p1, q1, r1]) := by
    intro j
    induction j with
    | zero => exact fun i u => ⟨u, rfl⟩
    | succ j ih =>
      intro i u
      obtain ⟨u', hu'⟩ := ih (i + 1) (.shr (.int (i : Int)))
      refine ⟨u', ?_⟩
      rw [intsD_succ]
      have hstep : turnD (gN 6) (setOs 7 (tupF (cons1 (two (rdS 2) (cI 1) ixD) (cons1 (rdS 7) (cons1 (cI 5) nil1))))) (.int (i : Int)) [.shr S, .shr (.int m), .shr nm, u1, .shr (rowD z9 (.int e0) n), .shr (pathD (List.replicate n 0)), u, .shr (endD z0 z1 i), .shr (.int (1 + (k : Int))), .un, p1, q1, r1] = .ok (.nx [.shr S, .shr (.int m), .shr nm, u1, .shr (rowD z9 (.int e0) n), .shr (pathD (List.replicate n 0)), .shr (.int (i : Int)), .shr (endD z0 z1 (i + 1)), .shr (.int (1 + (k : Int))), .un, p1, q1, r1]) := by
        rw [turn_ok (env' := [.shr S, .shr (.int m), .shr nm, u1, .shr (rowD z9 (.int e0) n), .shr (pathD (List.replicate n 0)), .shr (.int (i : Int)), .shr (endD z0 z1 i), .shr (.int (1 + (k : Int))), .un, p1, q1, r1]) rfl]
        exact (setOs_ok (tup_ok (cons_ok (two_ok rfl rfl hz1) (cons_ok rfl (cons_ok rfl rfl))) (small_of (by simp)))).trans rfl
      rw [forD_go hstep]
      have e1 : ((i : Int) + 1) = ((i + 1 : Nat) : Int) := by omega
      have e2 : i + (j + 1) = i + 1 + j := by omega
      rw [e1, e2]; exact hu'
  obtain ⟨u6', endH⟩ := endL k 0 u6
  rw [Nat.zero_add] at endH
  obtain ⟨ek, eh, en⟩ := endD_ok n0 n1 k
  generalize endD z0 z1 k = en0 at endH ek eh en
  have rk : tk ns (rowD z9 (.int e0) n) = true := rowD_tk n9 rfl n
  have way := row_way z9 (.int e0) n
  have hput := row_put z9 (.int e0) en0 n
  have yk : tk ns (rowD z9 en0 n) = true := rowD_tk n9 ek n
  obtain ⟨y1, y2⟩ := rowD_size z9 en0 n
  have hT : F_part_there [rowD z9 (.int e0) n, pathD (List.replicate n 0)] = .ok (.int e0) := by rw [show pathD (List.replicate n 0) = .tup ((List.replicate n (0 : Int)).map .int) from rfl, part_there1 (fine_tk _ rk) noscr_path, way]; rfl
  have hPT := put_there1 (o := en0) 64 (List.replicate n 0) _ _ (by simp; omega) rk way
  rw [hput] at hPT
  have hP := put_yes hT hPT (fine_tk _ yk)
  have hG := too_great1 hP
  have hW := with1 ek 64 (List.replicate n 0) _ _ (by simp; omega) rk way
  rw [hput] at hW
  generalize rowD z9 en0 n = Y at hG hW yk y1 y2
  generalize rowD z9 (.int e0) n = R at hG hW rowH endH
  have hgr : isGr Y = decide ((60 : Int) < (n : Int) + (1 + (k : Int))) := by
    unfold isGr
    rw [Bool.eq_iff_iff]
    simp
    omega
  refine run_t ?_
  show g_law F__law_great F__law_names F__law_too_great F__law_cell_at (F__law_with 64) (F__law_term 100) F__law_asked [.shr S, .un, .un, .un, .un, .un, .un, .un, .un, .un, .un, .un, .un] = _
  unfold g_law
  refine (seq_nx s1).trans ?_
  refine (seq_nx s2).trans ?_
  refine (seq_nx ((for_ok (ds := sc.map D.int) (by rw [← hS]; rfl)).trans l1)).trans ?_
  refine (seq_nx (env' := [.shr S, .shr (.int m), .shr nm, u1, .shr (.int e0), .un, .un, .un, .un, .un, p1, q1, r1]) (by rw [← he0]; exact (setOs_ok (two_ok (two_ok rfl rfl rfl) rfl rfl)).trans rfl)).trans ?_
  refine (seq_nx (env' := [.shr S, .shr (.int m), .shr nm, u1, .shr (.int e0), .shr (pathD []), .un, .un, .un, .un, p1, q1, r1]) ((setOs_ok (tup_ok rfl (small_of (by simp)))).trans rfl)).trans ?_
  have hr1 : rngF (cons1 (two (cI 57) (two (rdS 1) (cI 3) modI) addE) nil1) [.shr S, .shr (.int m), .shr nm, u1, .shr (.int e0), .shr (pathD []), .un, .un, .un, .un, p1, q1, r1] = .ok (intsD ((0 : Nat) : Int) n) := (rng1_ok (j := (n : Int)) (cons_ok ((two_ok rfl (two_ok rfl rfl rfl) rfl).trans (by rw [← hnn])) rfl) (by omega)).trans (by simp)
  refine (seq_nx ((for_ok hr1).trans rowH)).trans ?_
  refine (seq_nx (env' := [.shr S, .shr (.int m), .shr nm, u1, .shr R, .shr (pathD (List.replicate n 0)), u6, .shr (.tup [.str z0]), .un, .un, p1, q1, r1]) ((setOs_ok (tup_ok (cons_ok (two_ok rfl rfl hz0) rfl) (small_of (by simp)))).trans rfl)).trans ?_
  refine (seq_nx (env' := [.shr S, .shr (.int m), .shr nm, u1, .shr R, .shr (pathD (List.replicate n 0)), u6, .shr (.tup [.str z0]), .shr (.int (1 + (k : Int))), .un, p1, q1, r1]) (by rw [← hk]; exact (setOs_ok (two_ok rfl (two_ok (two_ok rfl rfl rfl) rfl rfl) rfl)).trans rfl)).trans ?_
  have hr2 : rngF (cons1 (two (rdS 8) (cI 1) subI) nil1) [.shr S, .shr (.int m), .shr nm, u1, .shr R, .shr (pathD (List.replicate n 0)), u6, .shr (.tup [.str z0]), .shr (.int (1 + (k : Int))), .un, p1, q1, r1] = .ok (intsD ((0 : Nat) : Int) k) := (rng1_ok (j := (k : Int)) (cons_ok ((two_ok rfl rfl rfl).trans (by
      show Res.ok (D.int (1 + (k : Int) - 1)) = _
      congr 2
      omega)) rfl) (by omega)).trans (by simp)
  refine (seq_nx ((for_ok hr2).trans endH)).trans ?_
  have cG : ∀ f, F__law_too_great [R, pathD (List.replicate n 0), en0] = .ok f → setOs 9 (callF 3 F__law_too_great (cons1 (rdS 4) (cons1 (rdS 5) (cons1 (rdS 7) nil1)))) [.shr S, .shr (.int m), .shr nm, u1, .shr R, .shr (pathD (List.replicate n 0)), u6', .shr en0, .shr (.int (1 + (k : Int))), .un, p1, q1, r1] = .ok (.nx [.shr S, .shr (.int m), .shr nm, u1, .shr R, .shr (pathD (List.replicate n 0)), u6', .shr en0, .shr (.int (1 + (k : Int))), .shr f, p1, q1, r1]) := fun f hf => (setOs_ok (call_ok (ds := [R, pathD (List.replicate n 0), en0]) (cons_ok rfl (cons_ok rfl (cons_ok rfl rfl))) rfl hf)).trans rfl
  have test : ∀ f, asB (two (two (app (cons1 (rdS 5) nil1) lenD) (rdS 8) addE) (cI 60) gtI) [.shr S, .shr (.int m), .shr nm, u1, .shr R, .shr (pathD (List.replicate n 0)), u6', .shr en0, .shr (.int (1 + (k : Int))), .shr f, p1, q1, r1] = .ok (isGr Y) := fun f => by
    rw [hgr]
    refine asB_ok (two_ok (two_ok (app_ok (d := .int (n : Int)) (cons_ok rfl rfl) ?_) rfl rfl) rfl rfl)
    show Res.ok (D.int (((List.replicate n (0 : Int)).map D.int).length : Int)) = _
    simp
  cases hg : isGr Y with
  | true =>
    rw [hg] at hG
    refine (seq_nx (cG _ hG)).trans ?_
    exact seq_rt ((if_t (by rw [test, hg])).trans (retO_ok (two_ok rfl rfl rfl)))
  | false =>
    rw [hg] at hG
    refine (seq_nx (cG _ hG)).trans ?_
    refine (seq_nx ((if_f (by rw [test, hg])).trans rfl)).trans ?_
    exact retO_ok (two_ok rfl (call_ok (ds := [R, pathD (List.replicate n 0), en0]) (cons_ok rfl (cons_ok rfl (cons_ok rfl rfl))) rfl hW) (eqR_tk yk (by omega)))
end
end G

theorem PySem.W.Fast.te17662901673045240887 : True := trivial
theorem PySem.W.Fast.tw8588087248805243480 : True := trivial
theorem PySem.W.Fast.tw13273284252821919637 : True := trivial
theorem PySem.W.Fast.tw10014932817855535222 : True := trivial
theorem PySem.W.Fast.tw10014830669085183535 : True := trivial
open PySem PySem.W PyProof.Rows
set_option maxRecDepth 100000 in
set_option maxHeartbeats 0 in
theorem PySem.Challenge.cw_endwise_k02_parts_and_paths_holds : PySem.Challenge.rw_endwise_k02_parts_and_paths.Holds := by
  w_on; o_law; k_head; (case hw => w_witness2)
  k_fill
  refine M.walk_law (l := PySem.Challenge.rw_endwise_k02_parts_and_paths) (n := 63) (k := 101) (x := "_law_script") (F := G.F_law) rfl (by decide) rfl ⟨rfl, by decide, by decide⟩ (fun w h Y => PySem.W.kIn_of Y) ?F G.law_true
  case F =>
    intro w mg fa h KX Gn hmg
    refine' G.all_mk KX Gn hmg ?a0 ?l0 ?c0 ?k0 ?a1 ?l1 ?c1 ?k1 ?a2 ?l2 ?c2 ?k2 ?a3 ?l3 ?c3 ?k3 ?a4 ?l4 ?c4 ?k4 ?a5 ?l5 ?c5 ?k5 ?a6 ?l6 ?c6 ?k6 ?a7 ?l7 ?c7 ?k7 ?a8 ?l8 ?c8 ?k8 ?a9 ?l9 ?c9 ?k9 ?a10 ?l10 ?c10 ?k10 ?a11 ?l11 ?c11 ?k11 ?a12 ?l12 ?c12 ?k12 ?a13 ?l13 ?c13 ?k13 ?a14 ?l14 ?c14 ?k14 ?a15 ?l15 ?c15 ?k15 ?a16 ?l16 ?c16 ?k16 ?a17 ?l17 ?c17 ?k17 ?a18 ?l18 ?c18 ?k18 ?a19 ?l19 ?c19 ?k19 ?a20 ?l20 ?c20 ?k20 ?a21 ?l21 ?c21 ?k21 ?a22 ?l22 ?c22 ?k22 ?a23 ?l23 ?c23 ?k23 ?a24 ?l24 ?c24 ?k24 ?z0 ?z1 ?z2 ?z3 ?z4 ?z5 ?z6 ?z7 ?z8 ?z9 ?z10 ?y_MOST_LEVELS ?y_MOST_PARTS ?e_TooGreat ?e_NoPath ?e_NoLine ?e_NoName ?e_TooLong ?e_TooMany ?e_EndError ?e_NoReason ?e_NoPair ?e_NoHead ?e_NoPaper ?e_NoStep ?e_NoRule ?e_NoText ?q_TooGreat ?q_NoPath ?x_TooGreat_TooGreat ?x_EndError_TooGreat ?x_EndError_NoPath ?i_ValueError_TooGreat ?i_ValueError_NoPath ?w_TooGreat ?w_NoPath ?y_NoPath_TooGreat ?y_NoPath_NoPath ?y_EndError_TooGreat ?y_EndError_NoPath ?yt_0_TooGreat ?yt_0_NoPath ?yt_1_TooGreat ?yt_1_NoPath
    (case a0 => k_is)
    (case l0 => k_is)
    (case c0 => k_is)
    (case k0 => k_is)
    (case a1 => k_is)
    (case l1 => k_is)
    (case c1 => k_is)
    (case k1 => k_is)
    (case a2 => k_is)
    (case l2 => k_is)
    (case c2 => k_is)
    (case k2 => k_is)
    (case a3 => k_is)
    (case l3 => k_is)
    (case c3 => k_is)
    (case k3 => k_is)
    (case a4 => k_is)
    (case l4 => k_is)
    (case c4 => k_is)
    (case k4 => k_is)
    (case a5 => k_is)
    (case l5 => k_is)
    (case c5 => k_is)
    (case k5 => k_is)
    (case a6 => k_is)
    (case l6 => k_is)
    (case c6 => k_is)
    (case k6 => k_is)
    (case a7 => k_is)
    (case l7 => k_is)
    (case c7 => k_is)
    (case k7 => k_is)
    (case a8 => k_is)
    (case l8 => k_is)
    (case c8 => k_is)
    (case k8 => k_is)
    (case a9 => k_is)
    (case l9 => k_is)
    (case c9 => k_is)
    (case k9 => k_is)
    (case a10 => k_is)
    (case l10 => k_is)
    (case c10 => k_is)
    (case k10 => k_is)
    (case a11 => k_is)
    (case l11 => k_is)
    (case c11 => k_is)
    (case k11 => k_is)
    (case a12 => k_is)
    (case l12 => k_is)
    (case c12 => k_is)
    (case k12 => k_is)
    (case a13 => k_is)
    (case l13 => k_is)
    (case c13 => k_is)
    (case k13 => k_is)
    (case a14 => k_is)
    (case l14 => k_is)
    (case c14 => k_is)
    (case k14 => k_is)
    (case a15 => k_is)
    (case l15 => k_is)
    (case c15 => k_is)
    (case k15 => k_is)
    (case a16 => k_is)
    (case l16 => k_is)
    (case c16 => k_is)
    (case k16 => k_is)
    (case a17 => k_is)
    (case l17 => k_is)
    (case c17 => k_is)
    (case k17 => k_is)
    (case a18 => k_is)
    (case l18 => k_is)
    (case c18 => k_is)
    (case k18 => k_is)
    (case a19 => k_is)
    (case l19 => k_is)
    (case c19 => k_is)
    (case k19 => k_is)
    (case a20 => k_is)
    (case l20 => k_is)
    (case c20 => k_is)
    (case k20 => k_is)
    (case a21 => k_is)
    (case l21 => k_is)
    (case c21 => k_is)
    (case k21 => k_is)
    (case a22 => k_is)
    (case l22 => k_is)
    (case c22 => k_is)
    (case k22 => k_is)
    (case a23 => k_is)
    (case l23 => k_is)
    (case c23 => k_is)
    (case k23 => k_is)
    (case a24 => k_is)
    (case l24 => k_is)
    (case c24 => k_is)
    (case k24 => k_is)
    (case z0 => k_is)
    (case z1 => k_is)
    (case z2 => k_is)
    (case z3 => k_is)
    (case z4 => k_is)
    (case z5 => k_is)
    (case z6 => k_is)
    (case z7 => k_is)
    (case z8 => k_is)
    (case z9 => k_is)
    (case z10 => k_is)
    (case y_MOST_LEVELS => k_is)
    (case y_MOST_PARTS => k_is)
    (case e_TooGreat => k_is)
    (case e_NoPath => k_is)
    (case e_NoLine => k_is)
    (case e_NoName => k_is)
    (case e_TooLong => k_is)
    (case e_TooMany => k_is)
    (case e_EndError => k_is)
    (case e_NoReason => k_is)
    (case e_NoPair => k_is)
    (case e_NoHead => k_is)
    (case e_NoPaper => k_is)
    (case e_NoStep => k_is)
    (case e_NoRule => k_is)
    (case e_NoText => k_is)
    (case q_TooGreat => k_exc)
    (case q_NoPath => k_exc)
    (case x_TooGreat_TooGreat => kernel_rfl)
    (case x_EndError_TooGreat => kernel_rfl)
    (case x_EndError_NoPath => kernel_rfl)
    (case i_ValueError_TooGreat => kernel_rfl)
    (case i_ValueError_NoPath => kernel_rfl)
    (case w_TooGreat => exact ⟨by kernel_rfl, by k_is, by k_is, by k_is, by k_is, by k_is, by k_is, by k_is⟩)
    (case w_NoPath => exact ⟨by kernel_rfl, by k_is, by k_is, by k_is, by k_is, by k_is, by k_is, by k_is⟩)
    (case y_NoPath_TooGreat => kernel_rfl)
    (case y_NoPath_NoPath => kernel_rfl)
    (case y_EndError_TooGreat => kernel_rfl)
    (case y_EndError_NoPath => kernel_rfl)
    (case yt_0_TooGreat => kernel_rfl)
    (case yt_0_NoPath => kernel_rfl)
    (case yt_1_TooGreat => kernel_rfl)
    (case yt_1_NoPath => kernel_rfl)